/- What only this law leans on. -/
import Derived.Test.YthjpminlkcklgaaTowerSubfieldsG9
namespace Go.Proofs.Ythjpminlkcklgaa
open Go.RowKit
theorem wu64m {n r : Int} (h : n % 18446744073709551616 = r) : IntKind.u64.wrap n = r := by
  simp [IntKind.wrap, IntKind.bits, IntKind.signed]; omega
section
variable {P : Program} {n : Nat} {ro : Option Nat} {df : List Deferred} {N : Post} {L : Fr} {w : World} {ops : Array Oper} {rest : List Oper}
variable {d : Nat} {ty : TypeId} {pos : String} {af : Array Edge}
end
section
variable {P : Program} {n : Nat} {ro : Option Nat} {df : List Deferred} {N : Post} {L : Fr} {w : World} {ops : Array Oper} {rest : List Oper}
variable {d : Nat} {ty : TypeId} {pos : String} {af : Array Edge}
end
end Go.Proofs.Ythjpminlkcklgaa
set_option linter.unusedVariables false
namespace Go.Proofs.Ythjpminlkcklgaa
open Go.RowKit
theorem Try.nm33 : (Try.f33.name == "runtime.NumGoroutine") = false := by kernel_rfl
theorem Try.nm34 : (Try.f34.name == "runtime.NumGoroutine") = false := by kernel_rfl
end Go.Proofs.Ythjpminlkcklgaa
set_option linter.unusedSimpArgs false
set_option linter.unusedVariables false
namespace Go.Proofs.Ythjpminlkcklgaa
open Go.RowKit
def V_rNeg (Pf : Int) (Mf : Int) (mf : List Int) (x : Int) (Q : Int → Prop) : Prop :=
  V_rDigits Pf Mf mf x (fun x14 => ∃ (I24 : List Int → Int → Prop) (μ25 : List Int → Int → Nat), I24 x14 (0 : Int) ∧ ∀ (x22 : List Int) (z23 : Int), (I24 x22 z23 → (((z23 < ((x14.length : Nat) : Int)) → ((0 ≤ z23 ∧ z23 < (x14.length : Nat)) ∧ ((I64 (Pf - (gi x22 z23))) ∧ ((Pf ≠ 0) ∧ ((0 ≤ z23 ∧ z23 < (x14.length : Nat)) ∧ ((I64 (z23 + (1 : Int))) ∧ (I24 (si x22 z23 ((Pf - (gi x22 z23)).tmod Pf)) (z23 + (1 : Int)) ∧ μ25 (si x22 z23 ((Pf - (gi x22 z23)).tmod Pf)) (z23 + (1 : Int)) < μ25 x22 z23))))))) ∧ (¬ (z23 < ((x14.length : Nat) : Int)) → (V_rValue Pf Mf mf x22 (fun r48 => Q r48))))))
theorem ok_rNeg {w : World} {Q : Int → Prop} {Pf : Int} {Mf : Int} {mf : List Int} {x : Int} {Bf : Nat} {Af : Option Addr} {nf kf : Nat} (hf : Rd Bf w 1 Af nf kf (is mf)) (hv : V_rNeg Pf Mf mf x Q) :
    Calls Try.prog 34 #[.agg #[.int .i64 Pf, .int .i64 Mf, .slice Af nf kf], .int .i64 x] w fun e w' => ∃ v Qr, e = .returned v ∧ w.grownBy w' none ∧ Rows w.heap.size none w' Qr ∧ News w.heap.size Qr ∧ ∃ (r0 : Int), v = .int .i64 r0 ∧ Qr = [] ∧ Q r0 := by
  have hnf := hf.ilen
  subst hnf
  refine calls_swap ?_
  refine calls_of_W (vs := [.agg #[.int .i64 Pf, .int .i64 Mf, .slice Af mf.length kf], .int .i64 x]) [4] Try.func34 rfl rfl rfl rfl ?_
  have hS := St.start w
  unfold V_rNeg at hv
  refine W.seq ?_
  refine W.region ?_
  refine SL.box (z := 3) (cs := [.int .i64 Pf, .int .i64 Mf, .slice Af mf.length kf]) hS rfl rfl rfl rfl ?_
  intro g11 w12 hS
  refine WL.assign rfl rfl ?_
  refine WL.done ?_
  refine W.seq ?_
  refine W.region ?_
  refine WL.loadV (cs := [.int .i64 Pf, .int .i64 Mf, .slice Af mf.length kf]) Try.el24 Try.agg24 rfl rfl (Own.vcells (hS.own (i := 0) rfl)) rfl ?_
  refine WL.move rfl rfl ?_
  refine SL.call hS (ok_rDigits (hS.ro hf) hv) Try.func62 rfl Try.nm62 rfl rfl ?_
  rintro _ _ w13 ⟨x14, A15, k16, rfl, rfl, hv⟩ hGw13 hS
  change St _ _ _ _ [.row 3 1 A15 x14.length k16 (is x14), .row 24 3 (some ⟨g11, 0, none⟩) 1 1 [.int .i64 Pf, .int .i64 Mf, .slice Af mf.length kf]] at hS
  refine WL.assign rfl rfl ?_
  refine WL.done ?_
  refine W.seq ?_
  refine W.seq ?_
  refine W.region ?_
  refine WL.assign rfl rfl ?_
  refine WL.done ?_
  refine W.block ?_
  obtain ⟨I24, μ25, hv, hk49⟩ := hv
  change St _ _ _ _ [.row 3 1 A15 x14.length k16 (is x14), .row 24 3 (some ⟨g11, 0, none⟩) 1 1 [.int .i64 Pf, .int .i64 Mf, .slice Af mf.length kf]] at hS
  refine W.loop (σ := List Int × Int) (fun q w1 => match q with | (x22, z23) => I24 x22 z23 ∧ St TT w none w1 [.row 3 1 A15 x14.length k16 (is x22), .row 24 3 (some ⟨g11, 0, none⟩) 1 1 [.int .i64 Pf, .int .i64 Mf, .slice Af mf.length kf]]) (fun q => match q with | (x22, z23) => [(2, .pointer (some ⟨g11, 0, none⟩)), (4, .int .i64 (0 : Int)), (5, .slice A15 x14.length k16), (6, .int .i64 z23)]) (fun q => match q with | (x22, z23) => μ25 x22 z23) (x14, (0 : Int)) ⟨hv, hS⟩ ⟨rfl, rfl, rfl, rfl, trivial⟩ ?_
  rintro ⟨x22, z23⟩ w26 ⟨hv, hS⟩
  have hv := hk49 x22 z23 hv
  refine W.seq ?_
  refine W.seq ?_
  refine W.region ?_
  refine WL.move rfl rfl ?_
  refine WL.move rfl rfl ?_
  refine WL.len Try.underlying22 rfl rfl ?_
  refine WL.lssD rfl rfl rfl ?_
  refine WL.done ?_
  refine W.cond2 rfl (fun c27 => ?_) (fun c27 => ?_)
  · have hv := hv.1 (of_decide_eq_true c27)
    refine W.skip ?_
    refine W.seq ?_
    refine W.block ?_
    obtain ⟨o35, hv⟩ := hv
    obtain ⟨o38, hv⟩ := hv
    obtain ⟨o42, hv⟩ := hv
    have hS0 := hS
    refine W.drawX 12 (fun _ => false) (fun _ => none) [⟨[], [5], true⟩, ⟨[], [6], true⟩, ⟨[], [2], true⟩, ⟨[2], [], false⟩, ⟨[], [5], true⟩, ⟨[], [6], true⟩, ⟨[4, 5], [], true⟩, ⟨[6], [], false⟩, ⟨[3, 7], [], true⟩, ⟨[], [2], true⟩, ⟨[9], [], false⟩, ⟨[8, 10], [], true⟩] [[(5, .slice A15 x14.length k16)], [(6, .int .i64 z23)], [(2, .pointer (some ⟨g11, 0, none⟩))], [], [(5, .slice A15 x14.length k16)], [(6, .int .i64 z23)], [], [], [], [(2, .pointer (some ⟨g11, 0, none⟩))], [], []] (fun iQ => [fun v _ => v = .slice A15 x14.length k16, fun v _ => v = .int .i64 z23, fun v _ => v = .pointer (some ⟨g11, 0, none⟩), fun v _ => v = .int .i64 Pf, fun v _ => v = .slice A15 x14.length k16, fun v _ => v = .int .i64 z23, fun v _ => v = .pointer (some ((adOf A15).add z23.toNat)), fun v _ => v = .int .i64 (gi x22 z23), fun v _ => v = .int .i64 (Pf - (gi x22 z23)), fun v _ => v = .pointer (some ⟨g11, 0, none⟩), fun v _ => v = .int .i64 Pf, fun v _ => v = .int .i64 ((Pf - (gi x22 z23)).tmod Pf)].getD iQ (fun _ _ => True)) Try.mixed (by kernel_rfl) ?_ (by kernel_rfl) ?_ ?_
    · refine Vs_monoT _ ?_
      intro VQ hVQ vQ wQ1 wQ2 hQ1 hQ2
      simp only [List.mem_cons, List.not_mem_nil, or_false] at hVQ
      rcases hVQ with rfl | rfl | rfl | rfl | rfl | rfl | rfl | rfl | rfl | rfl | rfl | rfl
      · exact hQ1
      · exact hQ1
      · exact hQ1
      · exact hQ1
      · exact hQ1
      · exact hQ1
      · exact hQ1
      · exact hQ1
      · exact hQ1
      · exact hQ1
      · exact hQ1
      · exact hQ1
    · refine ⟨⟨rfl, ⟨rfl, trivial⟩, ?_⟩, ⟨rfl, ⟨rfl, trivial⟩, ?_⟩, ⟨rfl, ⟨rfl, trivial⟩, ?_⟩, ⟨rfl, trivial, ?_⟩, ⟨rfl, ⟨rfl, trivial⟩, ?_⟩, ⟨rfl, ⟨rfl, trivial⟩, ?_⟩, ⟨rfl, trivial, ?_⟩, ⟨rfl, trivial, ?_⟩, ⟨rfl, trivial, ?_⟩, ⟨rfl, ⟨rfl, trivial⟩, ?_⟩, ⟨rfl, trivial, ?_⟩, ⟨rfl, trivial, ?_⟩, trivial⟩
      · intro w28 hE
        intro RR
        refine WL.move rfl rfl ?_
        exact WL.done ⟨_, rfl, rfl, rfl, (fun h => absurd h (by decide)), (fun j h => by cases h)⟩
      · intro w29 hE
        intro RR
        refine WL.move rfl rfl ?_
        exact WL.done ⟨_, rfl, rfl, rfl, (fun h => absurd h (by decide)), (fun j h => by cases h)⟩
      · intro w30 hE
        intro RR
        refine WL.fieldA (off := 0) Try.fla24_0 rfl rfl ?_
        exact WL.done ⟨_, rfl, rfl, rfl, (fun h => absurd h (by decide)), (fun j h => by cases h)⟩
      · intro w31 hE
        have hE := hE rfl
        have hS := hS.grow hE
        rintro _ rfl
        intro RR
        refine WL.load Try.underlying3 rfl rfl (Own.vcells (hS.own (i := 1) rfl) 0 _ rfl) rfl ?_
        exact WL.done ⟨_, rfl, ext_refl _, rfl, (fun h => absurd h (by decide)), (fun j h => by cases h)⟩
      · intro w32 hE
        intro RR
        refine WL.move rfl rfl ?_
        exact WL.done ⟨_, rfl, rfl, rfl, (fun h => absurd h (by decide)), (fun j h => by cases h)⟩
      · intro w33 hE
        intro RR
        refine WL.move rfl rfl ?_
        exact WL.done ⟨_, rfl, rfl, rfl, (fun h => absurd h (by decide)), (fun j h => by cases h)⟩
      · intro w34 hE
        rintro _ rfl
        rintro _ rfl
        intro RR
        refine SL.index Try.underlying22 Try.el3 (hS.rd (i := 0) rfl) rfl rfl o35 rfl ?_
        exact WL.done ⟨_, rfl, rfl, rfl, (fun h => absurd h (by decide)), (fun j h => by cases h)⟩
      · intro w36 hE
        have hE := hE rfl
        have hS := hS.grow hE
        rintro _ rfl
        intro RR
        refine WL.load Try.underlying3 rfl rfl (Rd.gi (hS.rd (i := 0) rfl) o35) rfl ?_
        exact WL.done ⟨_, rfl, ext_refl _, rfl, (fun h => absurd h (by decide)), (fun j h => by cases h)⟩
      · intro w37 hE
        rintro _ rfl
        rintro _ rfl
        intro RR
        refine WL.sub (r := (Pf - (gi x22 z23))) rfl rfl (wr o38) rfl ?_
        exact WL.done ⟨_, rfl, rfl, rfl, (fun h => absurd h (by decide)), (fun j h => by cases h)⟩
      · intro w39 hE
        intro RR
        refine WL.fieldA (off := 0) Try.fla24_0 rfl rfl ?_
        exact WL.done ⟨_, rfl, rfl, rfl, (fun h => absurd h (by decide)), (fun j h => by cases h)⟩
      · intro w40 hE
        have hE := hE rfl
        have hS := hS.grow hE
        rintro _ rfl
        intro RR
        refine WL.load Try.underlying3 rfl rfl (Own.vcells (hS.own (i := 1) rfl) 0 _ rfl) rfl ?_
        exact WL.done ⟨_, rfl, ext_refl _, rfl, (fun h => absurd h (by decide)), (fun j h => by cases h)⟩
      · intro w41 hE
        rintro _ rfl
        rintro _ rfl
        intro RR
        refine WL.rem (r := ((Pf - (gi x22 z23)).tmod Pf)) rfl rfl o42 rfl rfl ?_
        exact WL.done ⟨_, rfl, rfl, rfl, (fun h => absurd h (by decide)), (fun j h => by cases h)⟩
    · intro vals w43 hT hVs hAp hCp
      have hS := hS.grow hT
      have hv0 : vals 0 = _ := hVs 0 (by decide)
      have hv1 : vals 1 = _ := hVs 1 (by decide)
      have hv2 : vals 2 = _ := hVs 2 (by decide)
      have hv3 : vals 3 = _ := hVs 3 (by decide)
      have hv4 : vals 4 = _ := hVs 4 (by decide)
      have hv5 : vals 5 = _ := hVs 5 (by decide)
      have hv6 : vals 6 = _ := hVs 6 (by decide)
      have hv7 : vals 7 = _ := hVs 7 (by decide)
      have hv8 : vals 8 = _ := hVs 8 (by decide)
      have hv9 : vals 9 = _ := hVs 9 (by decide)
      have hv10 : vals 10 = _ := hVs 10 (by decide)
      have hv11 : vals 11 = _ := hVs 11 (by decide)
      rw [show (List.filterMap (fun i => Option.map (fun t => (t, vals i)) (dstAt _ i)) (List.range _)) = [(16, .slice A15 x14.length k16), (17, .int .i64 z23), (18, .pointer (some ⟨g11, 0, none⟩)), (19, .int .i64 Pf), (20, .slice A15 x14.length k16), (21, .int .i64 z23), (22, .pointer (some ((adOf A15).add z23.toNat))), (23, .int .i64 (gi x22 z23)), (24, .int .i64 (Pf - (gi x22 z23))), (25, .pointer (some ⟨g11, 0, none⟩)), (26, .int .i64 Pf), (27, .int .i64 ((Pf - (gi x22 z23)).tmod Pf))] from by
        show [(16, vals 0), (17, vals 1), (18, vals 2), (19, vals 3), (20, vals 4), (21, vals 5), (22, vals 6), (23, vals 7), (24, vals 8), (25, vals 9), (26, vals 10), (27, vals 11)] = _
        rw [hv0, hv1, hv2, hv3, hv4, hv5, hv6, hv7, hv8, hv9, hv10, hv11]]
      refine WA.step [12] (by decide +kernel) rfl ?_
      intro iQ hQ
      simp only [List.mem_cons, List.not_mem_nil, or_false] at hQ
      obtain rfl := hQ
      refine ⟨_, rfl, ?_⟩
      obtain ⟨o44, hv⟩ := hv
      refine SL.index Try.underlying22 Try.el3 (hS.rd (i := 0) rfl) rfl rfl o44 rfl ?_
      refine WL.done ?_
      refine WA.step [13] (by decide +kernel) rfl ?_
      intro iQ hQ
      simp only [List.mem_cons, List.not_mem_nil, or_false] at hQ
      obtain rfl := hQ
      refine ⟨_, rfl, ?_⟩
      refine SL.store (cs' := is (si x22 z23 ((Pf - (gi x22 z23)).tmod Pf))) 0 z23.toNat hS rfl Try.el3 rfl rfl rfl (is_lt (hS.rd (i := 0) rfl) o44) (is_set _ _ _) ?_
      intro w45 hS
      refine WL.done ?_
      refine WA.done (by decide +kernel) ?_
      refine W.region ?_
      refine WL.move rfl rfl ?_
      obtain ⟨o46, hv⟩ := hv
      refine WL.add (r := (z23 + (1 : Int))) rfl rfl (wr o46) rfl ?_
      refine WL.assign rfl rfl ?_
      refine WL.done ?_
      change St _ _ _ _ [.row 3 1 A15 x14.length k16 (is (si x22 z23 ((Pf - (gi x22 z23)).tmod Pf))), .row 24 3 (some ⟨g11, 0, none⟩) 1 1 [.int .i64 Pf, .int .i64 Mf, .slice Af mf.length kf]] at hS
      exact ⟨(si x22 z23 ((Pf - (gi x22 z23)).tmod Pf), (z23 + (1 : Int))), ⟨rfl, rfl, rfl, rfl, trivial⟩, hv.2, rfl, hv.1, hS⟩
  · have hv := hv.2 (of_decide_eq_false c27)
    refine W.exit ?_
    refine W.seq ?_
    refine W.region ?_
    refine WL.loadV (cs := [.int .i64 Pf, .int .i64 Mf, .slice Af mf.length kf]) Try.el24 Try.agg24 rfl rfl (Own.vcells (hS.own (i := 1) rfl)) rfl ?_
    refine WL.move rfl rfl ?_
    refine SL.call hS (ok_rValue (hS.ro hf) (hS.rd (i := 0) rfl) hv) Try.func63 rfl Try.nm63 rfl rfl ?_
    rintro _ _ w47 ⟨r48, rfl, rfl, hv⟩ hGw47 hS
    change St _ _ _ _ [.row 3 1 A15 x14.length k16 (is x22), .row 24 3 (some ⟨g11, 0, none⟩) 1 1 [.int .i64 Pf, .int .i64 Mf, .slice Af mf.length kf]] at hS
    refine WL.assign rfl rfl ?_
    refine WL.done ?_
    refine W.ret ?_
    refine ⟨_, rfl, Fin.nil ?_⟩
    exact ⟨_, hS.ext, (hS.pick [] rfl).rows, News.of (hS.pick [] rfl).rows rfl, ⟨r48, rfl, rfl, hv⟩⟩

def V_rInv (Pf : Int) (Mf : Int) (mf : List Int) (x : Int) (Q : Int → Prop) : Prop :=
  ∃ (I16 : Int → Prop) (μ17 : Int → Nat), I16 (1 : Int) ∧ ∀ (z15 : Int), (I16 z15 → (V_rOrder Pf Mf mf (fun r20 => ((z15 < r20) → (V_rMul Pf Mf mf x z15 (fun r23 => ((r23 = (1 : Int)) → Q z15) ∧ (¬ (r23 = (1 : Int)) → ((I64 (z15 + (1 : Int))) ∧ (I16 (z15 + (1 : Int)) ∧ μ17 (z15 + (1 : Int)) < μ17 z15)))))) ∧ (¬ (z15 < r20) → (Q (0 : Int))))))
theorem ok_rInv {w : World} {Q : Int → Prop} {Pf : Int} {Mf : Int} {mf : List Int} {x : Int} {Bf : Nat} {Af : Option Addr} {nf kf : Nat} (hf : Rd Bf w 1 Af nf kf (is mf)) (hv : V_rInv Pf Mf mf x Q) :
    Calls Try.prog 33 #[.agg #[.int .i64 Pf, .int .i64 Mf, .slice Af nf kf], .int .i64 x] w fun e w' => ∃ v Qr, e = .returned v ∧ w.grownBy w' none ∧ Rows w.heap.size none w' Qr ∧ News w.heap.size Qr ∧ ∃ (r0 : Int), v = .int .i64 r0 ∧ Qr = [] ∧ Q r0 := by
  have hnf := hf.ilen
  subst hnf
  refine calls_swap ?_
  refine calls_of_W (vs := [.agg #[.int .i64 Pf, .int .i64 Mf, .slice Af mf.length kf], .int .i64 x]) [4] Try.func33 rfl rfl rfl rfl ?_
  have hS := St.start w
  unfold V_rInv at hv
  refine W.seq ?_
  refine W.region ?_
  refine SL.box (z := 3) (cs := [.int .i64 Pf, .int .i64 Mf, .slice Af mf.length kf]) hS rfl rfl rfl rfl ?_
  intro g11 w12 hS
  refine WL.assign rfl rfl ?_
  refine WL.done ?_
  refine W.seq ?_
  refine W.seq ?_
  refine W.region ?_
  refine WL.assign rfl rfl ?_
  refine WL.done ?_
  refine W.block ?_
  obtain ⟨I16, μ17, hv, hk26⟩ := hv
  change St _ _ _ _ [.row 24 3 (some ⟨g11, 0, none⟩) 1 1 [.int .i64 Pf, .int .i64 Mf, .slice Af mf.length kf]] at hS
  refine W.loop (σ := Int) (fun z15 w1 => I16 z15 ∧ St TT w none w1 [.row 24 3 (some ⟨g11, 0, none⟩) 1 1 [.int .i64 Pf, .int .i64 Mf, .slice Af mf.length kf]]) (fun z15 => [(1, .int .i64 x), (2, .pointer (some ⟨g11, 0, none⟩)), (4, .int .i64 (0 : Int)), (5, .int .i64 z15)]) (fun z15 => μ17 z15) (1 : Int) ⟨hv, hS⟩ ⟨rfl, rfl, rfl, rfl, trivial⟩ ?_
  rintro z15 w18 ⟨hv, hS⟩
  have hv := hk26 z15 hv
  refine W.seq ?_
  refine W.seq ?_
  refine W.region ?_
  refine WL.move rfl rfl ?_
  refine WL.loadV (cs := [.int .i64 Pf, .int .i64 Mf, .slice Af mf.length kf]) Try.el24 Try.agg24 rfl rfl (Own.vcells (hS.own (i := 0) rfl)) rfl ?_
  refine SL.call hS (ok_rOrder (hS.ro hf) hv) Try.func31 rfl Try.nm31 rfl rfl ?_
  rintro _ _ w19 ⟨r20, rfl, rfl, hv⟩ hGw19 hS
  change St _ _ _ _ [.row 24 3 (some ⟨g11, 0, none⟩) 1 1 [.int .i64 Pf, .int .i64 Mf, .slice Af mf.length kf]] at hS
  refine WL.lssD rfl rfl rfl ?_
  refine WL.done ?_
  refine W.cond2 rfl (fun c21 => ?_) (fun c21 => ?_)
  · have hv := hv.1 (of_decide_eq_true c21)
    refine W.skip ?_
    refine W.seq ?_
    refine W.block ?_
    refine W.seq ?_
    refine W.region ?_
    refine WL.loadV (cs := [.int .i64 Pf, .int .i64 Mf, .slice Af mf.length kf]) Try.el24 Try.agg24 rfl rfl (Own.vcells (hS.own (i := 0) rfl)) rfl ?_
    refine WL.move rfl rfl ?_
    refine WL.move rfl rfl ?_
    refine SL.call hS (ok_rMul (hS.ro hf) hv) Try.func25 rfl Try.nm25 rfl rfl ?_
    rintro _ _ w22 ⟨r23, rfl, rfl, hv⟩ hGw22 hS
    change St _ _ _ _ [.row 24 3 (some ⟨g11, 0, none⟩) 1 1 [.int .i64 Pf, .int .i64 Mf, .slice Af mf.length kf]] at hS
    refine WL.eqlD rfl rfl rfl ?_
    refine WL.done ?_
    refine W.cond2 rfl (fun c24 => ?_) (fun c24 => ?_)
    · have hv := hv.1 (of_decide_eq_true c24)
      refine W.seq ?_
      refine W.region ?_
      refine WL.move rfl rfl ?_
      refine WL.assign rfl rfl ?_
      refine WL.done ?_
      refine W.ret ?_
      refine ⟨_, rfl, Fin.nil ?_⟩
      exact ⟨_, hS.ext, (hS.pick [] rfl).rows, News.of (hS.pick [] rfl).rows rfl, ⟨z15, rfl, rfl, hv⟩⟩
    · have hv := hv.2 (of_decide_eq_false c24)
      refine W.skip ?_
      refine W.region ?_
      refine WL.move rfl rfl ?_
      obtain ⟨o25, hv⟩ := hv
      refine WL.add (r := (z15 + (1 : Int))) rfl rfl (wr o25) rfl ?_
      refine WL.assign rfl rfl ?_
      refine WL.done ?_
      change St _ _ _ _ [.row 24 3 (some ⟨g11, 0, none⟩) 1 1 [.int .i64 Pf, .int .i64 Mf, .slice Af mf.length kf]] at hS
      exact ⟨(z15 + (1 : Int)), ⟨rfl, rfl, rfl, rfl, trivial⟩, hv.2, rfl, hv.1, hS⟩
  · have hv := hv.2 (of_decide_eq_false c21)
    refine W.exit ?_
    refine W.seq ?_
    refine W.region ?_
    refine WL.assign rfl rfl ?_
    refine WL.done ?_
    refine W.ret ?_
    refine ⟨_, rfl, Fin.nil ?_⟩
    exact ⟨_, hS.ext, (hS.pick [] rfl).rows, News.of (hS.pick [] rfl).rows rfl, ⟨(0 : Int), rfl, rfl, hv⟩⟩
end Go.Proofs.Ythjpminlkcklgaa
set_option linter.unusedVariables false
set_option linter.unusedSimpArgs false
namespace Go.Proofs.Ythjpminlkcklgaa
section
variable {P M : Int} {mf : List Int} {p m v : Nat}
theorem v_rNeg (F : FV P M mf p m v) {x : Int} {Q : Int → Prop} (h : Q ((fneg p m (inE (p ^ m) x) : Nat) : Int)) : V_rNeg P M mf x Q := by
  have hp := F.p2
  have hp2 := F.p256
  have hm8 := F.m8
  have hx := inE_lt F.ring.pos x
  refine v_rDigits F ?_
  generalize inE (p ^ m) x = a at *
  have hla := dgi_len p m a
  rw [hla]
  refine ⟨fun l z => ∃ k : Nat, z = k ∧ k ≤ m ∧ l.length = m ∧ ∀ i, i < m → vo l i = if i < k then (vsm (-1) (dv p a)) i % (p : Int) else dv p a i, fun l z => (m - z).toNat, ⟨0, rfl, Nat.zero_le _, hla, fun i hi => by rw [if_neg (by omega), dgi_at hi]⟩, ?_⟩
  rintro l _ ⟨k, rfl, hk, hl, hv⟩
  dsimp only
  rw [gi_nat, si_nat]
  refine ⟨fun hlt => ?_, fun hge => v_rVal F hl (fun i hi => by rw [hv i hi, if_pos (by omega)]) h⟩
  rw [hv k (by omega), if_neg (by omega)]
  have c1 := dv_le (p := p) (by omega) a k
  rw [F.eP]
  refine ⟨⟨by omega, by omega⟩, small (by omega) (by omega), by omega, ⟨by omega, by omega⟩, small (by omega) (by omega), ⟨k + 1, by push_cast; rfl, by omega, by rw [List.length_set, hl], fun i hi => ?_⟩, by omega⟩
  rw [vo_set]
  by_cases hki : k = i
  · subst hki
    rw [if_pos ⟨rfl, by omega⟩, if_pos (by omega), Int.tmod_eq_emod_of_nonneg (by omega)]
    show _ = (-1 * dv p a k) % (p : Int)
    rw [show (p : Int) - dv p a k = -1 * dv p a k + p * 1 by omega, Int.add_mul_emod_self_left]
  · rw [if_neg (fun h => hki h.1), hv i hi]
    by_cases hik : i < k
    · rw [if_pos hik, if_pos (by omega)]
    · rw [if_neg hik, if_neg (by omega)]
end
section
variable {P M : Int} {mf : List Int} {p m v : Nat}
end
end Go.Proofs.Ythjpminlkcklgaa
set_option linter.unusedSimpArgs false
set_option linter.unusedVariables false
namespace Go.Proofs.Ythjpminlkcklgaa
open Go.RowKit
def V_TowerClosed (Pf : Int) (Mf : Int) (mf : List Int) (v0 : Int) (v1 : Int) (d : Int) (Q : Bool → Prop) : Prop :=
  V_alive  (fun r16 => (((!r16) = true) → Q false) ∧ ((!r16) = false → (V_made Pf Mf mf (fun q => match q with | none => Q true | some F21 => V_tdivides Pf Mf mf d (fun r28 => (((!r28) = true) → Q true) ∧ ((!r28) = false → (V_subfield F21 d (fun q => match q with | (x31, r35) => ((r35 ≠ (0 : Int)) → Q false) ∧ (¬ (r35 ≠ (0 : Int)) → (((((x31.length : Nat) : Int) = (0 : Int)) → Q false) ∧ (¬ (((x31.length : Nat) : Int) = (0 : Int)) → (V_rOrder Pf Mf mf (fun r39 => (0 ≤ r39 ∧ r39 * 1 ≤ 281474976710656 ∧ r39 ≤ 281474976710656) ∧ (∃ (I50 : List Bool → Int → Prop) (μ51 : List Bool → Int → Nat), I50 (List.replicate r39.toNat false) (0 : Int) ∧ ∀ (x48 : List Bool) (z49 : Int), (I50 x48 z49 → (((z49 < ((x31.length : Nat) : Int)) → ((0 ≤ z49 ∧ z49 < (x31.length : Nat)) ∧ (V_rIs Pf Mf mf (gi x31 z49) (fun r56 => (((!r56) = true) → Q false) ∧ ((!r56) = false → ((0 ≤ (gi x31 z49) ∧ (gi x31 z49) < (r39.toNat : Nat)) ∧ ((I64 (z49 + (1 : Int))) ∧ (I50 (sb x48 (gi x31 z49) true) (z49 + (1 : Int)) ∧ μ51 (sb x48 (gi x31 z49) true) (z49 + (1 : Int)) < μ51 x48 z49)))))))) ∧ (¬ (z49 < ((x31.length : Nat) : Int)) → (((((x31.length : Nat) : Int) % 18446744073709551616) ≠ 0) ∧ ((I64 ((v0 % 18446744073709551616).tmod (((x31.length : Nat) : Int) % 18446744073709551616))) ∧ ((0 ≤ ((v0 % 18446744073709551616).tmod (((x31.length : Nat) : Int) % 18446744073709551616)) ∧ ((v0 % 18446744073709551616).tmod (((x31.length : Nat) : Int) % 18446744073709551616)) < (x31.length : Nat)) ∧ (((((x31.length : Nat) : Int) % 18446744073709551616) ≠ 0) ∧ ((I64 ((v1 % 18446744073709551616).tmod (((x31.length : Nat) : Int) % 18446744073709551616))) ∧ ((0 ≤ ((v1 % 18446744073709551616).tmod (((x31.length : Nat) : Int) % 18446744073709551616)) ∧ ((v1 % 18446744073709551616).tmod (((x31.length : Nat) : Int) % 18446744073709551616)) < (x31.length : Nat)) ∧ (V_rAdd Pf Mf mf (gi x31 ((v0 % 18446744073709551616).tmod (((x31.length : Nat) : Int) % 18446744073709551616))) (gi x31 ((v1 % 18446744073709551616).tmod (((x31.length : Nat) : Int) % 18446744073709551616))) (fun r93 => (0 ≤ r93 ∧ r93 < (r39.toNat : Nat)) ∧ ((((gb x48 r93) = true) → (V_rMul Pf Mf mf (gi x31 ((v0 % 18446744073709551616).tmod (((x31.length : Nat) : Int) % 18446744073709551616))) (gi x31 ((v1 % 18446744073709551616).tmod (((x31.length : Nat) : Int) % 18446744073709551616))) (fun r97 => (0 ≤ r97 ∧ r97 < (r39.toNat : Nat)) ∧ ((((gb x48 r97) = true) → (V_rInv Pf Mf mf (gi x31 ((v0 % 18446744073709551616).tmod (((x31.length : Nat) : Int) % 18446744073709551616))) (fun r101 => (0 ≤ r101 ∧ r101 < (r39.toNat : Nat)) ∧ ((((gb x48 r101) = true) → (V_rNeg Pf Mf mf (gi x31 ((v0 % 18446744073709551616).tmod (((x31.length : Nat) : Int) % 18446744073709551616))) (fun r105 => (0 ≤ r105 ∧ r105 < (r39.toNat : Nat)) ∧ (Q (gb x48 r105))))) ∧ ((gb x48 r101) = false → Q false))))) ∧ ((gb x48 r97) = false → Q false))))) ∧ ((gb x48 r93) = false → Q false)))))))))))))))))))))))))))
theorem ok_TowerClosed {w : World} {Q : Bool → Prop} {Pf : Int} {Mf : Int} {mf : List Int} {v0 : Int} {v1 : Int} {d : Int} {Bf : Nat} {Af : Option Addr} {nf kf : Nat} (hf : Rd Bf w 1 Af nf kf (is mf)) (hv : V_TowerClosed Pf Mf mf v0 v1 d Q) :
    Calls Try.prog 6 #[.agg #[.int .i64 Pf, .int .i64 Mf, .slice Af nf kf], .agg #[.int .i64 v0, .int .i64 v1], .int .i64 d] w fun e w' => ∃ v Qr, e = .returned v ∧ w.grownBy w' none ∧ Rows w.heap.size none w' Qr ∧ News w.heap.size Qr ∧ ∃ (r0 : Bool), v = .bool r0 ∧ Qr = [] ∧ Q r0 := by
  have hnf := hf.ilen
  subst hnf
  refine calls_swap ?_
  refine calls_of_W (vs := [.agg #[.int .i64 Pf, .int .i64 Mf, .slice Af mf.length kf], .agg #[.int .i64 v0, .int .i64 v1], .int .i64 d]) [6] Try.func6 rfl rfl rfl rfl ?_
  have hS := St.start w
  unfold V_TowerClosed at hv
  refine W.seq ?_
  refine W.region ?_
  refine SL.box (z := 3) (cs := [.int .i64 Pf, .int .i64 Mf, .slice Af mf.length kf]) hS rfl rfl rfl rfl ?_
  intro g11 w12 hS
  refine SL.box (z := 2) (cs := [.int .i64 v0, .int .i64 v1]) hS rfl rfl rfl rfl ?_
  intro g13 w14 hS
  refine WL.assign rfl rfl ?_
  refine WL.done ?_
  refine W.seq ?_
  refine W.seq ?_
  refine W.region ?_
  refine SL.call hS (ok_alive  hv) Try.func20 rfl Try.nm20 rfl rfl ?_
  rintro _ _ w15 ⟨r16, rfl, rfl, hv⟩ hGw15 hS
  change St _ _ _ _ [.row 31 2 (some ⟨g13, 0, none⟩) 1 1 [.int .i64 v0, .int .i64 v1], .row 24 3 (some ⟨g11, 0, none⟩) 1 1 [.int .i64 Pf, .int .i64 Mf, .slice Af mf.length kf]] at hS
  refine WL.not rfl rfl ?_
  refine WL.done ?_
  refine W.cond2 rfl (fun c17 => ?_) (fun c17 => ?_)
  · have hv := hv.1 (c17)
    refine W.seq ?_
    refine W.region ?_
    refine WL.assign rfl rfl ?_
    refine WL.done ?_
    refine W.ret ?_
    refine ⟨_, rfl, Fin.nil ?_⟩
    exact ⟨_, hS.ext, (hS.pick [] rfl).rows, News.of (hS.pick [] rfl).rows rfl, ⟨false, rfl, rfl, hv⟩⟩
  · have hv := hv.2 (c17)
    refine W.skip ?_
    refine W.seq ?_
    refine W.region ?_
    refine WL.loadV (cs := [.int .i64 Pf, .int .i64 Mf, .slice Af mf.length kf]) Try.el24 Try.agg24 rfl rfl (Own.vcells (hS.own (i := 1) rfl)) rfl ?_
    refine SL.call hS (ok_made (hS.ro hf) hv) Try.func21 rfl Try.nm21 rfl rfl ?_
    rintro _ _ w19 ⟨o, hv, hK⟩ hGw19 hS
    cases o with
    | none =>
      obtain ⟨rfl, rfl⟩ := hK
      change St _ _ _ _ [.row 31 2 (some ⟨g13, 0, none⟩) 1 1 [.int .i64 v0, .int .i64 v1], .row 24 3 (some ⟨g11, 0, none⟩) 1 1 [.int .i64 Pf, .int .i64 Mf, .slice Af mf.length kf]] at hS
      refine WL.assign rfl rfl ?_
      refine WL.done ?_
      refine W.seq ?_
      refine W.seq ?_
      refine W.region ?_
      refine WL.move rfl rfl ?_
      refine WL.eqlPn Try.underlying26 rfl rfl rfl rfl ?_
      refine WL.move rfl rfl ?_
      refine WL.pass rfl rfl rfl ?_
      refine WL.pass rfl rfl rfl ?_
      refine WL.pass rfl rfl rfl ?_
      refine WL.pass rfl rfl rfl ?_
      refine WL.pick rfl rfl rfl ?_
      refine WL.done ?_
      refine W.condT rfl ?_
      refine W.seq ?_
      refine W.region ?_
      refine WL.assign rfl rfl ?_
      refine WL.done ?_
      refine W.ret ?_
      refine ⟨_, rfl, Fin.nil ?_⟩
      exact ⟨_, hS.ext, (hS.pick [] rfl).rows, News.of (hS.pick [] rfl).rows rfl, ⟨true, rfl, rfl, hv⟩⟩
    | some F21 =>
      obtain ⟨ad22, lo23, hi24, rfl, rfl⟩ := hK
      change St _ _ _ _ [.ch lo23 hi24 (fun wz => GFX lo23 hi24 wz ad22 F21), .row 31 2 (some ⟨g13, 0, none⟩) 1 1 [.int .i64 v0, .int .i64 v1], .row 24 3 (some ⟨g11, 0, none⟩) 1 1 [.int .i64 Pf, .int .i64 Mf, .slice Af mf.length kf]] at hS
      refine WL.assign rfl rfl ?_
      refine WL.done ?_
      refine W.seq ?_
      refine W.seq ?_
      refine W.region ?_
      refine WL.move rfl rfl ?_
      refine WL.eqlPn Try.underlying26 rfl rfl rfl rfl ?_
      refine WL.move rfl rfl ?_
      refine WL.take rfl ?_
      refine WL.loadV (cs := [.int .i64 Pf, .int .i64 Mf, .slice Af mf.length kf]) Try.el24 Try.agg24 rfl rfl (Own.vcells (hS.own (i := 2) rfl)) rfl ?_
      refine WL.take rfl ?_
      refine WL.move rfl rfl ?_
      refine WL.take rfl ?_
      refine SL.call hS (ok_tdivides (hS.ro hf) hv) Try.func28 rfl Try.nm28 rfl rfl ?_
      rintro _ _ w27 ⟨r28, rfl, rfl, hv⟩ hGw27 hS
      change St _ _ _ _ [.ch lo23 hi24 (fun wz => GFX lo23 hi24 wz ad22 F21), .row 31 2 (some ⟨g13, 0, none⟩) 1 1 [.int .i64 v0, .int .i64 v1], .row 24 3 (some ⟨g11, 0, none⟩) 1 1 [.int .i64 Pf, .int .i64 Mf, .slice Af mf.length kf]] at hS
      refine WL.take rfl ?_
      refine WL.not rfl rfl ?_
      refine WL.pick rfl rfl rfl ?_
      refine WL.done ?_
      refine W.cond2 rfl (fun c29 => ?_) (fun c29 => ?_)
      · have hv := hv.1 (c29)
        refine W.seq ?_
        refine W.region ?_
        refine WL.assign rfl rfl ?_
        refine WL.done ?_
        refine W.ret ?_
        refine ⟨_, rfl, Fin.nil ?_⟩
        exact ⟨_, hS.ext, (hS.pick [] rfl).rows, News.of (hS.pick [] rfl).rows rfl, ⟨true, rfl, rfl, hv⟩⟩
      · have hv := hv.2 (c29)
        refine W.skip ?_
        refine W.seq ?_
        refine W.region ?_
        refine WL.move rfl rfl ?_
        refine WL.move rfl rfl ?_
        refine SL.call hS (ok_subfield (GFX.gfr (hS.chunk (i := 0) rfl)) hv) Try.func27 rfl Try.nm27 rfl rfl ?_
        rintro _ _ w30 ⟨x31, r35, A32, k33, rfl, rfl, hv⟩ hGw30 hS
        change St _ _ _ _ [.row 3 1 A32 x31.length k33 (is x31), .ch lo23 hi24 (fun wz => GFX lo23 hi24 wz ad22 F21), .row 31 2 (some ⟨g13, 0, none⟩) 1 1 [.int .i64 v0, .int .i64 v1], .row 24 3 (some ⟨g11, 0, none⟩) 1 1 [.int .i64 Pf, .int .i64 Mf, .slice Af mf.length kf]] at hS
        refine WL.move rfl rfl ?_
        refine WL.extract rfl rfl rfl ?_
        refine WL.extract rfl rfl rfl ?_
        refine WL.assign rfl rfl ?_
        refine WL.assign rfl rfl ?_
        refine WL.done ?_
        refine W.seq ?_
        refine W.seq ?_
        refine W.region ?_
        refine WL.move rfl rfl ?_
        refine WL.neqD rfl rfl rfl ?_
        refine WL.move rfl rfl ?_
        by_cases g36 : r35 ≠ (0 : Int)
        · have hv := hv.1 g36
          rw [decide_eq_true g36]
          refine WL.pass rfl rfl rfl ?_
          refine WL.pass rfl rfl rfl ?_
          refine WL.pass rfl rfl rfl ?_
          refine WL.pick rfl rfl rfl ?_
          refine WL.done ?_
          refine W.condT rfl ?_
          refine W.seq ?_
          refine W.region ?_
          refine WL.assign rfl rfl ?_
          refine WL.done ?_
          refine W.ret ?_
          refine ⟨_, rfl, Fin.nil ?_⟩
          exact ⟨_, hS.ext, (hS.pick [] rfl).rows, News.of (hS.pick [] rfl).rows rfl, ⟨false, rfl, rfl, hv⟩⟩
        · have hv := hv.2 g36
          rw [decide_eq_false g36]
          refine WL.take rfl ?_
          refine WL.move rfl rfl ?_
          refine WL.take rfl ?_
          refine WL.len Try.underlying22 rfl rfl ?_
          refine WL.take rfl ?_
          refine WL.eqlD rfl rfl rfl ?_
          refine WL.pick rfl rfl rfl ?_
          refine WL.done ?_
          refine W.cond2 rfl (fun c37 => ?_) (fun c37 => ?_)
          · have hv := hv.1 (of_decide_eq_true c37)
            refine W.seq ?_
            refine W.region ?_
            refine WL.assign rfl rfl ?_
            refine WL.done ?_
            refine W.ret ?_
            refine ⟨_, rfl, Fin.nil ?_⟩
            exact ⟨_, hS.ext, (hS.pick [] rfl).rows, News.of (hS.pick [] rfl).rows rfl, ⟨false, rfl, rfl, hv⟩⟩
          · have hv := hv.2 (of_decide_eq_false c37)
            refine W.skip ?_
            refine W.seq ?_
            refine W.region ?_
            refine WL.loadV (cs := [.int .i64 Pf, .int .i64 Mf, .slice Af mf.length kf]) Try.el24 Try.agg24 rfl rfl (Own.vcells (hS.own (i := 3) rfl)) rfl ?_
            refine SL.call hS (ok_rOrder (hS.ro hf) hv) Try.func31 rfl Try.nm31 rfl rfl ?_
            rintro _ _ w38 ⟨r39, rfl, rfl, hv⟩ hGw38 hS
            change St _ _ _ _ [.row 3 1 A32 x31.length k33 (is x31), .ch lo23 hi24 (fun wz => GFX lo23 hi24 wz ad22 F21), .row 31 2 (some ⟨g13, 0, none⟩) 1 1 [.int .i64 v0, .int .i64 v1], .row 24 3 (some ⟨g11, 0, none⟩) 1 1 [.int .i64 Pf, .int .i64 Mf, .slice Af mf.length kf]] at hS
            obtain ⟨o40, hv⟩ := hv
            refine SL.make (J := r39) hS Try.underlying40 Try.el4 rfl rfl o40 (made_bs _) rfl ?_
            intro A41 w42 hS
            refine WL.assign rfl rfl ?_
            refine WL.done ?_
            refine W.seq ?_
            refine W.seq ?_
            refine W.region ?_
            refine WL.move rfl rfl ?_
            refine WL.len Try.underlying22 rfl rfl ?_
            refine WL.move rfl rfl ?_
            refine WL.done ?_
            refine W.block ?_
            obtain ⟨I50, μ51, hv, hk107⟩ := hv
            change St _ _ _ _ [.row 4 1 A41 r39.toNat r39.toNat (bs (List.replicate r39.toNat false)), .row 3 1 A32 x31.length k33 (is x31), .ch lo23 hi24 (fun wz => GFX lo23 hi24 wz ad22 F21), .row 31 2 (some ⟨g13, 0, none⟩) 1 1 [.int .i64 v0, .int .i64 v1], .row 24 3 (some ⟨g11, 0, none⟩) 1 1 [.int .i64 Pf, .int .i64 Mf, .slice Af mf.length kf]] at hS
            refine W.loop (σ := List Bool × Int) (fun q w1 => match q with | (x48, z49) => I50 x48 z49 ∧ St TT w none w1 [.row 4 1 A41 r39.toNat r39.toNat (bs x48), .row 3 1 A32 x31.length k33 (is x31), .ch lo23 hi24 (fun wz => GFX lo23 hi24 wz ad22 F21), .row 31 2 (some ⟨g13, 0, none⟩) 1 1 [.int .i64 v0, .int .i64 v1], .row 24 3 (some ⟨g11, 0, none⟩) 1 1 [.int .i64 Pf, .int .i64 Mf, .slice Af mf.length kf]]) (fun q => match q with | (x48, z49) => [(3, .pointer (some ⟨g11, 0, none⟩)), (4, .pointer (some ⟨g13, 0, none⟩)), (6, .bool false), (8, .slice A32 x31.length k33), (10, .slice A41 r39.toNat r39.toNat), (43, .slice A32 x31.length k33), (44, .int .i64 ((x31.length : Nat) : Int)), (45, .int .i64 z49)]) (fun q => match q with | (x48, z49) => μ51 x48 z49) (List.replicate r39.toNat false, (0 : Int)) ⟨hv, hS⟩ ⟨rfl, rfl, rfl, rfl, rfl, rfl, rfl, rfl, trivial⟩ ?_
            rintro ⟨x48, z49⟩ w52 ⟨hv, hS⟩
            have hv := hk107 x48 z49 hv
            refine W.seq ?_
            refine W.region ?_
            refine WL.lssD rfl rfl rfl ?_
            refine WL.done ?_
            refine W.seq ?_
            refine W.cond2 rfl (fun c53 => ?_) (fun c53 => ?_)
            · have hv := hv.1 (of_decide_eq_true c53)
              refine W.skip ?_
              refine W.seq ?_
              refine W.block ?_
              refine W.seq ?_
              refine W.region ?_
              obtain ⟨o54, hv⟩ := hv
              refine SL.index Try.underlying22 Try.el3 (hS.rd (i := 1) rfl) rfl rfl o54 rfl ?_
              refine WL.load Try.underlying3 rfl rfl (Rd.gi (hS.rd (i := 1) rfl) o54) rfl ?_
              refine WL.assign rfl rfl ?_
              refine WL.done ?_
              refine W.seq ?_
              refine W.seq ?_
              refine W.region ?_
              refine WL.loadV (cs := [.int .i64 Pf, .int .i64 Mf, .slice Af mf.length kf]) Try.el24 Try.agg24 rfl rfl (Own.vcells (hS.own (i := 4) rfl)) rfl ?_
              refine WL.move rfl rfl ?_
              refine SL.call hS (ok_rIs (hS.ro hf) hv) Try.func32 rfl Try.nm32 rfl rfl ?_
              rintro _ _ w55 ⟨r56, rfl, rfl, hv⟩ hGw55 hS
              change St _ _ _ _ [.row 4 1 A41 r39.toNat r39.toNat (bs x48), .row 3 1 A32 x31.length k33 (is x31), .ch lo23 hi24 (fun wz => GFX lo23 hi24 wz ad22 F21), .row 31 2 (some ⟨g13, 0, none⟩) 1 1 [.int .i64 v0, .int .i64 v1], .row 24 3 (some ⟨g11, 0, none⟩) 1 1 [.int .i64 Pf, .int .i64 Mf, .slice Af mf.length kf]] at hS
              refine WL.not rfl rfl ?_
              refine WL.done ?_
              refine W.cond2 rfl (fun c57 => ?_) (fun c57 => ?_)
              · have hv := hv.1 (c57)
                refine W.seq ?_
                refine W.region ?_
                refine WL.assign rfl rfl ?_
                refine WL.done ?_
                refine W.ret ?_
                refine ⟨_, rfl, Fin.nil ?_⟩
                exact ⟨_, hS.ext, (hS.pick [] rfl).rows, News.of (hS.pick [] rfl).rows rfl, ⟨false, rfl, rfl, hv⟩⟩
              · have hv := hv.2 (c57)
                refine W.skip ?_
                refine W.region ?_
                refine WL.move rfl rfl ?_
                refine WL.move rfl rfl ?_
                obtain ⟨o58, hv⟩ := hv
                refine SL.index Try.underlying40 Try.el4 (hS.rd (i := 0) rfl) rfl rfl o58 rfl ?_
                refine SL.store (cs' := bs (sb x48 (gi x31 z49) true)) 0 (gi x31 z49).toNat hS rfl Try.el4 rfl rfl rfl (bs_lt (hS.rd (i := 0) rfl) o58) (bs_set _ _ _) ?_
                intro w59 hS
                refine WL.done ?_
                refine W.region ?_
                obtain ⟨o60, hv⟩ := hv
                refine WL.add (r := (z49 + (1 : Int))) rfl rfl (wr o60) rfl ?_
                refine WL.move rfl rfl ?_
                refine WL.done ?_
                change St _ _ _ _ [.row 4 1 A41 r39.toNat r39.toNat (bs (sb x48 (gi x31 z49) true)), .row 3 1 A32 x31.length k33 (is x31), .ch lo23 hi24 (fun wz => GFX lo23 hi24 wz ad22 F21), .row 31 2 (some ⟨g13, 0, none⟩) 1 1 [.int .i64 v0, .int .i64 v1], .row 24 3 (some ⟨g11, 0, none⟩) 1 1 [.int .i64 Pf, .int .i64 Mf, .slice Af mf.length kf]] at hS
                exact ⟨(sb x48 (gi x31 z49) true, (z49 + (1 : Int))), ⟨rfl, rfl, rfl, rfl, rfl, rfl, rfl, rfl, trivial⟩, hv.2, rfl, hv.1, hS⟩
            · have hv := hv.2 (of_decide_eq_false c53)
              refine W.exit ?_
              refine W.seq ?_
              obtain ⟨o69, hv⟩ := hv
              obtain ⟨o71, hv⟩ := hv
              obtain ⟨o73, hv⟩ := hv
              obtain ⟨o83, hv⟩ := hv
              obtain ⟨o85, hv⟩ := hv
              obtain ⟨o87, hv⟩ := hv
              have hS0 := hS
              refine W.drawX 24 (fun _ => false) (fun _ => none) [⟨[], [8], true⟩, ⟨[], [4], true⟩, ⟨[1], [], false⟩, ⟨[2], [], true⟩, ⟨[], [8], true⟩, ⟨[4], [], true⟩, ⟨[5], [], true⟩, ⟨[3, 6], [], true⟩, ⟨[7], [], true⟩, ⟨[0, 8], [], true⟩, ⟨[9], [], false⟩, ⟨[], [8], true⟩, ⟨[], [4], true⟩, ⟨[12], [], false⟩, ⟨[13], [], true⟩, ⟨[], [8], true⟩, ⟨[15], [], true⟩, ⟨[16], [], true⟩, ⟨[14, 17], [], true⟩, ⟨[18], [], true⟩, ⟨[11, 19], [], true⟩, ⟨[20], [], false⟩, ⟨[10], [], true⟩, ⟨[21], [], true⟩] [[(8, .slice A32 x31.length k33)], [(4, .pointer (some ⟨g13, 0, none⟩))], [], [], [(8, .slice A32 x31.length k33)], [], [], [], [], [], [], [(8, .slice A32 x31.length k33)], [(4, .pointer (some ⟨g13, 0, none⟩))], [], [], [(8, .slice A32 x31.length k33)], [], [], [], [], [], [], [], []] (fun iQ => [fun v _ => v = .slice A32 x31.length k33, fun v _ => v = .pointer (some ⟨g13, 0, none⟩), fun v _ => v = .int .i64 v0, fun v _ => v = .int .u64 (v0 % 18446744073709551616), fun v _ => v = .slice A32 x31.length k33, fun v _ => v = .int .i64 ((x31.length : Nat) : Int), fun v _ => v = .int .u64 (((x31.length : Nat) : Int) % 18446744073709551616), fun v _ => v = .int .u64 ((v0 % 18446744073709551616).tmod (((x31.length : Nat) : Int) % 18446744073709551616)), fun v _ => v = .int .i64 ((v0 % 18446744073709551616).tmod (((x31.length : Nat) : Int) % 18446744073709551616)), fun v _ => v = .pointer (some ((adOf A32).add (((v0 % 18446744073709551616).tmod (((x31.length : Nat) : Int) % 18446744073709551616)).toNat))), fun v _ => v = .int .i64 (gi x31 ((v0 % 18446744073709551616).tmod (((x31.length : Nat) : Int) % 18446744073709551616))), fun v _ => v = .slice A32 x31.length k33, fun v _ => v = .pointer (some ((⟨g13, 0, none⟩ : Addr).add 1)), fun v _ => v = .int .i64 v1, fun v _ => v = .int .u64 (v1 % 18446744073709551616), fun v _ => v = .slice A32 x31.length k33, fun v _ => v = .int .i64 ((x31.length : Nat) : Int), fun v _ => v = .int .u64 (((x31.length : Nat) : Int) % 18446744073709551616), fun v _ => v = .int .u64 ((v1 % 18446744073709551616).tmod (((x31.length : Nat) : Int) % 18446744073709551616)), fun v _ => v = .int .i64 ((v1 % 18446744073709551616).tmod (((x31.length : Nat) : Int) % 18446744073709551616)), fun v _ => v = .pointer (some ((adOf A32).add (((v1 % 18446744073709551616).tmod (((x31.length : Nat) : Int) % 18446744073709551616)).toNat))), fun v _ => v = .int .i64 (gi x31 ((v1 % 18446744073709551616).tmod (((x31.length : Nat) : Int) % 18446744073709551616))), fun v _ => v = .int .i64 (gi x31 ((v0 % 18446744073709551616).tmod (((x31.length : Nat) : Int) % 18446744073709551616))), fun v _ => v = .int .i64 (gi x31 ((v1 % 18446744073709551616).tmod (((x31.length : Nat) : Int) % 18446744073709551616)))].getD iQ (fun _ _ => True)) Try.mixed (by kernel_rfl) ?_ (by kernel_rfl) ?_ ?_
              · refine Vs_monoT _ ?_
                intro VQ hVQ vQ wQ1 wQ2 hQ1 hQ2
                simp only [List.mem_cons, List.not_mem_nil, or_false] at hVQ
                rcases hVQ with rfl | rfl | rfl | rfl | rfl | rfl | rfl | rfl | rfl | rfl | rfl | rfl | rfl | rfl | rfl | rfl | rfl | rfl | rfl | rfl | rfl | rfl | rfl | rfl
                · exact hQ1
                · exact hQ1
                · exact hQ1
                · exact hQ1
                · exact hQ1
                · exact hQ1
                · exact hQ1
                · exact hQ1
                · exact hQ1
                · exact hQ1
                · exact hQ1
                · exact hQ1
                · exact hQ1
                · exact hQ1
                · exact hQ1
                · exact hQ1
                · exact hQ1
                · exact hQ1
                · exact hQ1
                · exact hQ1
                · exact hQ1
                · exact hQ1
                · exact hQ1
                · exact hQ1
              · refine ⟨⟨rfl, ⟨rfl, trivial⟩, ?_⟩, ⟨rfl, ⟨rfl, trivial⟩, ?_⟩, ⟨rfl, trivial, ?_⟩, ⟨rfl, trivial, ?_⟩, ⟨rfl, ⟨rfl, trivial⟩, ?_⟩, ⟨rfl, trivial, ?_⟩, ⟨rfl, trivial, ?_⟩, ⟨rfl, trivial, ?_⟩, ⟨rfl, trivial, ?_⟩, ⟨rfl, trivial, ?_⟩, ⟨rfl, trivial, ?_⟩, ⟨rfl, ⟨rfl, trivial⟩, ?_⟩, ⟨rfl, ⟨rfl, trivial⟩, ?_⟩, ⟨rfl, trivial, ?_⟩, ⟨rfl, trivial, ?_⟩, ⟨rfl, ⟨rfl, trivial⟩, ?_⟩, ⟨rfl, trivial, ?_⟩, ⟨rfl, trivial, ?_⟩, ⟨rfl, trivial, ?_⟩, ⟨rfl, trivial, ?_⟩, ⟨rfl, trivial, ?_⟩, ⟨rfl, trivial, ?_⟩, ⟨rfl, trivial, ?_⟩, ⟨rfl, trivial, ?_⟩, trivial⟩
                · intro w61 hE
                  intro RR
                  refine WL.move rfl rfl ?_
                  exact WL.done ⟨_, rfl, rfl, rfl, (fun h => absurd h (by decide)), (fun j h => by cases h)⟩
                · intro w62 hE
                  intro RR
                  refine WL.indexP 0 Try.arr31 rfl rfl rfl (by decide) rfl rfl ?_
                  exact WL.done ⟨_, rfl, rfl, rfl, (fun h => absurd h (by decide)), (fun j h => by cases h)⟩
                · intro w63 hE
                  have hE := hE rfl
                  have hS := hS.grow hE
                  rintro _ rfl
                  intro RR
                  refine WL.load Try.underlying3 rfl rfl (Own.vcells (hS.own (i := 3) rfl) 0 _ rfl) rfl ?_
                  exact WL.done ⟨_, rfl, ext_refl _, rfl, (fun h => absurd h (by decide)), (fun j h => by cases h)⟩
                · intro w64 hE
                  rintro _ rfl
                  intro RR
                  refine WL.conv (r := (v0 % 18446744073709551616)) Try.underlying3 Try.underlying42 rfl (wu64m rfl) rfl ?_
                  exact WL.done ⟨_, rfl, rfl, rfl, (fun h => absurd h (by decide)), (fun j h => by cases h)⟩
                · intro w65 hE
                  intro RR
                  refine WL.move rfl rfl ?_
                  exact WL.done ⟨_, rfl, rfl, rfl, (fun h => absurd h (by decide)), (fun j h => by cases h)⟩
                · intro w66 hE
                  rintro _ rfl
                  intro RR
                  refine WL.len Try.underlying22 rfl rfl ?_
                  exact WL.done ⟨_, rfl, rfl, rfl, (fun h => absurd h (by decide)), (fun j h => by cases h)⟩
                · intro w67 hE
                  rintro _ rfl
                  intro RR
                  refine WL.conv (r := (((x31.length : Nat) : Int) % 18446744073709551616)) Try.underlying3 Try.underlying42 rfl (wu64m rfl) rfl ?_
                  exact WL.done ⟨_, rfl, rfl, rfl, (fun h => absurd h (by decide)), (fun j h => by cases h)⟩
                · intro w68 hE
                  rintro _ rfl
                  rintro _ rfl
                  intro RR
                  refine WL.rem (r := ((v0 % 18446744073709551616).tmod (((x31.length : Nat) : Int) % 18446744073709551616))) rfl rfl o69 rfl rfl ?_
                  exact WL.done ⟨_, rfl, rfl, rfl, (fun h => absurd h (by decide)), (fun j h => by cases h)⟩
                · intro w70 hE
                  rintro _ rfl
                  intro RR
                  refine WL.conv (r := ((v0 % 18446744073709551616).tmod (((x31.length : Nat) : Int) % 18446744073709551616))) Try.underlying42 Try.underlying3 rfl (wr o71) rfl ?_
                  exact WL.done ⟨_, rfl, rfl, rfl, (fun h => absurd h (by decide)), (fun j h => by cases h)⟩
                · intro w72 hE
                  rintro _ rfl
                  rintro _ rfl
                  intro RR
                  refine SL.index Try.underlying22 Try.el3 (hS.rd (i := 1) rfl) rfl rfl o73 rfl ?_
                  exact WL.done ⟨_, rfl, rfl, rfl, (fun h => absurd h (by decide)), (fun j h => by cases h)⟩
                · intro w74 hE
                  have hE := hE rfl
                  have hS := hS.grow hE
                  rintro _ rfl
                  intro RR
                  refine WL.load Try.underlying3 rfl rfl (Rd.gi (hS.rd (i := 1) rfl) o73) rfl ?_
                  exact WL.done ⟨_, rfl, ext_refl _, rfl, (fun h => absurd h (by decide)), (fun j h => by cases h)⟩
                · intro w75 hE
                  intro RR
                  refine WL.move rfl rfl ?_
                  exact WL.done ⟨_, rfl, rfl, rfl, (fun h => absurd h (by decide)), (fun j h => by cases h)⟩
                · intro w76 hE
                  intro RR
                  refine WL.indexP 1 Try.arr31 rfl rfl rfl (by decide) rfl rfl ?_
                  exact WL.done ⟨_, rfl, rfl, rfl, (fun h => absurd h (by decide)), (fun j h => by cases h)⟩
                · intro w77 hE
                  have hE := hE rfl
                  have hS := hS.grow hE
                  rintro _ rfl
                  intro RR
                  refine WL.load Try.underlying3 rfl rfl (Own.vcells (hS.own (i := 3) rfl) 1 _ rfl) rfl ?_
                  exact WL.done ⟨_, rfl, ext_refl _, rfl, (fun h => absurd h (by decide)), (fun j h => by cases h)⟩
                · intro w78 hE
                  rintro _ rfl
                  intro RR
                  refine WL.conv (r := (v1 % 18446744073709551616)) Try.underlying3 Try.underlying42 rfl (wu64m rfl) rfl ?_
                  exact WL.done ⟨_, rfl, rfl, rfl, (fun h => absurd h (by decide)), (fun j h => by cases h)⟩
                · intro w79 hE
                  intro RR
                  refine WL.move rfl rfl ?_
                  exact WL.done ⟨_, rfl, rfl, rfl, (fun h => absurd h (by decide)), (fun j h => by cases h)⟩
                · intro w80 hE
                  rintro _ rfl
                  intro RR
                  refine WL.len Try.underlying22 rfl rfl ?_
                  exact WL.done ⟨_, rfl, rfl, rfl, (fun h => absurd h (by decide)), (fun j h => by cases h)⟩
                · intro w81 hE
                  rintro _ rfl
                  intro RR
                  refine WL.conv (r := (((x31.length : Nat) : Int) % 18446744073709551616)) Try.underlying3 Try.underlying42 rfl (wu64m rfl) rfl ?_
                  exact WL.done ⟨_, rfl, rfl, rfl, (fun h => absurd h (by decide)), (fun j h => by cases h)⟩
                · intro w82 hE
                  rintro _ rfl
                  rintro _ rfl
                  intro RR
                  refine WL.rem (r := ((v1 % 18446744073709551616).tmod (((x31.length : Nat) : Int) % 18446744073709551616))) rfl rfl o83 rfl rfl ?_
                  exact WL.done ⟨_, rfl, rfl, rfl, (fun h => absurd h (by decide)), (fun j h => by cases h)⟩
                · intro w84 hE
                  rintro _ rfl
                  intro RR
                  refine WL.conv (r := ((v1 % 18446744073709551616).tmod (((x31.length : Nat) : Int) % 18446744073709551616))) Try.underlying42 Try.underlying3 rfl (wr o85) rfl ?_
                  exact WL.done ⟨_, rfl, rfl, rfl, (fun h => absurd h (by decide)), (fun j h => by cases h)⟩
                · intro w86 hE
                  rintro _ rfl
                  rintro _ rfl
                  intro RR
                  refine SL.index Try.underlying22 Try.el3 (hS.rd (i := 1) rfl) rfl rfl o87 rfl ?_
                  exact WL.done ⟨_, rfl, rfl, rfl, (fun h => absurd h (by decide)), (fun j h => by cases h)⟩
                · intro w88 hE
                  have hE := hE rfl
                  have hS := hS.grow hE
                  rintro _ rfl
                  intro RR
                  refine WL.load Try.underlying3 rfl rfl (Rd.gi (hS.rd (i := 1) rfl) o87) rfl ?_
                  exact WL.done ⟨_, rfl, ext_refl _, rfl, (fun h => absurd h (by decide)), (fun j h => by cases h)⟩
                · intro w89 hE
                  rintro _ rfl
                  intro RR
                  refine WL.assign rfl rfl ?_
                  exact WL.done ⟨_, rfl, rfl, rfl, (fun h => absurd h (by decide)), (fun j h => by cases h)⟩
                · intro w90 hE
                  rintro _ rfl
                  intro RR
                  refine WL.assign rfl rfl ?_
                  exact WL.done ⟨_, rfl, rfl, rfl, (fun h => absurd h (by decide)), (fun j h => by cases h)⟩
              · intro vals w91 hT hVs hAp hCp
                have hS := hS.grow hT
                have hv0 : vals 0 = _ := hVs 0 (by decide)
                have hv1 : vals 1 = _ := hVs 1 (by decide)
                have hv2 : vals 2 = _ := hVs 2 (by decide)
                have hv3 : vals 3 = _ := hVs 3 (by decide)
                have hv4 : vals 4 = _ := hVs 4 (by decide)
                have hv5 : vals 5 = _ := hVs 5 (by decide)
                have hv6 : vals 6 = _ := hVs 6 (by decide)
                have hv7 : vals 7 = _ := hVs 7 (by decide)
                have hv8 : vals 8 = _ := hVs 8 (by decide)
                have hv9 : vals 9 = _ := hVs 9 (by decide)
                have hv10 : vals 10 = _ := hVs 10 (by decide)
                have hv11 : vals 11 = _ := hVs 11 (by decide)
                have hv12 : vals 12 = _ := hVs 12 (by decide)
                have hv13 : vals 13 = _ := hVs 13 (by decide)
                have hv14 : vals 14 = _ := hVs 14 (by decide)
                have hv15 : vals 15 = _ := hVs 15 (by decide)
                have hv16 : vals 16 = _ := hVs 16 (by decide)
                have hv17 : vals 17 = _ := hVs 17 (by decide)
                have hv18 : vals 18 = _ := hVs 18 (by decide)
                have hv19 : vals 19 = _ := hVs 19 (by decide)
                have hv20 : vals 20 = _ := hVs 20 (by decide)
                have hv21 : vals 21 = _ := hVs 21 (by decide)
                have hv22 : vals 22 = _ := hVs 22 (by decide)
                have hv23 : vals 23 = _ := hVs 23 (by decide)
                rw [show (List.filterMap (fun i => Option.map (fun t => (t, vals i)) (dstAt _ i)) (List.range _)) = [(57, .slice A32 x31.length k33), (58, .pointer (some ⟨g13, 0, none⟩)), (59, .int .i64 v0), (60, .int .u64 (v0 % 18446744073709551616)), (61, .slice A32 x31.length k33), (62, .int .i64 ((x31.length : Nat) : Int)), (63, .int .u64 (((x31.length : Nat) : Int) % 18446744073709551616)), (64, .int .u64 ((v0 % 18446744073709551616).tmod (((x31.length : Nat) : Int) % 18446744073709551616))), (65, .int .i64 ((v0 % 18446744073709551616).tmod (((x31.length : Nat) : Int) % 18446744073709551616))), (66, .pointer (some ((adOf A32).add (((v0 % 18446744073709551616).tmod (((x31.length : Nat) : Int) % 18446744073709551616)).toNat)))), (67, .int .i64 (gi x31 ((v0 % 18446744073709551616).tmod (((x31.length : Nat) : Int) % 18446744073709551616)))), (68, .slice A32 x31.length k33), (69, .pointer (some ((⟨g13, 0, none⟩ : Addr).add 1))), (70, .int .i64 v1), (71, .int .u64 (v1 % 18446744073709551616)), (72, .slice A32 x31.length k33), (73, .int .i64 ((x31.length : Nat) : Int)), (74, .int .u64 (((x31.length : Nat) : Int) % 18446744073709551616)), (75, .int .u64 ((v1 % 18446744073709551616).tmod (((x31.length : Nat) : Int) % 18446744073709551616))), (76, .int .i64 ((v1 % 18446744073709551616).tmod (((x31.length : Nat) : Int) % 18446744073709551616))), (77, .pointer (some ((adOf A32).add (((v1 % 18446744073709551616).tmod (((x31.length : Nat) : Int) % 18446744073709551616)).toNat)))), (78, .int .i64 (gi x31 ((v1 % 18446744073709551616).tmod (((x31.length : Nat) : Int) % 18446744073709551616)))), (13, .int .i64 (gi x31 ((v0 % 18446744073709551616).tmod (((x31.length : Nat) : Int) % 18446744073709551616)))), (14, .int .i64 (gi x31 ((v1 % 18446744073709551616).tmod (((x31.length : Nat) : Int) % 18446744073709551616))))] from by
                  show [(57, vals 0), (58, vals 1), (59, vals 2), (60, vals 3), (61, vals 4), (62, vals 5), (63, vals 6), (64, vals 7), (65, vals 8), (66, vals 9), (67, vals 10), (68, vals 11), (69, vals 12), (70, vals 13), (71, vals 14), (72, vals 15), (73, vals 16), (74, vals 17), (75, vals 18), (76, vals 19), (77, vals 20), (78, vals 21), (13, vals 22), (14, vals 23)] = _
                  rw [hv0, hv1, hv2, hv3, hv4, hv5, hv6, hv7, hv8, hv9, hv10, hv11, hv12, hv13, hv14, hv15, hv16, hv17, hv18, hv19, hv20, hv21, hv22, hv23]]
                refine WA.done (by decide +kernel) ?_
                refine W.seq ?_
                refine W.region ?_
                refine WL.move rfl rfl ?_
                refine WL.loadV (cs := [.int .i64 Pf, .int .i64 Mf, .slice Af mf.length kf]) Try.el24 Try.agg24 rfl rfl (Own.vcells (hS.own (i := 4) rfl)) rfl ?_
                refine WL.move rfl rfl ?_
                refine WL.move rfl rfl ?_
                refine SL.call hS (ok_rAdd (hS.ro hf) hv) Try.func24 rfl Try.nm24 rfl rfl ?_
                rintro _ _ w92 ⟨r93, rfl, rfl, hv⟩ hGw92 hS
                change St _ _ _ _ [.row 4 1 A41 r39.toNat r39.toNat (bs x48), .row 3 1 A32 x31.length k33 (is x31), .ch lo23 hi24 (fun wz => GFX lo23 hi24 wz ad22 F21), .row 31 2 (some ⟨g13, 0, none⟩) 1 1 [.int .i64 v0, .int .i64 v1], .row 24 3 (some ⟨g11, 0, none⟩) 1 1 [.int .i64 Pf, .int .i64 Mf, .slice Af mf.length kf]] at hS
                obtain ⟨o94, hv⟩ := hv
                refine SL.index Try.underlying40 Try.el4 (hS.rd (i := 0) rfl) rfl rfl o94 rfl ?_
                refine WL.load Try.underlying4 rfl rfl (Rd.gb (hS.rd (i := 0) rfl) o94) rfl ?_
                refine WL.move rfl rfl ?_
                rcases g95 : (gb x48 r93) with _ | _
                · have hv := hv.2 g95
                  refine WL.pass rfl rfl rfl ?_
                  refine WL.pass rfl rfl rfl ?_
                  refine WL.pass rfl rfl rfl ?_
                  refine WL.pass rfl rfl rfl ?_
                  refine WL.pass rfl rfl rfl ?_
                  refine WL.pass rfl rfl rfl ?_
                  refine WL.pass rfl rfl rfl ?_
                  refine WL.pick rfl rfl rfl ?_
                  refine WL.move rfl rfl ?_
                  refine WL.pass rfl rfl rfl ?_
                  refine WL.pass rfl rfl rfl ?_
                  refine WL.pass rfl rfl rfl ?_
                  refine WL.pass rfl rfl rfl ?_
                  refine WL.pass rfl rfl rfl ?_
                  refine WL.pass rfl rfl rfl ?_
                  refine WL.pick rfl rfl rfl ?_
                  refine WL.move rfl rfl ?_
                  refine WL.pass rfl rfl rfl ?_
                  refine WL.pass rfl rfl rfl ?_
                  refine WL.pass rfl rfl rfl ?_
                  refine WL.pass rfl rfl rfl ?_
                  refine WL.pass rfl rfl rfl ?_
                  refine WL.pass rfl rfl rfl ?_
                  refine WL.pick rfl rfl rfl ?_
                  refine WL.assign rfl rfl ?_
                  refine WL.done ?_
                  refine W.ret ?_
                  refine ⟨_, rfl, Fin.nil ?_⟩
                  exact ⟨_, hS.ext, (hS.pick [] rfl).rows, News.of (hS.pick [] rfl).rows rfl, ⟨false, rfl, rfl, hv⟩⟩
                · have hv := hv.1 g95
                  refine WL.take rfl ?_
                  refine WL.move rfl rfl ?_
                  refine WL.take rfl ?_
                  refine WL.loadV (cs := [.int .i64 Pf, .int .i64 Mf, .slice Af mf.length kf]) Try.el24 Try.agg24 rfl rfl (Own.vcells (hS.own (i := 4) rfl)) rfl ?_
                  refine WL.take rfl ?_
                  refine WL.move rfl rfl ?_
                  refine WL.take rfl ?_
                  refine WL.move rfl rfl ?_
                  refine WL.take rfl ?_
                  refine SL.call hS (ok_rMul (hS.ro hf) hv) Try.func25 rfl Try.nm25 rfl rfl ?_
                  rintro _ _ w96 ⟨r97, rfl, rfl, hv⟩ hGw96 hS
                  change St _ _ _ _ [.row 4 1 A41 r39.toNat r39.toNat (bs x48), .row 3 1 A32 x31.length k33 (is x31), .ch lo23 hi24 (fun wz => GFX lo23 hi24 wz ad22 F21), .row 31 2 (some ⟨g13, 0, none⟩) 1 1 [.int .i64 v0, .int .i64 v1], .row 24 3 (some ⟨g11, 0, none⟩) 1 1 [.int .i64 Pf, .int .i64 Mf, .slice Af mf.length kf]] at hS
                  refine WL.take rfl ?_
                  obtain ⟨o98, hv⟩ := hv
                  refine SL.index Try.underlying40 Try.el4 (hS.rd (i := 0) rfl) rfl rfl o98 rfl ?_
                  refine WL.take rfl ?_
                  refine WL.load Try.underlying4 rfl rfl (Rd.gb (hS.rd (i := 0) rfl) o98) rfl ?_
                  refine WL.pick rfl rfl rfl ?_
                  refine WL.move rfl rfl ?_
                  rcases g99 : (gb x48 r97) with _ | _
                  · have hv := hv.2 g99
                    refine WL.pass rfl rfl rfl ?_
                    refine WL.pass rfl rfl rfl ?_
                    refine WL.pass rfl rfl rfl ?_
                    refine WL.pass rfl rfl rfl ?_
                    refine WL.pass rfl rfl rfl ?_
                    refine WL.pass rfl rfl rfl ?_
                    refine WL.pick rfl rfl rfl ?_
                    refine WL.move rfl rfl ?_
                    refine WL.pass rfl rfl rfl ?_
                    refine WL.pass rfl rfl rfl ?_
                    refine WL.pass rfl rfl rfl ?_
                    refine WL.pass rfl rfl rfl ?_
                    refine WL.pass rfl rfl rfl ?_
                    refine WL.pass rfl rfl rfl ?_
                    refine WL.pick rfl rfl rfl ?_
                    refine WL.assign rfl rfl ?_
                    refine WL.done ?_
                    refine W.ret ?_
                    refine ⟨_, rfl, Fin.nil ?_⟩
                    exact ⟨_, hS.ext, (hS.pick [] rfl).rows, News.of (hS.pick [] rfl).rows rfl, ⟨false, rfl, rfl, hv⟩⟩
                  · have hv := hv.1 g99
                    refine WL.take rfl ?_
                    refine WL.move rfl rfl ?_
                    refine WL.take rfl ?_
                    refine WL.loadV (cs := [.int .i64 Pf, .int .i64 Mf, .slice Af mf.length kf]) Try.el24 Try.agg24 rfl rfl (Own.vcells (hS.own (i := 4) rfl)) rfl ?_
                    refine WL.take rfl ?_
                    refine WL.move rfl rfl ?_
                    refine WL.take rfl ?_
                    refine SL.call hS (ok_rInv (hS.ro hf) hv) Try.func33 rfl Try.nm33 rfl rfl ?_
                    rintro _ _ w100 ⟨r101, rfl, rfl, hv⟩ hGw100 hS
                    change St _ _ _ _ [.row 4 1 A41 r39.toNat r39.toNat (bs x48), .row 3 1 A32 x31.length k33 (is x31), .ch lo23 hi24 (fun wz => GFX lo23 hi24 wz ad22 F21), .row 31 2 (some ⟨g13, 0, none⟩) 1 1 [.int .i64 v0, .int .i64 v1], .row 24 3 (some ⟨g11, 0, none⟩) 1 1 [.int .i64 Pf, .int .i64 Mf, .slice Af mf.length kf]] at hS
                    refine WL.take rfl ?_
                    obtain ⟨o102, hv⟩ := hv
                    refine SL.index Try.underlying40 Try.el4 (hS.rd (i := 0) rfl) rfl rfl o102 rfl ?_
                    refine WL.take rfl ?_
                    refine WL.load Try.underlying4 rfl rfl (Rd.gb (hS.rd (i := 0) rfl) o102) rfl ?_
                    refine WL.pick rfl rfl rfl ?_
                    refine WL.move rfl rfl ?_
                    rcases g103 : (gb x48 r101) with _ | _
                    · have hv := hv.2 g103
                      refine WL.pass rfl rfl rfl ?_
                      refine WL.pass rfl rfl rfl ?_
                      refine WL.pass rfl rfl rfl ?_
                      refine WL.pass rfl rfl rfl ?_
                      refine WL.pass rfl rfl rfl ?_
                      refine WL.pass rfl rfl rfl ?_
                      refine WL.pick rfl rfl rfl ?_
                      refine WL.assign rfl rfl ?_
                      refine WL.done ?_
                      refine W.ret ?_
                      refine ⟨_, rfl, Fin.nil ?_⟩
                      exact ⟨_, hS.ext, (hS.pick [] rfl).rows, News.of (hS.pick [] rfl).rows rfl, ⟨false, rfl, rfl, hv⟩⟩
                    · have hv := hv.1 g103
                      refine WL.take rfl ?_
                      refine WL.move rfl rfl ?_
                      refine WL.take rfl ?_
                      refine WL.loadV (cs := [.int .i64 Pf, .int .i64 Mf, .slice Af mf.length kf]) Try.el24 Try.agg24 rfl rfl (Own.vcells (hS.own (i := 4) rfl)) rfl ?_
                      refine WL.take rfl ?_
                      refine WL.move rfl rfl ?_
                      refine WL.take rfl ?_
                      refine SL.call hS (ok_rNeg (hS.ro hf) hv) Try.func34 rfl Try.nm34 rfl rfl ?_
                      rintro _ _ w104 ⟨r105, rfl, rfl, hv⟩ hGw104 hS
                      change St _ _ _ _ [.row 4 1 A41 r39.toNat r39.toNat (bs x48), .row 3 1 A32 x31.length k33 (is x31), .ch lo23 hi24 (fun wz => GFX lo23 hi24 wz ad22 F21), .row 31 2 (some ⟨g13, 0, none⟩) 1 1 [.int .i64 v0, .int .i64 v1], .row 24 3 (some ⟨g11, 0, none⟩) 1 1 [.int .i64 Pf, .int .i64 Mf, .slice Af mf.length kf]] at hS
                      refine WL.take rfl ?_
                      obtain ⟨o106, hv⟩ := hv
                      refine SL.index Try.underlying40 Try.el4 (hS.rd (i := 0) rfl) rfl rfl o106 rfl ?_
                      refine WL.take rfl ?_
                      refine WL.load Try.underlying4 rfl rfl (Rd.gb (hS.rd (i := 0) rfl) o106) rfl ?_
                      refine WL.pick rfl rfl rfl ?_
                      refine WL.assign rfl rfl ?_
                      refine WL.done ?_
                      refine W.ret ?_
                      refine ⟨_, rfl, Fin.nil ?_⟩
                      exact ⟨_, hS.ext, (hS.pick [] rfl).rows, News.of (hS.pick [] rfl).rows rfl, ⟨(gb x48 r105), rfl, rfl, hv⟩⟩
end Go.Proofs.Ythjpminlkcklgaa
set_option linter.unusedVariables false
set_option linter.unusedSimpArgs false
namespace Go.Proofs.Ythjpminlkcklgaa
section
variable {F : GFv} {p m v g : Nat} {P M : Int} {mf : List Int}
theorem idx64 (x : Int) {n : Nat} (h0 : 0 < n) (hn : n ≤ 256) : ∃ j : Nat, j < n ∧ (x % 18446744073709551616).tmod ((n : Int) % 18446744073709551616) = (j : Int) := by
  obtain ⟨a, ha⟩ := Int.eq_ofNat_of_zero_le (Int.emod_nonneg x (show (18446744073709551616 : Int) ≠ 0 by decide))
  refine ⟨a % n, Nat.mod_lt _ h0, ?_⟩
  rw [ha, show (n : Int) % 18446744073709551616 = (n : Int) by omega, tmodN a n]
theorem subL_at {c n j : Nat} (hj : j < (subL p m v c n).length) : ∃ a, a < n ∧ pw (fmul p m (dv p v)) a (p ^ c) = a ∧ vo (subL p m v c n) j = (a : Int) := by
  have h1 : (subL p m v c n)[j] ∈ subL p m v c n := List.getElem_mem hj
  have h2 : vo (subL p m v c n) j = (subL p m v c n)[j] := by
    unfold vo; rw [List.getD_eq_getElem?_getD, List.getElem?_eq_getElem hj]; rfl
  obtain ⟨a, ha, e⟩ := List.mem_map.1 h1
  obtain ⟨h3, h4⟩ := List.mem_filter.1 ha
  exact ⟨a, List.mem_range.1 h3, of_decide_eq_true h4, by rw [h2, ← e]⟩
theorem subL_of {c n a : Nat} (ha : a < n) (h : pw (fmul p m (dv p v)) a (p ^ c) = a) : ∃ j, j < (subL p m v c n).length ∧ vo (subL p m v c n) j = (a : Int) := by
  have h1 : (a : Int) ∈ subL p m v c n := List.mem_map.2 ⟨a, List.mem_filter.2 ⟨List.mem_range.2 ha, decide_eq_true h⟩, rfl⟩
  obtain ⟨j, hj, e⟩ := List.mem_iff_getElem.1 h1
  refine ⟨j, hj, ?_⟩
  unfold vo; rw [List.getD_eq_getElem?_getD, List.getElem?_eq_getElem hj]; exact e
theorem w_rInv {x : Int} {Q : Int → Prop} (hF : FV P M mf p m v) (h : ∀ y : Nat, y < p ^ m → (y = 0 ∨ fmul p m (dv p v) (inE (p ^ m) x) y = 1) → Q y) : V_rInv P M mf x Q := by
  have hq := hF.q
  have R := hF.ring
  have hq2 := R.q2
  refine ⟨fun z => ∃ n : Nat, z = n ∧ 1 ≤ n ∧ n ≤ p ^ m, fun z => (((p ^ m : Nat) : Int) - z).toNat, ⟨1, rfl, Nat.le_refl 1, by omega⟩, ?_⟩
  rintro _ ⟨n, rfl, hn1, hn⟩
  refine v_rOrder ?_
  rw [hF.ord]
  dsimp only
  refine ⟨fun hlt => v_rMul hF ?_, fun hge => h 0 (by omega) (.inl rfl)⟩
  have hnq : n < p ^ m := Int.ofNat_lt.1 hlt
  rw [inE_nat hnq]
  refine ⟨fun he => h n hnq (.inr (Int.ofNat.inj he)), fun hne => ⟨small (by omega) (by omega), ⟨n + 1, by push_cast; rfl, by omega, by omega⟩, by omega⟩⟩
theorem law_TowerClosed (x y d : Int) : V_TowerClosed P M mf x y d (fun b => b = true) := by
  refine w_alive (nb (w_made (fun _ => rfl) fun F p m v g K hF => ?_))
  have R := hF.ring
  have hp := hF.p2
  have hq := hF.q
  refine w_tdivides hF (fun c t h1 hc hm => nb ?_) fun hn => nf rfl
  subst h1
  refine w_subfield K (fun hn => absurd ⟨c, t, rfl, hc, hm⟩ hn) fun c' t' e' _ hm' => ?_
  obtain rfl : c' = c := by omega
  have hlen := subL_len p m v c' (p ^ m)
  have hcnt := subL_count K hF hc hm
  have hpos : 0 < (subL p m v c' (p ^ m)).length := by rw [hcnt]; exact Nat.pow_pos (by omega)
  have hat := fun j hj => subL_at (p := p) (m := m) (v := v) (c := c') (n := p ^ m) (j := j) hj
  have hof := fun a ha hf => subL_of (p := p) (m := m) (v := v) (c := c') (n := p ^ m) (a := a) ha hf
  generalize subL p m v c' (p ^ m) = L at hlen hpos hat hof
  refine ⟨fun h => absurd rfl h, fun _ => ⟨fun h => absurd h (by omega), fun _ => v_rOrder ?_⟩⟩
  rw [hF.ord, Int.toNat_natCast]
  refine ⟨⟨by omega, by omega, by omega⟩, fun b z => ∃ j : Nat, z = j ∧ j ≤ L.length ∧ b.length = p ^ m ∧ ∀ i, i < j → ∀ r : Nat, vo L i = (r : Int) → b.getD r false = true, fun b z => (L.length - z).toNat, ⟨0, rfl, Nat.zero_le _, List.length_replicate, fun i hi => by omega⟩, ?_⟩
  rintro b _ ⟨j, rfl, hj, hb, hv⟩
  dsimp only
  refine ⟨fun hlt => ⟨⟨by omega, by omega⟩, v_rIs hF ?_⟩, fun hge => ?_⟩
  · obtain ⟨a, ha, hfa, ea⟩ := hat j (by omega)
    rw [gi_nat, ea, decide_eq_true ⟨by omega, Int.ofNat_lt.2 ha⟩]
    refine nb ⟨⟨by omega, Int.ofNat_lt.2 ha⟩, small (by omega) (by omega), ⟨j + 1, by push_cast; rfl, by omega, by rw [sb_nat, List.length_set]; exact hb, fun i hi r hr => ?_⟩, by omega⟩
    rw [sb_nat, List.getD_eq_getElem?_getD, List.getElem?_set]
    by_cases har : a = r
    · rw [if_pos har, if_pos (by omega)]; rfl
    · rw [if_neg har, ← List.getD_eq_getElem?_getD]
      refine hv i ?_ r hr
      rcases Nat.lt_or_ge i j with h1 | h1
      · exact h1
      · exfalso
        have : i = j := by omega
        rw [this, ea] at hr
        exact har (Int.ofNat.inj hr)
  · have hin : ∀ r : Nat, r < p ^ m → pw (fmul p m (dv p v)) r (p ^ c') = r → gb b (r : Int) = true := fun r hr hf => by
      obtain ⟨i, hi, e⟩ := hof r hr hf
      rw [gb_nat]; exact hv i (by omega) r e
    obtain ⟨i1, hi1, e1⟩ := idx64 x hpos (by omega)
    obtain ⟨i2, hi2, e2⟩ := idx64 y hpos (by omega)
    obtain ⟨a1, ha1, hf1, ea1⟩ := hat i1 hi1
    obtain ⟨a2, ha2, hf2, ea2⟩ := hat i2 hi2
    rw [e1, e2, gi_nat, gi_nat, ea1, ea2]
    have hz : ((L.length : Nat) : Int) % 18446744073709551616 ≠ 0 := by omega
    have rng : ∀ r : Nat, r < p ^ m → (0 : Int) ≤ (r : Int) ∧ (r : Int) < ((p ^ m : Nat) : Int) := fun r hr => ⟨by omega, Int.ofNat_lt.2 hr⟩
    refine ⟨hz, small (by omega) (by omega), ⟨by omega, by omega⟩, hz, small (by omega) (by omega), ⟨by omega, by omega⟩, v_rAdd hF ?_⟩
    rw [inE_nat ha1, inE_nat ha2, hin _ (R.Al _ _) (by rw [R.fr_add K.G hF.pr (chz hF) ha1 ha2, hf1, hf2])]
    refine ⟨rng _ (R.Al _ _), fun _ => v_rMul hF ?_, fun h => absurd h (by decide)⟩
    rw [inE_nat ha1, inE_nat ha2, hin _ (R.Ml _ _) (by rw [R.fr_mul ha1 ha2, hf1, hf2])]
    refine ⟨rng _ (R.Ml _ _), fun _ => w_rInv hF fun w hw hcase => ?_, fun h => absurd h (by decide)⟩
    rw [inE_nat ha1] at hcase
    have hfw : pw (fmul p m (dv p v)) w (p ^ c') = w := by
      rcases hcase with rfl | h1
      · exact R.zero_pw (Nat.pow_pos (by omega))
      · have h2 := R.fr_mul (p := p) ha1 hw c'
        rw [h1, R.one_pw, hf1] at h2
        have hW := R.pw_lt w (p ^ c')
        have h3 : fmul p m (dv p v) w (fmul p m (dv p v) a1 (pw (fmul p m (dv p v)) w (p ^ c'))) = w := by rw [← h2, R.M1 hw]
        rw [← R.Ma hw ha1 hW, R.Mc hw ha1, h1, R.I1 hW] at h3
        exact h3
    rw [hin w hw hfw]
    refine ⟨rng _ hw, fun _ => v_rNeg hF ?_, fun h => absurd h (by decide)⟩
    rw [inE_nat ha1]
    have hnl := fneg_lt (p := p) (m := m) (by omega) a1
    have hneg := fadd_neg (p := p) (m := m) (by omega) ha1
    have hfn : pw (fmul p m (dv p v)) (fneg p m a1) (p ^ c') = fneg p m a1 := by
      have h2 := R.fr_add K.G hF.pr (chz hF) ha1 hnl c'
      rw [hneg, R.zero_pw (Nat.pow_pos (by omega)), hf1] at h2
      have hW := R.pw_lt (fneg p m a1) (p ^ c')
      have h3 : fadd p m (fneg p m a1) (fadd p m a1 (pw (fmul p m (dv p v)) (fneg p m a1) (p ^ c'))) = fneg p m a1 := by rw [← h2, R.Az hnl]
      rw [← R.Aa hnl ha1 hW, R.Ac (fneg p m a1), hneg, R.zA hW] at h3
      exact h3
    rw [hin _ hnl hfn]
    exact ⟨rng _ hnl, rfl⟩
end
end Go.Proofs.Ythjpminlkcklgaa
