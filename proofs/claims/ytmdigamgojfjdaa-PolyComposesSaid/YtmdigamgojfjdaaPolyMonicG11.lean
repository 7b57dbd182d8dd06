/- Contracts of functions of the program, and what they lean on: D10, D11, P2, P3, P4, P5, P6, P7, P8, Bl2, B1, D12, D13, P9. -/
import Derived.Test.YtmdigamgojfjdaaPolyMonicG10
set_option linter.unusedSimpArgs false
set_option linter.unusedVariables false
namespace Go.Proofs.Ytmdigamgojfjdaa
open Go.RowKit
def V_lsame (l : List Int) (o : List Int) (Q : Bool → Prop) : Prop :=
  ((((l.length : Nat) : Int) ≠ ((o.length : Nat) : Int)) → Q false) ∧ (¬ (((l.length : Nat) : Int) ≠ ((o.length : Nat) : Int)) → (∃ (I15 : Int → Prop) (μ16 : Int → Nat), I15 (0 : Int) ∧ ∀ (z14 : Int), (I15 z14 → (((z14 < ((l.length : Nat) : Int)) → ((0 ≤ z14 ∧ z14 < (l.length : Nat)) ∧ ((0 ≤ z14 ∧ z14 < (o.length : Nat)) ∧ ((((gi l z14) ≠ (gi o z14)) → Q false) ∧ (¬ ((gi l z14) ≠ (gi o z14)) → ((I64 (z14 + (1 : Int))) ∧ (I15 (z14 + (1 : Int)) ∧ μ16 (z14 + (1 : Int)) < μ16 z14))))))) ∧ (¬ (z14 < ((l.length : Nat) : Int)) → Q true)))))
theorem ok_lsame {w : World} {Q : Bool → Prop} {l : List Int} {o : List Int} {Bl : Nat} {Al : Option Addr} {nl kl : Nat} (hl : Rd Bl w 1 Al nl kl (is l)) {Bo : Nat} {Ao : Option Addr} {no ko : Nat} (ho : Rd Bo w 1 Ao no ko (is o)) (hv : V_lsame l o Q) :
    Calls Try.prog 23 #[.slice Al nl kl, .slice Ao no ko] w fun e w' => ∃ v Qr, e = .returned v ∧ w.grownBy w' none ∧ Rows w.heap.size none w' Qr ∧ News w.heap.size Qr ∧ ∃ (r0 : Bool), v = .bool r0 ∧ Qr = [] ∧ Q r0 := by
  have hnl := hl.ilen
  subst hnl
  have hno := ho.ilen
  subst hno
  refine calls_swap ?_
  refine calls_of_W (vs := [.slice Al l.length kl, .slice Ao o.length ko]) [4] Try.func23 rfl rfl rfl rfl ?_
  have hS := St.start w
  unfold V_lsame at hv
  refine W.seq ?_
  refine W.region ?_
  refine WL.assign rfl rfl ?_
  refine WL.done ?_
  refine W.seq ?_
  refine W.seq ?_
  refine W.region ?_
  refine WL.move rfl rfl ?_
  refine WL.len Try.underlying22 rfl rfl ?_
  refine WL.move rfl rfl ?_
  refine WL.len Try.underlying22 rfl rfl ?_
  refine WL.neqD rfl rfl rfl ?_
  refine WL.done ?_
  refine W.cond2 rfl (fun c11 => ?_) (fun c11 => ?_)
  · have hv := hv.1 (of_decide_eq_true c11)
    refine W.seq ?_
    refine W.region ?_
    refine WL.assign rfl rfl ?_
    refine WL.done ?_
    refine W.ret ?_
    refine ⟨_, rfl, Fin.nil ?_⟩
    exact ⟨_, hS.ext, (hS.pick [] rfl).rows, News.of (hS.pick [] rfl).rows rfl, ⟨false, rfl, rfl, hv⟩⟩
  · have hv := hv.2 (of_decide_eq_false c11)
    refine W.skip ?_
    refine W.seq ?_
    refine W.seq ?_
    refine W.region ?_
    refine WL.move rfl rfl ?_
    refine WL.len Try.underlying22 rfl rfl ?_
    refine WL.move rfl rfl ?_
    refine WL.done ?_
    refine W.block ?_
    obtain ⟨I15, μ16, hv, hk33⟩ := hv
    change St _ _ _ _ [] at hS
    refine W.loop (σ := Int) (fun z14 w1 => I15 z14 ∧ St TT w none w1 []) (fun z14 => [(0, .slice Al l.length kl), (1, .slice Ao o.length ko), (4, .bool false), (12, .int .i64 ((l.length : Nat) : Int)), (13, .int .i64 z14)]) (fun z14 => μ16 z14) (0 : Int) ⟨hv, hS⟩ ⟨rfl, rfl, rfl, rfl, rfl, trivial⟩ ?_
    rintro z14 w17 ⟨hv, hS⟩
    have hv := hk33 z14 hv
    refine W.seq ?_
    refine W.region ?_
    refine WL.lssD rfl rfl rfl ?_
    refine WL.done ?_
    refine W.seq ?_
    refine W.cond2 rfl (fun c18 => ?_) (fun c18 => ?_)
    · have hv := hv.1 (of_decide_eq_true c18)
      refine W.skip ?_
      refine W.seq ?_
      refine W.block ?_
      refine W.seq ?_
      refine W.region ?_
      refine WL.move rfl rfl ?_
      refine WL.assign rfl rfl ?_
      refine WL.done ?_
      refine W.seq ?_
      obtain ⟨o22, hv⟩ := hv
      obtain ⟨o27, hv⟩ := hv
      have hS0 := hS
      refine W.drawX 9 (fun _ => false) (fun _ => none) [⟨[], [0], true⟩, ⟨[], [5], true⟩, ⟨[0, 1], [], true⟩, ⟨[2], [], false⟩, ⟨[], [1], true⟩, ⟨[], [5], true⟩, ⟨[4, 5], [], true⟩, ⟨[6], [], false⟩, ⟨[3, 7], [], true⟩] [[(0, .slice Al l.length kl)], [(5, .int .i64 z14)], [], [], [(1, .slice Ao o.length ko)], [(5, .int .i64 z14)], [], [], []] (fun iQ => [fun v _ => v = .slice Al l.length kl, fun v _ => v = .int .i64 z14, fun v _ => v = .pointer (some ((adOf Al).add z14.toNat)), fun v _ => v = .int .i64 (gi l z14), fun v _ => v = .slice Ao o.length ko, fun v _ => v = .int .i64 z14, fun v _ => v = .pointer (some ((adOf Ao).add z14.toNat)), fun v _ => v = .int .i64 (gi o z14), fun v _ => v = .bool (decide ((gi l z14) ≠ (gi o z14)))].getD iQ (fun _ _ => True)) Try.mixed (by kernel_rfl) ?_ (by kernel_rfl) ?_ ?_
      · refine Vs_monoT _ ?_
        intro VQ hVQ vQ wQ1 wQ2 hQ1 hQ2
        simp only [List.mem_cons, List.not_mem_nil, or_false] at hVQ
        rcases hVQ with rfl | rfl | rfl | rfl | rfl | rfl | rfl | rfl | rfl
        · exact hQ1
        · exact hQ1
        · exact hQ1
        · exact hQ1
        · exact hQ1
        · exact hQ1
        · exact hQ1
        · exact hQ1
        · exact hQ1
      · refine ⟨⟨rfl, ⟨rfl, trivial⟩, ?_⟩, ⟨rfl, ⟨rfl, trivial⟩, ?_⟩, ⟨rfl, trivial, ?_⟩, ⟨rfl, trivial, ?_⟩, ⟨rfl, ⟨rfl, trivial⟩, ?_⟩, ⟨rfl, ⟨rfl, trivial⟩, ?_⟩, ⟨rfl, trivial, ?_⟩, ⟨rfl, trivial, ?_⟩, ⟨rfl, trivial, ?_⟩, trivial⟩
        · intro w19 hE
          intro RR
          refine WL.move rfl rfl ?_
          exact WL.done ⟨_, rfl, rfl, rfl, (fun h => absurd h (by decide)), (fun j h => by cases h)⟩
        · intro w20 hE
          intro RR
          refine WL.move rfl rfl ?_
          exact WL.done ⟨_, rfl, rfl, rfl, (fun h => absurd h (by decide)), (fun j h => by cases h)⟩
        · intro w21 hE
          rintro _ rfl
          rintro _ rfl
          intro RR
          refine SL.index Try.underlying22 Try.el3 (hS.ro hl) rfl rfl o22 rfl ?_
          exact WL.done ⟨_, rfl, rfl, rfl, (fun h => absurd h (by decide)), (fun j h => by cases h)⟩
        · intro w23 hE
          have hE := hE rfl
          have hS := hS.grow hE
          rintro _ rfl
          intro RR
          refine WL.load Try.underlying3 rfl rfl (Rd.gi (hS.ro hl) o22) rfl ?_
          exact WL.done ⟨_, rfl, ext_refl _, rfl, (fun h => absurd h (by decide)), (fun j h => by cases h)⟩
        · intro w24 hE
          intro RR
          refine WL.move rfl rfl ?_
          exact WL.done ⟨_, rfl, rfl, rfl, (fun h => absurd h (by decide)), (fun j h => by cases h)⟩
        · intro w25 hE
          intro RR
          refine WL.move rfl rfl ?_
          exact WL.done ⟨_, rfl, rfl, rfl, (fun h => absurd h (by decide)), (fun j h => by cases h)⟩
        · intro w26 hE
          rintro _ rfl
          rintro _ rfl
          intro RR
          refine SL.index Try.underlying22 Try.el3 (hS.ro ho) rfl rfl o27 rfl ?_
          exact WL.done ⟨_, rfl, rfl, rfl, (fun h => absurd h (by decide)), (fun j h => by cases h)⟩
        · intro w28 hE
          have hE := hE rfl
          have hS := hS.grow hE
          rintro _ rfl
          intro RR
          refine WL.load Try.underlying3 rfl rfl (Rd.gi (hS.ro ho) o27) rfl ?_
          exact WL.done ⟨_, rfl, ext_refl _, rfl, (fun h => absurd h (by decide)), (fun j h => by cases h)⟩
        · intro w29 hE
          rintro _ rfl
          rintro _ rfl
          intro RR
          refine WL.neqD rfl rfl rfl ?_
          exact WL.done ⟨_, rfl, rfl, rfl, (fun h => absurd h (by decide)), (fun j h => by cases h)⟩
      · intro vals w30 hT hVs hAp hCp
        have hS := hS.grow hT
        have hv0 : vals 0 = _ := hVs 0 (by decide)
        have hv1 : vals 1 = _ := hVs 1 (by decide)
        have hv2 : vals 2 = _ := hVs 2 (by decide)
        have hv3 : vals 3 = _ := hVs 3 (by decide)
        have hv4 : vals 4 = _ := hVs 4 (by decide)
        have hv5 : vals 5 = _ := hVs 5 (by decide)
        have hv6 : vals 6 = _ := hVs 6 (by decide)
        have hv7 : vals 7 = _ := hVs 7 (by decide)
        have hv8 : vals 8 = _ := hVs 8 (by decide)
        rw [show (List.filterMap (fun i => Option.map (fun t => (t, vals i)) (dstAt _ i)) (List.range _)) = [(16, .slice Al l.length kl), (17, .int .i64 z14), (18, .pointer (some ((adOf Al).add z14.toNat))), (19, .int .i64 (gi l z14)), (20, .slice Ao o.length ko), (21, .int .i64 z14), (22, .pointer (some ((adOf Ao).add z14.toNat))), (23, .int .i64 (gi o z14)), (24, .bool (decide ((gi l z14) ≠ (gi o z14))))] from by
          show [(16, vals 0), (17, vals 1), (18, vals 2), (19, vals 3), (20, vals 4), (21, vals 5), (22, vals 6), (23, vals 7), (24, vals 8)] = _
          rw [hv0, hv1, hv2, hv3, hv4, hv5, hv6, hv7, hv8]]
        refine WA.done (by decide +kernel) ?_
        refine W.cond2 rfl (fun c31 => ?_) (fun c31 => ?_)
        · have hv := hv.1 (of_decide_eq_true c31)
          refine W.seq ?_
          refine W.region ?_
          refine WL.assign rfl rfl ?_
          refine WL.done ?_
          refine W.ret ?_
          refine ⟨_, rfl, Fin.nil ?_⟩
          exact ⟨_, hS.ext, (hS.pick [] rfl).rows, News.of (hS.pick [] rfl).rows rfl, ⟨false, rfl, rfl, hv⟩⟩
        · have hv := hv.2 (of_decide_eq_false c31)
          refine W.skip ?_
          refine W.region ?_
          obtain ⟨o32, hv⟩ := hv
          refine WL.add (r := (z14 + (1 : Int))) rfl rfl (wr o32) rfl ?_
          refine WL.move rfl rfl ?_
          refine WL.done ?_
          change St _ _ _ _ [] at hS
          exact ⟨(z14 + (1 : Int)), ⟨rfl, rfl, rfl, rfl, rfl, trivial⟩, hv.2, rfl, hv.1, hS⟩
    · have hv := hv.2 (of_decide_eq_false c18)
      refine W.exit ?_
      refine W.seq ?_
      refine W.region ?_
      refine WL.assign rfl rfl ?_
      refine WL.done ?_
      refine W.ret ?_
      refine ⟨_, rfl, Fin.nil ?_⟩
      exact ⟨_, hS.ext, (hS.pick [] rfl).rows, News.of (hS.pick [] rfl).rows rfl, ⟨true, rfl, rfl, hv⟩⟩

def V_made (Pf : Int) (Mf : Int) (mf : List Int) (Q : Option GFv → Prop) : Prop :=
  V_rCheck Pf Mf mf (fun r14 => ((r14 ≠ (0 : Int)) → Q none) ∧ (¬ (r14 ≠ (0 : Int)) → (V_New Pf Mf mf (fun q => match q with | (none, r18) => ((r18 ≠ (0 : Int)) → Q none) ∧ (¬ (r18 ≠ (0 : Int)) → Q none) | (some F19, r18) => ((r18 ≠ (0 : Int)) → Q none) ∧ (¬ (r18 ≠ (0 : Int)) → (Q (some F19)))))))
theorem ok_made {w : World} {Q : Option GFv → Prop} {Pf : Int} {Mf : Int} {mf : List Int} {Bf : Nat} {Af : Option Addr} {nf kf : Nat} (hf : Rd Bf w 1 Af nf kf (is mf)) (hv : V_made Pf Mf mf Q) :
    Calls Try.prog 21 #[.agg #[.int .i64 Pf, .int .i64 Mf, .slice Af nf kf]] w fun e w' => ∃ v Qr, e = .returned v ∧ w.grownBy w' none ∧ Rows w.heap.size none w' Qr ∧ News w.heap.size Qr ∧ ∃ (o : Option GFv), Q o ∧ match o with | none => v = .pointer none ∧ Qr = [] | some F => ∃ (ad : Addr) (lo hi : Nat), v = .pointer (some ad) ∧ Qr = [.ch lo hi (fun wz => GFX lo hi wz ad F)] := by
  have hnf := hf.ilen
  subst hnf
  refine calls_swap ?_
  refine calls_of_W (vs := [.agg #[.int .i64 Pf, .int .i64 Mf, .slice Af mf.length kf]]) [2] Try.func21 rfl rfl rfl rfl ?_
  have hS := St.start w
  unfold V_made at hv
  refine W.seq ?_
  refine W.region ?_
  refine SL.box (z := 3) (cs := [.int .i64 Pf, .int .i64 Mf, .slice Af mf.length kf]) hS rfl rfl rfl rfl ?_
  intro g11 w12 hS
  refine WL.assign rfl rfl ?_
  refine WL.done ?_
  refine W.seq ?_
  refine W.seq ?_
  refine W.region ?_
  refine WL.loadV (cs := [.int .i64 Pf, .int .i64 Mf, .slice Af mf.length kf]) Try.el24 Try.agg24 rfl rfl (Own.vcells (hS.own (i := 0) rfl)) rfl ?_
  refine SL.call hS (ok_rCheck (hS.ro hf) hv) Try.func62 rfl Try.nm62 rfl rfl ?_
  rintro _ _ w13 ⟨r14, rfl, rfl, hv⟩ hGw13 hS
  change St _ _ _ _ [.row 24 3 (some ⟨g11, 0, none⟩) 1 1 [.int .i64 Pf, .int .i64 Mf, .slice Af mf.length kf]] at hS
  refine WL.neqD rfl rfl rfl ?_
  refine WL.done ?_
  refine W.cond2 rfl (fun c15 => ?_) (fun c15 => ?_)
  · have hv := hv.1 (of_decide_eq_true c15)
    refine W.seq ?_
    refine W.region ?_
    refine WL.assign rfl rfl ?_
    refine WL.done ?_
    refine W.ret ?_
    refine ⟨_, rfl, Fin.nil ?_⟩
    exact ⟨_, hS.ext, (hS.pick [] rfl).rows, News.of (hS.pick [] rfl).rows rfl, ⟨none, hv, rfl, rfl⟩⟩
  · have hv := hv.2 (of_decide_eq_false c15)
    refine W.skip ?_
    refine W.seq ?_
    refine W.region ?_
    refine WL.loadV (cs := [.int .i64 Pf, .int .i64 Mf, .slice Af mf.length kf]) Try.el24 Try.agg24 rfl rfl (Own.vcells (hS.own (i := 0) rfl)) rfl ?_
    refine SL.call hS (ok_New (hS.ro hf) hv) Try.func63 rfl Try.nm63 rfl rfl ?_
    rintro _ _ w17 ⟨o, r18, hv, hK⟩ hGw17 hS
    cases o with
    | none =>
      obtain ⟨rfl, rfl⟩ := hK
      change St _ _ _ _ [.row 24 3 (some ⟨g11, 0, none⟩) 1 1 [.int .i64 Pf, .int .i64 Mf, .slice Af mf.length kf]] at hS
      refine WL.move rfl rfl ?_
      refine WL.extract rfl rfl rfl ?_
      refine WL.extract rfl rfl rfl ?_
      refine WL.assign rfl rfl ?_
      refine WL.assign rfl rfl ?_
      refine WL.done ?_
      refine W.seq ?_
      refine W.seq ?_
      refine W.region ?_
      refine WL.move rfl rfl ?_
      refine WL.neqD rfl rfl rfl ?_
      refine WL.done ?_
      refine W.cond2 rfl (fun c25 => ?_) (fun c25 => ?_)
      · have hv := hv.1 (of_decide_eq_true c25)
        refine W.seq ?_
        refine W.region ?_
        refine WL.assign rfl rfl ?_
        refine WL.done ?_
        refine W.ret ?_
        refine ⟨_, rfl, Fin.nil ?_⟩
        exact ⟨_, hS.ext, (hS.pick [] rfl).rows, News.of (hS.pick [] rfl).rows rfl, ⟨none, hv, rfl, rfl⟩⟩
      · have hv := hv.2 (of_decide_eq_false c25)
        refine W.skip ?_
        refine W.seq ?_
        refine W.region ?_
        refine WL.move rfl rfl ?_
        refine WL.assign rfl rfl ?_
        refine WL.done ?_
        refine W.ret ?_
        refine ⟨_, rfl, Fin.nil ?_⟩
        exact ⟨_, hS.ext, (hS.pick [] rfl).rows, News.of (hS.pick [] rfl).rows rfl, ⟨none, hv, rfl, rfl⟩⟩
    | some F19 =>
      obtain ⟨ad20, lo21, hi22, rfl, rfl⟩ := hK
      change St _ _ _ _ [.ch lo21 hi22 (fun wz => GFX lo21 hi22 wz ad20 F19), .row 24 3 (some ⟨g11, 0, none⟩) 1 1 [.int .i64 Pf, .int .i64 Mf, .slice Af mf.length kf]] at hS
      refine WL.move rfl rfl ?_
      refine WL.extract rfl rfl rfl ?_
      refine WL.extract rfl rfl rfl ?_
      refine WL.assign rfl rfl ?_
      refine WL.assign rfl rfl ?_
      refine WL.done ?_
      refine W.seq ?_
      refine W.seq ?_
      refine W.region ?_
      refine WL.move rfl rfl ?_
      refine WL.neqD rfl rfl rfl ?_
      refine WL.done ?_
      refine W.cond2 rfl (fun c26 => ?_) (fun c26 => ?_)
      · have hv := hv.1 (of_decide_eq_true c26)
        refine W.seq ?_
        refine W.region ?_
        refine WL.assign rfl rfl ?_
        refine WL.done ?_
        refine W.ret ?_
        refine ⟨_, rfl, Fin.nil ?_⟩
        exact ⟨_, hS.ext, (hS.pick [] rfl).rows, News.of (hS.pick [] rfl).rows rfl, ⟨none, hv, rfl, rfl⟩⟩
      · have hv := hv.2 (of_decide_eq_false c26)
        refine W.skip ?_
        refine W.seq ?_
        refine W.region ?_
        refine WL.move rfl rfl ?_
        refine WL.assign rfl rfl ?_
        refine WL.done ?_
        refine W.ret ?_
        refine ⟨_, rfl, Fin.nil ?_⟩
        exact ⟨_, hS.ext, (hS.pick [0] rfl).rows, News.of (hS.pick [0] rfl).rows rfl, ⟨some F19, hv, _, _, _, rfl, rfl⟩⟩

def V_short (ls : List (List Int)) (Q : Bool → Prop) : Prop :=
  ∃ (I14 : Int → Prop) (μ15 : Int → Nat), I14 (0 : Int) ∧ ∀ (z13 : Int), (I14 z13 → (((z13 < ((ls.length : Nat) : Int)) → ((0 ≤ z13 ∧ z13 < (ls.length : Nat)) ∧ ((((24 : Int) < (((gl ls z13).length : Nat) : Int)) → Q false) ∧ (¬ ((24 : Int) < (((gl ls z13).length : Nat) : Int)) → ((I64 (z13 + (1 : Int))) ∧ (I14 (z13 + (1 : Int)) ∧ μ15 (z13 + (1 : Int)) < μ15 z13)))))) ∧ (¬ (z13 < ((ls.length : Nat) : Int)) → Q true)))
theorem ok_short {w : World} {Q : Bool → Prop} {ls : List (List Int)} {Als : Option Addr} {nls kls : Nat} (hls : Rl w Als nls kls ls) (hv : V_short ls Q) :
    Calls Try.prog 26 #[.slice Als nls kls] w fun e w' => ∃ v Qr, e = .returned v ∧ w.grownBy w' none ∧ Rows w.heap.size none w' Qr ∧ News w.heap.size Qr ∧ ∃ (r0 : Bool), v = .bool r0 ∧ Qr = [] ∧ Q r0 := by
  have hnls := hls.len
  subst hnls
  refine calls_swap ?_
  refine calls_of_W (vs := [.slice Als ls.length kls]) [2] Try.func26 rfl rfl rfl rfl ?_
  have hS := St.start w
  unfold V_short at hv
  refine W.seq ?_
  refine W.region ?_
  refine WL.assign rfl rfl ?_
  refine WL.done ?_
  refine W.seq ?_
  refine W.seq ?_
  refine W.region ?_
  refine WL.move rfl rfl ?_
  refine WL.len Try.underlying37 rfl rfl ?_
  refine WL.move rfl rfl ?_
  refine WL.done ?_
  refine W.block ?_
  obtain ⟨I14, μ15, hv, hk26⟩ := hv
  change St _ _ _ _ [] at hS
  refine W.loop (σ := Int) (fun z13 w1 => I14 z13 ∧ St TT w none w1 []) (fun z13 => [(2, .bool false), (5, .slice Als ls.length kls), (6, .int .i64 ((ls.length : Nat) : Int)), (7, .int .i64 z13)]) (fun z13 => μ15 z13) (0 : Int) ⟨hv, hS⟩ ⟨rfl, rfl, rfl, rfl, trivial⟩ ?_
  rintro z13 w16 ⟨hv, hS⟩
  have hv := hk26 z13 hv
  refine W.seq ?_
  refine W.region ?_
  refine WL.lssD rfl rfl rfl ?_
  refine WL.done ?_
  refine W.seq ?_
  refine W.cond2 rfl (fun c17 => ?_) (fun c17 => ?_)
  · have hv := hv.1 (of_decide_eq_true c17)
    refine W.skip ?_
    refine W.seq ?_
    refine W.block ?_
    refine W.seq ?_
    refine W.region ?_
    obtain ⟨o18, hv⟩ := hv
    refine SL.indexL Try.underlying37 Try.el22 hls rfl rfl o18 rfl ?_
    obtain ⟨A19, k20, B21, hc22, hr23⟩ := Rl.at_ hls o18
    have hc22 := hS.cell hc22
    refine WL.load Try.underlying22 rfl rfl hc22 rfl ?_
    refine WL.assign rfl rfl ?_
    refine WL.done ?_
    refine W.seq ?_
    refine W.region ?_
    refine WL.move rfl rfl ?_
    refine WL.len Try.underlying22 rfl rfl ?_
    refine WL.gtrD rfl rfl rfl ?_
    refine WL.done ?_
    refine W.cond2 rfl (fun c24 => ?_) (fun c24 => ?_)
    · have hv := hv.1 (of_decide_eq_true c24)
      refine W.seq ?_
      refine W.region ?_
      refine WL.assign rfl rfl ?_
      refine WL.done ?_
      refine W.ret ?_
      refine ⟨_, rfl, Fin.nil ?_⟩
      exact ⟨_, hS.ext, (hS.pick [] rfl).rows, News.of (hS.pick [] rfl).rows rfl, ⟨false, rfl, rfl, hv⟩⟩
    · have hv := hv.2 (of_decide_eq_false c24)
      refine W.skip ?_
      refine W.region ?_
      obtain ⟨o25, hv⟩ := hv
      refine WL.add (r := (z13 + (1 : Int))) rfl rfl (wr o25) rfl ?_
      refine WL.move rfl rfl ?_
      refine WL.done ?_
      change St _ _ _ _ [] at hS
      exact ⟨(z13 + (1 : Int)), ⟨rfl, rfl, rfl, rfl, trivial⟩, hv.2, rfl, hv.1, hS⟩
  · have hv := hv.2 (of_decide_eq_false c17)
    refine W.exit ?_
    refine W.seq ?_
    refine W.region ?_
    refine WL.assign rfl rfl ?_
    refine WL.done ?_
    refine W.ret ?_
    refine ⟨_, rfl, Fin.nil ?_⟩
    exact ⟨_, hS.ext, (hS.pick [] rfl).rows, News.of (hS.pick [] rfl).rows rfl, ⟨true, rfl, rfl, hv⟩⟩

def V_alive  (Q : Bool → Prop) : Prop :=
  V_made (2 : Int) (1 : Int) ([] : List Int) (fun q => match q with | none => V_made (5 : Int) (1 : Int) ([] : List Int) (fun q => match q with | none => Q false | some F23 => Q false) | some F14 => V_made (5 : Int) (1 : Int) ([] : List Int) (fun q => match q with | none => Q false | some F32 => V_pdivmod F32 ([(1 : Int), (2 : Int), (0 : Int), (1 : Int)] : List Int) ([(3 : Int), (1 : Int)] : List Int) (fun q => match q with | (x45, x49, r53) => V_pmul F14 ([([(1 : Int), (1 : Int), (1 : Int)] : List Int), ([(1 : Int), (1 : Int)] : List Int)] : List (List Int)) (fun x64 => V_lsame x64 ([(1 : Int), (0 : Int), (0 : Int), (1 : Int)] : List Int) (fun r72 => ((r72 = true) → (((r53 = (0 : Int)) → (V_lsame x45 ([(1 : Int), (2 : Int), (1 : Int)] : List Int) (fun r79 => ((r79 = true) → (V_lsame x49 ([(3 : Int)] : List Int) (fun r85 => Q r85))) ∧ (r79 = false → Q false)))) ∧ (¬ (r53 = (0 : Int)) → Q false))) ∧ (r72 = false → Q false))))))
theorem ok_alive {w : World} {Q : Bool → Prop}   (hv : V_alive  Q) :
    Calls Try.prog 20 #[] w fun e w' => ∃ v Qr, e = .returned v ∧ w.grownBy w' none ∧ Rows w.heap.size none w' Qr ∧ News w.heap.size Qr ∧ ∃ (r0 : Bool), v = .bool r0 ∧ Qr = [] ∧ Q r0 := by
  refine calls_swap ?_
  refine calls_of_W (vs := []) [0] Try.func20 rfl rfl rfl rfl ?_
  have hS := St.start w
  unfold V_alive at hv
  refine W.seq ?_
  refine W.region ?_
  refine WL.assign rfl rfl ?_
  refine WL.done ?_
  refine W.seq ?_
  refine W.region ?_
  refine WL.build (cells := #[.int .i64 (2 : Int), .int .i64 (1 : Int), .slice none 0 0]) Try.bld24 rfl rfl rfl ?_
  refine SL.call hS (ok_made (Rd.nilL w) hv) Try.func21 rfl Try.nm21 rfl rfl ?_
  rintro _ _ w12 ⟨o, hv, hK⟩ hGw12 hS
  cases o with
  | none =>
    obtain ⟨rfl, rfl⟩ := hK
    change St _ _ _ _ [] at hS
    refine WL.build (cells := #[.int .i64 (5 : Int), .int .i64 (1 : Int), .slice none 0 0]) Try.bld24 rfl rfl rfl ?_
    refine SL.call hS (ok_made (Rd.nilL w12) hv) Try.func21 rfl Try.nm21 rfl rfl ?_
    rintro _ _ w21 ⟨o, hv, hK⟩ hGw21 hS
    cases o with
    | none =>
      obtain ⟨rfl, rfl⟩ := hK
      change St _ _ _ _ [] at hS
      refine WL.assign rfl rfl ?_
      refine WL.assign rfl rfl ?_
      refine WL.done ?_
      refine W.seq ?_
      refine W.seq ?_
      refine W.region ?_
      refine WL.move rfl rfl ?_
      refine WL.eqlPn Try.underlying26 rfl rfl rfl rfl ?_
      refine WL.move rfl rfl ?_
      refine WL.pass rfl rfl rfl ?_
      refine WL.pass rfl rfl rfl ?_
      refine WL.pick rfl rfl rfl ?_
      refine WL.done ?_
      refine W.condT rfl ?_
      refine W.seq ?_
      refine W.region ?_
      refine WL.assign rfl rfl ?_
      refine WL.done ?_
      refine W.ret ?_
      refine ⟨_, rfl, Fin.nil ?_⟩
      exact ⟨_, hS.ext, (hS.pick [] rfl).rows, News.of (hS.pick [] rfl).rows rfl, ⟨false, rfl, rfl, hv⟩⟩
    | some F23 =>
      obtain ⟨ad24, lo25, hi26, rfl, rfl⟩ := hK
      change St _ _ _ _ [.ch lo25 hi26 (fun wz => GFX lo25 hi26 wz ad24 F23)] at hS
      refine WL.assign rfl rfl ?_
      refine WL.assign rfl rfl ?_
      refine WL.done ?_
      refine W.seq ?_
      refine W.seq ?_
      refine W.region ?_
      refine WL.move rfl rfl ?_
      refine WL.eqlPn Try.underlying26 rfl rfl rfl rfl ?_
      refine WL.move rfl rfl ?_
      refine WL.pass rfl rfl rfl ?_
      refine WL.pass rfl rfl rfl ?_
      refine WL.pick rfl rfl rfl ?_
      refine WL.done ?_
      refine W.condT rfl ?_
      refine W.seq ?_
      refine W.region ?_
      refine WL.assign rfl rfl ?_
      refine WL.done ?_
      refine W.ret ?_
      refine ⟨_, rfl, Fin.nil ?_⟩
      exact ⟨_, hS.ext, (hS.pick [] rfl).rows, News.of (hS.pick [] rfl).rows rfl, ⟨false, rfl, rfl, hv⟩⟩
  | some F14 =>
    obtain ⟨ad15, lo16, hi17, rfl, rfl⟩ := hK
    change St _ _ _ _ [.ch lo16 hi17 (fun wz => GFX lo16 hi17 wz ad15 F14)] at hS
    refine WL.build (cells := #[.int .i64 (5 : Int), .int .i64 (1 : Int), .slice none 0 0]) Try.bld24 rfl rfl rfl ?_
    refine SL.call hS (ok_made (Rd.nilL w12) hv) Try.func21 rfl Try.nm21 rfl rfl ?_
    rintro _ _ w30 ⟨o, hv, hK⟩ hGw30 hS
    cases o with
    | none =>
      obtain ⟨rfl, rfl⟩ := hK
      change St _ _ _ _ [.ch lo16 hi17 (fun wz => GFX lo16 hi17 wz ad15 F14)] at hS
      refine WL.assign rfl rfl ?_
      refine WL.assign rfl rfl ?_
      refine WL.done ?_
      refine W.seq ?_
      refine W.seq ?_
      refine W.region ?_
      refine WL.move rfl rfl ?_
      refine WL.eqlPn Try.underlying26 rfl rfl rfl rfl ?_
      refine WL.move rfl rfl ?_
      refine WL.take rfl ?_
      refine WL.move rfl rfl ?_
      refine WL.take rfl ?_
      refine WL.eqlPn Try.underlying26 rfl rfl rfl rfl ?_
      refine WL.pick rfl rfl rfl ?_
      refine WL.done ?_
      refine W.condT rfl ?_
      refine W.seq ?_
      refine W.region ?_
      refine WL.assign rfl rfl ?_
      refine WL.done ?_
      refine W.ret ?_
      refine ⟨_, rfl, Fin.nil ?_⟩
      exact ⟨_, hS.ext, (hS.pick [] rfl).rows, News.of (hS.pick [] rfl).rows rfl, ⟨false, rfl, rfl, hv⟩⟩
    | some F32 =>
      obtain ⟨ad33, lo34, hi35, rfl, rfl⟩ := hK
      change St _ _ _ _ [.ch lo34 hi35 (fun wz => GFX lo34 hi35 wz ad33 F32), .ch lo16 hi17 (fun wz => GFX lo16 hi17 wz ad15 F14)] at hS
      refine WL.assign rfl rfl ?_
      refine WL.assign rfl rfl ?_
      refine WL.done ?_
      refine W.seq ?_
      refine W.seq ?_
      refine W.region ?_
      refine WL.move rfl rfl ?_
      refine WL.eqlPn Try.underlying26 rfl rfl rfl rfl ?_
      refine WL.move rfl rfl ?_
      refine WL.take rfl ?_
      refine WL.move rfl rfl ?_
      refine WL.take rfl ?_
      refine WL.eqlPn Try.underlying26 rfl rfl rfl rfl ?_
      refine WL.pick rfl rfl rfl ?_
      refine WL.done ?_
      refine W.condF rfl ?_
      refine W.skip ?_
      refine W.seq ?_
      refine W.region ?_
      refine WL.move rfl rfl ?_
      refine SL.lit1 (vs := is ([(1 : Int), (2 : Int), (0 : Int), (1 : Int)] : List Int)) hS Try.underlying22 Try.el3 rfl rfl rfl rfl (is_one _) rfl ?_
      intro A38 w39 hS
      refine SL.lit1 (vs := is ([(3 : Int), (1 : Int)] : List Int)) hS Try.underlying22 Try.el3 rfl rfl rfl rfl (is_one _) rfl ?_
      intro A41 w42 hS
      refine SL.call hS (ok_pdivmod (GFX.gfr (hS.chunk (i := 2) rfl)) (hS.rd (i := 1) rfl) (hS.rd (i := 0) rfl) hv) Try.func37 rfl Try.nm37 rfl rfl ?_
      rintro _ _ w44 ⟨x45, x49, r53, A46, k47, A50, k51, rfl, rfl, hv⟩ hGw44 hS
      change St _ _ _ _ [.row 3 1 A46 x45.length k47 (is x45), .row 3 1 A50 x49.length k51 (is x49), .row 3 1 A41 2 2 (is ([(3 : Int), (1 : Int)] : List Int)), .row 3 1 A38 4 4 (is ([(1 : Int), (2 : Int), (0 : Int), (1 : Int)] : List Int)), .ch lo34 hi35 (fun wz => GFX lo34 hi35 wz ad33 F32), .ch lo16 hi17 (fun wz => GFX lo16 hi17 wz ad15 F14)] at hS
      refine WL.move rfl rfl ?_
      refine WL.extract rfl rfl rfl ?_
      refine WL.extract rfl rfl rfl ?_
      refine WL.extract rfl rfl rfl ?_
      refine WL.assign rfl rfl ?_
      refine WL.assign rfl rfl ?_
      refine WL.assign rfl rfl ?_
      refine WL.done ?_
      refine W.seq ?_
      refine W.region ?_
      refine WL.move rfl rfl ?_
      refine SL.lit1 (vs := is ([(1 : Int), (1 : Int), (1 : Int)] : List Int)) hS Try.underlying22 Try.el3 rfl rfl rfl rfl (is_one _) rfl ?_
      intro A54 w55 hS
      refine SL.lit1 (vs := is ([(1 : Int), (1 : Int)] : List Int)) hS Try.underlying22 Try.el3 rfl rfl rfl rfl (is_one _) rfl ?_
      intro A57 w58 hS
      refine SL.lit1 (vs := [.slice A54 3 3, .slice A57 2 2]) hS Try.underlying37 Try.el22 rfl rfl rfl rfl (by simp [Value.oneCell']) rfl ?_
      intro A60 w61 hS
      refine SL.call hS (ok_pmul (GFX.gfr (hS.chunk (i := 8) rfl)) (fs := ([([(1 : Int), (1 : Int), (1 : Int)] : List Int), ([(1 : Int), (1 : Int)] : List Int)] : List (List Int))) ⟨_, _, (hS.rd (i := 0) rfl), ⟨⟨_, _, _, rfl, (Rd.is_m (hS.rd (i := 2) rfl))⟩, ⟨_, _, _, rfl, (Rd.is_m (hS.rd (i := 1) rfl))⟩, trivial⟩⟩ hv) Try.func32 rfl Try.nm32 rfl rfl ?_
      rintro _ _ w63 ⟨x64, A65, k66, rfl, rfl, hv⟩ hGw63 hS
      change St _ _ _ _ [.row 3 1 A65 x64.length k66 (is x64), .row 22 1 A60 2 2 [.slice A54 3 3, .slice A57 2 2], .row 3 1 A57 2 2 (is ([(1 : Int), (1 : Int)] : List Int)), .row 3 1 A54 3 3 (is ([(1 : Int), (1 : Int), (1 : Int)] : List Int)), .row 3 1 A46 x45.length k47 (is x45), .row 3 1 A50 x49.length k51 (is x49), .row 3 1 A41 2 2 (is ([(3 : Int), (1 : Int)] : List Int)), .row 3 1 A38 4 4 (is ([(1 : Int), (2 : Int), (0 : Int), (1 : Int)] : List Int)), .ch lo34 hi35 (fun wz => GFX lo34 hi35 wz ad33 F32), .ch lo16 hi17 (fun wz => GFX lo16 hi17 wz ad15 F14)] at hS
      refine SL.lit1 (vs := is ([(1 : Int), (0 : Int), (0 : Int), (1 : Int)] : List Int)) hS Try.underlying22 Try.el3 rfl rfl rfl rfl (is_one _) rfl ?_
      intro A68 w69 hS
      refine SL.call hS (ok_lsame (hS.rd (i := 1) rfl) (hS.rd (i := 0) rfl) hv) Try.func23 rfl Try.nm23 rfl rfl ?_
      rintro _ _ w71 ⟨r72, rfl, rfl, hv⟩ hGw71 hS
      change St _ _ _ _ [.row 3 1 A68 4 4 (is ([(1 : Int), (0 : Int), (0 : Int), (1 : Int)] : List Int)), .row 3 1 A65 x64.length k66 (is x64), .row 22 1 A60 2 2 [.slice A54 3 3, .slice A57 2 2], .row 3 1 A57 2 2 (is ([(1 : Int), (1 : Int)] : List Int)), .row 3 1 A54 3 3 (is ([(1 : Int), (1 : Int), (1 : Int)] : List Int)), .row 3 1 A46 x45.length k47 (is x45), .row 3 1 A50 x49.length k51 (is x49), .row 3 1 A41 2 2 (is ([(3 : Int), (1 : Int)] : List Int)), .row 3 1 A38 4 4 (is ([(1 : Int), (2 : Int), (0 : Int), (1 : Int)] : List Int)), .ch lo34 hi35 (fun wz => GFX lo34 hi35 wz ad33 F32), .ch lo16 hi17 (fun wz => GFX lo16 hi17 wz ad15 F14)] at hS
      refine WL.move rfl rfl ?_
      cases g73 : r72
      · have hv := hv.2 g73
        refine WL.pass rfl rfl rfl ?_
        refine WL.pass rfl rfl rfl ?_
        refine WL.pick rfl rfl rfl ?_
        refine WL.move rfl rfl ?_
        refine WL.pass rfl rfl rfl ?_
        refine WL.pass rfl rfl rfl ?_
        refine WL.pass rfl rfl rfl ?_
        refine WL.pick rfl rfl rfl ?_
        refine WL.move rfl rfl ?_
        refine WL.pass rfl rfl rfl ?_
        refine WL.pass rfl rfl rfl ?_
        refine WL.pass rfl rfl rfl ?_
        refine WL.pick rfl rfl rfl ?_
        refine WL.assign rfl rfl ?_
        refine WL.done ?_
        refine W.ret ?_
        refine ⟨_, rfl, Fin.nil ?_⟩
        exact ⟨_, hS.ext, (hS.pick [] rfl).rows, News.of (hS.pick [] rfl).rows rfl, ⟨false, rfl, rfl, hv⟩⟩
      · have hv := hv.1 g73
        refine WL.take rfl ?_
        refine WL.move rfl rfl ?_
        refine WL.take rfl ?_
        refine WL.eqlD rfl rfl rfl ?_
        refine WL.pick rfl rfl rfl ?_
        refine WL.move rfl rfl ?_
        by_cases g74 : r53 = (0 : Int)
        · have hv := hv.1 g74
          rw [decide_eq_true g74]
          refine WL.take rfl ?_
          refine WL.move rfl rfl ?_
          refine WL.take rfl ?_
          refine SL.lit1 (vs := is ([(1 : Int), (2 : Int), (1 : Int)] : List Int)) hS Try.underlying22 Try.el3 rfl rfl rfl rfl (is_one _) rfl ?_
          intro A75 w76 hS
          refine WL.take rfl ?_
          refine SL.call hS (ok_lsame (hS.rd (i := 6) rfl) (hS.rd (i := 0) rfl) hv) Try.func23 rfl Try.nm23 rfl rfl ?_
          rintro _ _ w78 ⟨r79, rfl, rfl, hv⟩ hGw78 hS
          change St _ _ _ _ [.row 3 1 A75 3 3 (is ([(1 : Int), (2 : Int), (1 : Int)] : List Int)), .row 3 1 A68 4 4 (is ([(1 : Int), (0 : Int), (0 : Int), (1 : Int)] : List Int)), .row 3 1 A65 x64.length k66 (is x64), .row 22 1 A60 2 2 [.slice A54 3 3, .slice A57 2 2], .row 3 1 A57 2 2 (is ([(1 : Int), (1 : Int)] : List Int)), .row 3 1 A54 3 3 (is ([(1 : Int), (1 : Int), (1 : Int)] : List Int)), .row 3 1 A46 x45.length k47 (is x45), .row 3 1 A50 x49.length k51 (is x49), .row 3 1 A41 2 2 (is ([(3 : Int), (1 : Int)] : List Int)), .row 3 1 A38 4 4 (is ([(1 : Int), (2 : Int), (0 : Int), (1 : Int)] : List Int)), .ch lo34 hi35 (fun wz => GFX lo34 hi35 wz ad33 F32), .ch lo16 hi17 (fun wz => GFX lo16 hi17 wz ad15 F14)] at hS
          refine WL.pick rfl rfl rfl ?_
          refine WL.move rfl rfl ?_
          cases g80 : r79
          · have hv := hv.2 g80
            refine WL.pass rfl rfl rfl ?_
            refine WL.pass rfl rfl rfl ?_
            refine WL.pass rfl rfl rfl ?_
            refine WL.pick rfl rfl rfl ?_
            refine WL.assign rfl rfl ?_
            refine WL.done ?_
            refine W.ret ?_
            refine ⟨_, rfl, Fin.nil ?_⟩
            exact ⟨_, hS.ext, (hS.pick [] rfl).rows, News.of (hS.pick [] rfl).rows rfl, ⟨false, rfl, rfl, hv⟩⟩
          · have hv := hv.1 g80
            refine WL.take rfl ?_
            refine WL.move rfl rfl ?_
            refine WL.take rfl ?_
            refine SL.lit1 (vs := is ([(3 : Int)] : List Int)) hS Try.underlying22 Try.el3 rfl rfl rfl rfl (is_one _) rfl ?_
            intro A81 w82 hS
            refine WL.take rfl ?_
            refine SL.call hS (ok_lsame (hS.rd (i := 8) rfl) (hS.rd (i := 0) rfl) hv) Try.func23 rfl Try.nm23 rfl rfl ?_
            rintro _ _ w84 ⟨r85, rfl, rfl, hv⟩ hGw84 hS
            change St _ _ _ _ [.row 3 1 A81 1 1 (is ([(3 : Int)] : List Int)), .row 3 1 A75 3 3 (is ([(1 : Int), (2 : Int), (1 : Int)] : List Int)), .row 3 1 A68 4 4 (is ([(1 : Int), (0 : Int), (0 : Int), (1 : Int)] : List Int)), .row 3 1 A65 x64.length k66 (is x64), .row 22 1 A60 2 2 [.slice A54 3 3, .slice A57 2 2], .row 3 1 A57 2 2 (is ([(1 : Int), (1 : Int)] : List Int)), .row 3 1 A54 3 3 (is ([(1 : Int), (1 : Int), (1 : Int)] : List Int)), .row 3 1 A46 x45.length k47 (is x45), .row 3 1 A50 x49.length k51 (is x49), .row 3 1 A41 2 2 (is ([(3 : Int), (1 : Int)] : List Int)), .row 3 1 A38 4 4 (is ([(1 : Int), (2 : Int), (0 : Int), (1 : Int)] : List Int)), .ch lo34 hi35 (fun wz => GFX lo34 hi35 wz ad33 F32), .ch lo16 hi17 (fun wz => GFX lo16 hi17 wz ad15 F14)] at hS
            refine WL.pick rfl rfl rfl ?_
            refine WL.assign rfl rfl ?_
            refine WL.done ?_
            refine W.ret ?_
            refine ⟨_, rfl, Fin.nil ?_⟩
            exact ⟨_, hS.ext, (hS.pick [] rfl).rows, News.of (hS.pick [] rfl).rows rfl, ⟨r85, rfl, rfl, hv⟩⟩
        · have hv := hv.2 g74
          rw [decide_eq_false g74]
          refine WL.pass rfl rfl rfl ?_
          refine WL.pass rfl rfl rfl ?_
          refine WL.pass rfl rfl rfl ?_
          refine WL.pick rfl rfl rfl ?_
          refine WL.move rfl rfl ?_
          refine WL.pass rfl rfl rfl ?_
          refine WL.pass rfl rfl rfl ?_
          refine WL.pass rfl rfl rfl ?_
          refine WL.pick rfl rfl rfl ?_
          refine WL.assign rfl rfl ?_
          refine WL.done ?_
          refine W.ret ?_
          refine ⟨_, rfl, Fin.nil ?_⟩
          exact ⟨_, hS.ext, (hS.pick [] rfl).rows, News.of (hS.pick [] rfl).rows rfl, ⟨false, rfl, rfl, hv⟩⟩
end Go.Proofs.Ytmdigamgojfjdaa
set_option linter.unusedSimpArgs false
set_option linter.unusedVariables false
namespace Go.Proofs.Ytmdigamgojfjdaa
open Go.RowKit
end Go.Proofs.Ytmdigamgojfjdaa
set_option linter.unusedVariables false
set_option linter.unusedSimpArgs false
namespace Go.Proofs.Ytmdigamgojfjdaa
open Ks
/-! ### the field's operations -/
section
variable {k : Ks} {F : GFv} {P M : Int} {mf : List Int}
theorem el0 {x : Int} : k.el x = 0 ↔ inE (k.p ^ k.m) x = 0 := ⟨fun h => congrArg Subtype.val h, fun h => Subtype.ext h⟩
theorem w_Mul {x y : Int} {Q : Int → Prop} (K : GFk F k.p k.m k.v k.g) (h : Q (k.co (k.el x * k.el y))) : V_Mul F x y Q := v_Mul K h
theorem w_Add {x y : Int} {Q : Int → Prop} (K : GFk F k.p k.m k.v k.g) (h : Q (k.co (k.el x + k.el y))) : V_Add F x y Q := v_Add K h
theorem w_Sub {x y : Int} {Q : Int → Prop} (K : GFk F k.p k.m k.v k.g) (h : Q (k.co (k.el x - k.el y))) : V_Sub F x y Q := v_Sub K h
theorem w_Neg {x : Int} {Q : Int → Prop} (K : GFk F k.p k.m k.v k.g) (h : Q (k.co (-(k.el x)))) : V_Neg F x Q := v_Neg K h
theorem w_Inv {x : Int} {Q : Int × Int → Prop} (K : GFk F k.p k.m k.v k.g) (h0 : k.el x = 0 → Q (0, 7)) (h1 : k.el x ≠ 0 → Q (k.co (inv_ (k.el x)), 0)) : V_Inv F x Q :=
  v_Inv K (fun h => h0 (el0.2 h)) fun z hne hz hi => by
    let u : k.E := ⟨z, hz⟩
    have e : u * k.el x = 1 := Subtype.ext hi
    have := h1 (fun h => hne (el0.1 h))
    rw [← inv_uniq e] at this; exact this
theorem w_rIn {x : Int} {Q : Int → Prop} (hF : FV P M mf k.p k.m k.v) (h : Q (k.co (k.el x))) : V_rIn P M mf x Q := v_rIn hF h
theorem w_rAdd {x y : Int} {Q : Int → Prop} (hF : FV P M mf k.p k.m k.v) (h : Q (k.co (k.el x + k.el y))) : V_rAdd P M mf x y Q := v_rAdd hF h
theorem w_rMul {x y : Int} {Q : Int → Prop} (hF : FV P M mf k.p k.m k.v) (h : Q (k.co (k.el x * k.el y))) : V_rMul P M mf x y Q := v_rMul hF h
theorem w_rNeg {x : Int} {Q : Int → Prop} (hF : FV P M mf k.p k.m k.v) (h : Q (k.co (-(k.el x)))) : V_rNeg P M mf x Q := v_rNeg hF h
theorem w_rInv {x : Int} {Q : Int → Prop} (hF : FV P M mf k.p k.m k.v) (hx : k.el x ≠ 0) (h : Q (k.co (inv_ (k.el x)))) : V_rInv P M mf x Q := by
  have hq := k.q256
  have hlt := (inv_ (k.el x)).2
  have hpos : 0 < (inv_ (k.el x)).1 := Nat.pos_of_ne_zero fun e => inv_ne hx (Subtype.ext e)
  refine ⟨fun z => ∃ j : Nat, z = j ∧ 1 ≤ j ∧ j ≤ (inv_ (k.el x)).1, fun z => (300 - z).toNat, ⟨1, rfl, Nat.le_refl _, hpos⟩, ?_⟩
  rintro _ ⟨j, rfl, h1, h2⟩
  dsimp only
  refine v_rOrder ?_
  rw [hF.ord]
  refine ⟨fun hlt2 => w_rMul hF ⟨fun h3 => ?_, fun h3 => ⟨small (by omega) (by omega), ⟨j + 1, by push_cast; rfl, by omega, ?_⟩, by omega⟩⟩, fun hge => by omega⟩
  · have e : k.el (j : Int) * k.el x = 1 := by rw [Cr.mul_comm]; exact co_inj h3
    rw [← inv_uniq e] at h
    rwa [co_el ⟨by omega, hlt2⟩] at h
  · rcases Nat.lt_or_ge j (inv_ (k.el x)).1 with h4 | h4
    · exact h4
    · exfalso
      have e : k.el (j : Int) = inv_ (k.el x) := by
        have : (j : Int) = k.co (inv_ (k.el x)) := by show (j : Int) = (((inv_ (k.el x)).1 : Nat) : Int); omega
        rw [this, el_co]
      rw [e, mul_inv hx] at h3
      exact h3 rfl
theorem w_Scale {x : Int} {l : List Int} {Q : List Int → Prop} (K : GFk F k.p k.m k.v k.g) (hl : l.length ≤ 1000) (h : ∀ r : List Int, r.length = l.length → (∀ i, i < l.length → vo r i = k.co (k.el x * k.pol l i)) → Q r) : V_Scale F x l Q := v_Scale K hl h
/-! ### lists that a loop fills -/
def Fill (val : Nat → Int) (n : Nat) (x : List Int) (z : Int) : Prop := ∃ j : Nat, z = j ∧ j ≤ n ∧ x.length = n ∧ ∀ i, i < j → vo x i = val i
theorem Fill.start (val : Nat → Int) (n : Nat) : Fill val n (List.replicate n (0 : Int)) 0 := ⟨0, rfl, Nat.zero_le _, List.length_replicate, fun i hi => by omega⟩
theorem Fill.step {val : Nat → Int} {n j : Nat} {x : List Int} (h : Fill val n x j) (hj : j < n) {u : Int} (hu : u = val j) : Fill val n (si x j u) ((j : Int) + 1) := by
  obtain ⟨i, e, h1, h2, h3⟩ := h
  obtain rfl : j = i := by omega
  refine ⟨j + 1, by push_cast; rfl, hj, by rw [si_nat, List.length_set, h2], fun i hi => ?_⟩
  rw [si_nat, vo_set]
  by_cases e2 : j = i
  · subst e2; rw [if_pos ⟨rfl, by omega⟩, hu]
  · rw [if_neg (fun h => e2 h.1)]; exact h3 i (by omega)
theorem fill_pol {x : List Int} {n : Nat} {f : Pl k.E} (hl : x.length = n) (hv : ∀ i, i < n → vo x i = k.co (f i)) (hs : Su f n) : k.Ell x ∧ k.pol x = f := by
  refine ⟨fun i hi => by rw [hv i (by omega)]; exact co_lt _, Pl.ext fun i => ?_⟩
  show k.el (vo x i) = f i
  by_cases hi : i < n
  · rw [hv i hi, el_co]
  · rw [vo_hi (by omega), hs i (by omega), el_zero]
/-! ### the program's polynomials -/
theorem w_coef {p : List Int} {i : Nat} {Q : Int → Prop} (K : GFk F k.p k.m k.v k.g) (h : Q (k.co (k.pol p i))) : V_coef F p i Q := by
  refine ⟨fun hi => ⟨⟨by omega, by omega⟩, v_Is K ⟨fun hb => ⟨⟨by omega, by omega⟩, ?_⟩, fun hb => ?_⟩⟩, fun hi => ?_⟩
  · rw [gi_nat] at hb ⊢
    have hb := of_decide_eq_true hb
    rwa [show k.co (k.pol p i) = vo p i from co_el hb] at h
  · rw [gi_nat] at hb
    have hb := of_decide_eq_false hb
    have : k.pol p i = 0 := by
      show k.el (vo p i) = 0
      exact el0.2 (by unfold inE; rw [if_neg hb])
    rw [this] at h; exact h
  · rw [pol_su p i (by omega)] at h; exact h
theorem w_deg {p : List Int} {Q : Int → Prop} (K : GFk F k.p k.m k.v k.g) (h : ∀ r, DegI (k.pol p) r → r < p.length → Q r) : V_deg F p Q := by
  show ∃ I J, _
  refine ⟨fun i z => Su (k.pol p) (p.length - i), fun r => DegI (k.pol p) r ∧ r < p.length, pol_su p, ?_, fun z hz => ?_, fun r hr => h r hr.1 hr.2⟩
  · intro i hi z hI
    refine w_coef K ⟨fun hne => ⟨.inr ⟨_, rfl, ?_, ?_⟩, by omega⟩, fun he => ?_⟩
    · exact fun e => hne (co_eq0.2 e)
    · rw [show p.length - 1 - i + 1 = p.length - i by omega]; exact hI
    · intro j hj
      by_cases e : j = p.length - 1 - i
      · rw [e]; exact co_eq0.1 (by simpa using he)
      · exact hI j (by omega)
  · refine h (-1) (.inl ⟨rfl, ?_⟩) (by omega)
    have hz : Su (k.pol p) (p.length - p.length) := hz
    rw [Nat.sub_self] at hz; exact hz.eq0
theorem deg_take {l : List Int} {r : Int} (he : k.Ell l) (h : DegI (k.pol l) r) (hr : r < l.length) : l.take (r + 1).toNat = k.L (k.pol l) ∧ ((k.L (k.pol l)).length : Int) = r + 1 := by
  rcases h with ⟨rfl, h2⟩ | ⟨d, rfl, h2⟩
  · rw [h2, L_zero]; exact ⟨rfl, rfl⟩
  · refine ⟨?_, by rw [L_dg h2]; omega⟩
    rw [show ((d : Int) + 1).toNat = d + 1 by omega]
    exact rp_take he (by omega) (fun _ => by rw [Nat.add_sub_cancel]; exact h2.1) h2.2
theorem w_canon {p : List Int} {Q : List Int → Prop} (K : GFk F k.p k.m k.v k.g) (hp : p.length ≤ 1000000) (h : Q (k.L (k.pol p))) : V_canon F p Q := by
  refine w_deg K fun r hr hlt => ?_
  have hr0 : -1 ≤ r := by rcases hr with ⟨h1, _⟩ | ⟨d, h1, _⟩ <;> omega
  obtain ⟨n, hn⟩ : ∃ n : Nat, r + 1 = n := ⟨(r + 1).toNat, by omega⟩
  rw [hn, Int.toNat_natCast]
  have hsu : Su (k.pol p) n := by
    rcases hr with ⟨h1, h2⟩ | ⟨d, h1, h2⟩
    · rw [h2]; exact Su.zero n
    · have := h2.2; rwa [show d + 1 = n by omega] at this
  refine ⟨small (by omega) (by omega), ⟨by omega, by omega, by omega⟩, Fill (fun i => k.co (k.pol p i)) n, fun x z => (n - z).toNat, Fill.start _ n, ?_⟩
  rintro x _ ⟨j, rfl, hj, hl, hv⟩
  dsimp only
  refine ⟨fun hz => w_coef K ⟨⟨by omega, by omega⟩, small (by omega) (by omega), Fill.step ⟨j, rfl, hj, hl, hv⟩ (by omega) rfl, by omega⟩, fun hz => ?_⟩
  obtain ⟨he, hpol⟩ := fill_pol hl (fun i hi => hv i (by omega)) hsu
  have : x = k.L (k.pol p) := L_eq ⟨he, fun h0 => ?_, hpol⟩
  · rw [this]; exact h
  · rw [hl] at h0 ⊢
    rw [hv (n - 1) (by omega)]
    rcases hr with ⟨h1, h2⟩ | ⟨d, h1, h2⟩
    · omega
    · rw [show n - 1 = d by omega]; exact fun e => h2.1 (co_eq0.1 e)
theorem w_trim {p : List Int} {Q : Int → Prop} (K : GFk F k.p k.m k.v k.g) (hp : p.length ≤ 1000000) (he : k.Ell p) (h : ∀ j : Int, 0 ≤ j → j ≤ p.length → p.take j.toNat = k.L (k.pol p) → Q j) : V_trim F p Q := by
  refine w_deg K fun r hr hlt => ?_
  have hr0 : -1 ≤ r := by rcases hr with ⟨h1, _⟩ | ⟨d, h1, _⟩ <;> omega
  exact ⟨small (by omega) (by omega), ⟨by omega, by omega⟩, h _ (by omega) (by omega) (deg_take he hr hlt).1⟩
theorem pol_max (p t : List Int) : Su (k.pol p) (max p.length t.length) ∧ Su (k.pol t) (max p.length t.length) := ⟨(pol_su p).mono (by omega), (pol_su t).mono (by omega)⟩
theorem w_join {p t : List Int} {op : Int → Int → (Int → Prop) → Prop} {Q : List Int → Prop} {f : Pl k.E} (K : GFk F k.p k.m k.v k.g) (hp : p.length ≤ 100000) (ht : t.length ≤ 100000) (ho : ∀ i (R : Int → Prop), R (k.co (f i)) → op (k.co (k.pol p i)) (k.co (k.pol t i)) R) (hf : Su f (max p.length t.length)) (h : Q (k.L f)) : V_join F p t op Q := by
  have hm : max ((p.length : Nat) : Int) ((t.length : Nat) : Int) = ((max p.length t.length : Nat) : Int) := by omega
  unfold V_join
  rw [hm]
  generalize hn : max p.length t.length = n at *
  rw [Int.toNat_natCast]
  refine ⟨⟨by omega, by omega, by omega⟩, Fill (fun i => k.co (f i)) n, fun x z => (n - z).toNat, Fill.start _ n, ?_⟩
  rintro x _ ⟨j, rfl, hj, hl, hv⟩
  dsimp only
  refine ⟨fun hz => w_coef K (w_coef K (ho j _ ⟨⟨by omega, by omega⟩, small (by omega) (by omega), Fill.step ⟨j, rfl, hj, hl, hv⟩ (by omega) rfl, by omega⟩)), fun hz => ?_⟩
  obtain ⟨he, hpol⟩ := fill_pol hl (fun i hi => hv i (by omega)) hf
  refine w_trim K (by omega) he fun i h1 h2 h3 => ⟨⟨h1, by omega⟩, ?_⟩
  rw [h3, hpol]; exact h
theorem w_padd {p t : List Int} {Q : List Int → Prop} (K : GFk F k.p k.m k.v k.g) (hp : p.length ≤ 100000) (ht : t.length ≤ 100000) (h : Q (k.L (k.pol p + k.pol t))) : V_padd F p t Q :=
  w_join K hp ht (fun i R hR => w_Add K (by rw [el_co, el_co]; exact hR)) ((pol_max p t).1.add (pol_max p t).2) h
def trn (f : Pl k.E) (j : Nat) : Pl k.E := fun i => if i < j then f i else 0
theorem w_addMultiple {s p : List Int} {o : Nat} {a : Int} {Q : List Int → Prop} (K : GFk F k.p k.m k.v k.g) (hs : s.length ≤ 100000) (hp : o + p.length ≤ s.length) (he : k.Ell s)
    (h : ∀ x, x.length = s.length → k.Ell x → k.pol x = k.pol s + mo (k.el a) o * k.pol p → Q x) : V_addMultiple F s o a p Q := by
  refine ⟨fun ha => h s rfl he ?_, fun ha => ?_⟩
  · rw [ha, el_zero, mo_zero, Cr.zero_mul, Cr.add_zero]
  · have hsum : ∀ j, j ≤ p.length → ∀ i, (if o ≤ i ∧ i < o + j then k.pol s i + k.el a * k.pol p (i - o) else k.pol s i) = (k.pol s + mo (k.el a) o * trn (k.pol p) j) i := fun j hj i => by
      rw [Pl.add_at, mo_mul]
      unfold trn
      by_cases h1 : o ≤ i
      · by_cases h2 : i < o + j
        · rw [if_pos ⟨h1, h2⟩, if_pos h1, if_pos (by omega)]
        · rw [if_neg (by omega), if_pos h1, if_neg (by omega), Cr.mul_zero, Cr.add_zero]
      · rw [if_neg (by omega), if_neg h1, Cr.add_zero]
    refine ⟨fun x z => ∃ j : Nat, z = j ∧ j ≤ p.length ∧ x.length = s.length ∧ ∀ i, i < s.length → vo x i = k.co (if o ≤ i ∧ i < o + j then k.pol s i + k.el a * k.pol p (i - o) else k.pol s i), fun x z => (p.length - z).toNat,
      ⟨0, rfl, Nat.zero_le _, rfl, fun i hi => by rw [if_neg (by omega)]; exact (co_el (he i hi)).symm⟩, ?_⟩
    rintro x _ ⟨j, rfl, hj, hl, hv⟩
    dsimp only
    rw [gi_nat, Int.toNat_natCast]
    refine ⟨fun hz => ⟨⟨by omega, by omega⟩, ⟨by omega, by omega⟩, _, w_Mul K rfl, _, w_Add K rfl, ⟨by omega, by omega⟩, small (by omega) (by omega), ⟨j + 1, by push_cast; rfl, by omega, by rw [si_nat, List.length_set, hl], fun i hi => ?_⟩, by omega⟩, fun hz => ?_⟩
    · rw [si_nat, vo_set, gi_nat]
      by_cases e : o + j = i
      · subst e
        rw [if_pos ⟨rfl, by omega⟩, if_pos ⟨by omega, by omega⟩, hv _ (by omega), if_neg (by omega), el_co, el_co, show o + j - o = j by omega]; rfl
      · rw [if_neg (fun h => e h.1), hv i hi]
        congr 1
        by_cases h1 : o ≤ i ∧ i < o + j
        · rw [if_pos h1, if_pos (by omega)]
        · rw [if_neg h1, if_neg (by omega)]
    · have hjp : j = p.length := by omega
      subst hjp
      have hsu : Su (k.pol s + mo (k.el a) o * k.pol p) s.length := ((pol_su s)).add (((mo_su (k.el a) o).mul (pol_su p)).mono (by omega))
      obtain ⟨h1, h2⟩ := fill_pol (f := k.pol s + mo (k.el a) o * k.pol p) hl (fun i hi => by
        rw [hv i hi, hsum p.length (Nat.le_refl _) i]
        have : trn (k.pol p) p.length = k.pol p := Pl.ext fun i => by
          unfold trn
          split
          · rfl
          · rename_i hc; exact (pol_su p i (by omega)).symm
        rw [this]) hsu
      exact h x hl h1 h2
end
end Go.Proofs.Ytmdigamgojfjdaa
set_option linter.unusedVariables false
set_option linter.unusedSimpArgs false
namespace Go.Proofs.Ytmdigamgojfjdaa
open Ks
/-! ### products, quotients, greatest common divisors -/
section
variable {k : Ks} {F : GFv} {P M : Int} {mf : List Int}
theorem take_L {p : List Int} (he : k.Ell p) : p.take (k.L (k.pol p)).length = k.L (k.pol p) := by
  have h := degI_L (pol_fs (k := k) p)
  have hl := L_len (pol_su (k := k) p)
  rcases Nat.eq_zero_or_pos (k.L (k.pol p)).length with h0 | h0
  · rw [h0, List.eq_nil_of_length_eq_zero h0]; rfl
  · have hd := (L_rp (pol_fs (k := k) p)).dg h0
    exact rp_take he hl (fun _ => hd.1) (L_su (pol_fs p))
theorem w_trim2 {p : List Int} {Q : Int → Prop} (K : GFk F k.p k.m k.v k.g) (hp : p.length ≤ 1000000) (he : k.Ell p) (h : Q (((k.L (k.pol p)).length : Nat) : Int)) : V_trim F p Q :=
  w_trim K hp he fun j h1 h2 h3 => by
    have : (((k.L (k.pol p)).length : Nat) : Int) = j := by rw [← h3, List.length_take]; omega
    rwa [this] at h
theorem trn_succ (f : Pl k.E) (j : Nat) : trn f (j + 1) = trn f j + mo (f j) j := Pl.ext fun i => by
  rw [Pl.add_at]
  unfold trn mo
  by_cases h : i < j
  · rw [if_pos (by omega), if_pos h, if_neg (by omega), Cr.add_zero]
  · by_cases h2 : i = j
    · rw [if_pos (by omega), if_neg h, if_pos h2, Cr.zero_add, h2]
    · rw [if_neg (by omega), if_neg h, if_neg h2, Cr.add_zero]
theorem trn_all {f : Pl k.E} {n : Nat} (h : Su f n) : trn f n = f := Pl.ext fun i => by
  unfold trn; split
  · rfl
  · rename_i hc; exact (h i (by omega)).symm
theorem trn_zero (f : Pl k.E) : trn f 0 = 0 := Pl.ext fun i => if_neg (Nat.not_lt_zero i)
theorem ell_rep (n : Nat) : k.Ell (List.replicate n (0 : Int)) := fun i hi => by rw [vo_rep]; exact ⟨Int.le_refl 0, by have := k.R.pos; omega⟩
theorem pol_rep (n : Nat) : k.pol (List.replicate n (0 : Int)) = 0 := Pl.ext fun i => by show k.el (vo _ i) = 0; rw [vo_rep, el_zero]
theorem top_ne {x : List Int} {n : Nat} (hn : x.length = n) (h : k.pol x (n - 1) ≠ 0) : 0 < x.length → vo x (x.length - 1) ≠ 0 := fun _ e => h (by
  show k.el (vo x (n - 1)) = 0
  rw [hn] at e; rw [e, el_zero])
theorem w_times {f h : Pl k.E} {Q : List Int → Prop} (K : GFk F k.p k.m k.v k.g) (hf : Fs f) (hh : Fs h) (h1 : (k.L f).length ≤ 40000) (h2 : (k.L h).length ≤ 40000) (hQ : Q (k.L (f * h))) : V_times F (k.L f) (k.L h) Q := by
  refine ⟨fun e => ?_, fun e => ⟨fun e2 => ?_, fun e2 => ?_⟩⟩
  · rw [(L_len0 hf).1 (by omega), Cr.zero_mul, L_zero] at hQ; exact hQ
  · rw [(L_len0 hh).1 (by omega), Cr.mul_zero, L_zero] at hQ; exact hQ
  · obtain ⟨a, ha⟩ : ∃ a, Dg f a := ⟨_, (L_rp hf).dg (by omega)⟩
    obtain ⟨b, hb⟩ : ∃ b, Dg h b := ⟨_, (L_rp hh).dg (by omega)⟩
    have la := L_dg ha; have lb := L_dg hb
    have hab := ha.mul hb
    have hn : (((k.L f).length : Nat) : Int) + (((k.L h).length : Nat) : Int) - 1 = ((a + b + 1 : Nat) : Int) := by omega
    rw [hn, Int.toNat_natCast]
    refine ⟨small (by omega) (by omega), small (by omega) (by omega), ⟨by omega, by omega, by omega⟩, fun x z => ∃ j : Nat, z = j ∧ j ≤ b + 1 ∧ x.length = a + b + 1 ∧ k.Ell x ∧ k.pol x = trn h j * f, fun x z => (b + 1 - z).toNat,
      ⟨0, rfl, Nat.zero_le _, List.length_replicate, ell_rep _, by rw [pol_rep, trn_zero, Cr.zero_mul]⟩, ?_⟩
    rintro x _ ⟨j, rfl, hj, hl, he, hp⟩
    dsimp only
    refine ⟨fun hz => ⟨⟨by omega, by omega⟩, ⟨by omega, by omega⟩, ?_⟩, fun hz => ?_⟩
    · rw [Int.toNat_natCast]
      refine w_addMultiple K (by omega) (by omega) he fun x' hl' he' hp' => ⟨small (by omega) (by omega), ⟨j + 1, by push_cast; rfl, by omega, by omega, he', ?_⟩, by omega⟩
      rw [hp', hp, trn_succ, Cr.add_mul, gi_nat, L_at hh, el_co, pol_L hf]
    · have hjb : j = b + 1 := by omega
      subst hjb
      rw [trn_all hb.2, Cr.mul_comm] at hp
      have : x = k.L (f * h) := L_eq ⟨he, top_ne hl (by rw [hp]; exact hab.1), hp⟩
      rw [this]; exact hQ
theorem L_one : k.L 1 = [1] := by
  refine (L_eq ⟨fun i hi => ?_, fun _ => ?_, Pl.ext fun i => ?_⟩).symm
  · have : i = 0 := by simp at hi; exact hi
    subst this
    exact ⟨by decide, Int.ofNat_lt.2 k.R.one_lt⟩
  · decide
  · show k.el (vo [1] i) = if i = 0 then 1 else 0
    by_cases h : i = 0
    · subst h; exact el_one
    · rw [if_neg h, vo_hi (by simp; omega), el_zero]
variable (k) in
def lpm (fs : List (List Int)) : Nat → Pl k.E
  | 0 => 1
  | n + 1 => lpm fs n * k.pol (gl fs n)
theorem lpm_su {fs : List (List Int)} (hb : ∀ i : Nat, i < fs.length → (gl fs i).length ≤ 1000) : ∀ n, n ≤ fs.length → Su (lpm k fs n) (1 + n * 1000)
  | 0, _ => Su.one
  | n + 1, hn => ((lpm_su hb n (by omega)).mul ((pol_su _).mono (hb n (by omega)))).mono (by omega)
theorem w_pmul {fs : List (List Int)} {Q : List Int → Prop} (K : GFk F k.p k.m k.v k.g) (hn : fs.length ≤ 30) (hb : ∀ i : Nat, i < fs.length → (gl fs i).length ≤ 1000) (h : Q (k.L (lpm k fs fs.length))) : V_pmul F fs Q := by
  refine ⟨fun x z => ∃ j : Nat, z = j ∧ j ≤ fs.length ∧ x = k.L (lpm k fs j), fun x z => (fs.length - z).toNat, ⟨0, rfl, Nat.zero_le _, L_one.symm⟩, ?_⟩
  rintro _ _ ⟨j, rfl, hj, rfl⟩
  dsimp only
  have hsu := lpm_su (k := k) hb j hj
  refine ⟨fun hz => ⟨⟨by omega, by omega⟩, ?_⟩, fun hz => ?_⟩
  · have hlj := hb j (by omega)
    refine w_canon K (by omega) (w_times K ⟨_, hsu⟩ (pol_fs _) (Nat.le_trans (L_len hsu) (by omega)) (Nat.le_trans (L_len (pol_su _)) (by omega)) ⟨small (by omega) (by omega), ⟨j + 1, by push_cast; rfl, by omega, rfl⟩, by omega⟩)
  · rw [show j = fs.length by omega]; exact h
theorem w_pmul2 {a b : List Int} {Q : List Int → Prop} (K : GFk F k.p k.m k.v k.g) (ha : a.length ≤ 1000) (hb : b.length ≤ 1000) (h : Q (k.L (k.pol a * k.pol b))) : V_pmul F [a, b] Q := by
  refine w_pmul K (by simp) (fun i hi => ?_) ?_
  · match i, hi with
    | 0, _ => exact ha
    | 1, _ => exact hb
  · show Q (k.L (1 * k.pol a * k.pol b))
    rw [Cr.one_mul]; exact h
theorem w_scaleL {f : Pl k.E} {a : Int} {Q : List Int → Prop} (K : GFk F k.p k.m k.v k.g) (hf : Fs f) (hl : (k.L f).length ≤ 1000) (ha : k.el a ≠ 0) (h : Q (k.L (ct (k.el a) * f))) : V_Scale F a (k.L f) Q := by
  refine w_Scale K hl fun r hr hv => ?_
  rw [pol_L hf] at hv
  obtain ⟨he, hpol⟩ := fill_pol (f := ct (k.el a) * f) hr (fun i hi => by rw [hv i hi, ct_mul]) ((L_su hf).ct _)
  have : r = k.L (ct (k.el a) * f) := L_eq ⟨he, fun h0 => ?_, hpol⟩
  · rw [this]; exact h
  · have hd := ((L_rp hf).dg (by omega)).ct ha
    refine top_ne (k := k) hr ?_ h0
    rw [hpol]; exact hd.1
theorem w_pdivmod {p t : List Int} {Q : List Int × List Int × Int → Prop} (K : GFk F k.p k.m k.v k.g) (hp : p.length ≤ 40000) (ht : t.length ≤ 40000) (h0 : k.pol t = 0 → Q ([], [], 7))
    (h1 : ∀ d, Dg (k.pol t) d → Q (k.L (qt (k.pol p) (k.pol t)), k.L (rm (k.pol p) (k.pol t)), 0)) : V_pdivmod F p t Q := by
  have hcp := L_len (pol_su (k := k) p)
  have hct := L_len (pol_su (k := k) t)
  refine ⟨_, w_canon K (by omega) rfl, w_canon K (by omega) ⟨fun e => h0 ((L_len0 (pol_fs t)).1 (by omega)), fun e => ?_⟩⟩
  obtain ⟨d, hd⟩ : ∃ d, Dg (k.pol t) d := ⟨_, (L_rp (pol_fs t)).dg (by omega)⟩
  have hdl := L_dg hd
  refine ⟨fun e u => e = 0 ∧ u = k.co (inv_ (k.pol t d)), ⟨small (by omega) (by omega), ⟨by omega, by omega⟩, k.co (inv_ (k.pol t d)), 0, ?_, rfl, rfl⟩, ?_⟩
  · rw [L_top hd]
    exact w_Inv K (fun e2 => by rw [el_co] at e2; exact absurd e2 hd.1) fun _ => by rw [el_co]
  rintro _ _ ⟨rfl, rfl⟩
  have hQ := h1 d hd
  have hfs := pol_fs (k := k) p
  generalize hf : k.pol p = f at *
  generalize hh : k.pol t = h at *
  generalize hm : (k.L f).length = m at *
  have hfm : Su f m := by rw [← hm]; exact L_su hfs
  obtain ⟨n, hn, hnm⟩ : ∃ n : Nat, max (0 : Int) ((m : Int) - (((k.L h).length : Nat) : Int) + 1) = n ∧ n = m - d := ⟨m - d, by rw [hdl]; omega, rfl⟩
  rw [hn, Int.toNat_natCast]
  refine ⟨small (by omega) (by omega), small (by omega) (by omega), ⟨by omega, by omega, by omega⟩, ?_⟩
  show ∃ I, _
  refine ⟨fun i xq xr => xq.length = n ∧ k.Ell xq ∧ xr.length = m ∧ k.Ell xr ∧ f = k.pol xq * h + k.pol xr ∧ Su (k.pol xr) (d + n - i) ∧ ∀ j, j < n - i → k.pol xq j = 0,
    ⟨List.length_replicate, ell_rep n, hm, (L_rp hfs).1, by rw [pol_rep, Cr.zero_mul, Cr.zero_add, pol_L hfs], by rw [pol_L hfs]; exact hfm.mono (by omega), fun j _ => by rw [pol_rep]; rfl⟩, ?_, ?_⟩
  · rintro i hi xq xr ⟨hql, hqe, hrl, hre, hfe, hrs, hq0⟩
    have e1 : ((n - 1 - i : Nat) : Int) + (((k.L h).length : Nat) : Int) - 1 = ((n - 1 - i + d : Nat) : Int) := by omega
    refine ⟨small (by omega) (by omega), small (by omega) (by omega), ?_⟩
    rw [e1]
    refine ⟨⟨by omega, by omega⟩, _, w_Mul K rfl, ⟨by omega, by omega⟩, ⟨by omega, by omega⟩, ⟨by omega, by omega⟩, _, w_Neg K rfl, ?_⟩
    rw [Int.toNat_natCast, gi_nat, gi_nat, si_nat, vo_set, if_pos ⟨rfl, by omega⟩, el_co, el_co]
    generalize hc : k.el (vo xr (n - 1 - i + d)) * inv_ (h d) = c
    refine w_addMultiple K (by omega) (by omega) hre fun xr' hl' he' hp' => ?_
    rw [el_co, pol_L (by rw [← hh]; exact pol_fs t)] at hp'
    have hset : k.pol (xq.set (n - 1 - i) (k.co c)) = k.pol xq + mo c (n - 1 - i) := Pl.ext fun j => by
      show k.el (vo _ j) = _
      rw [vo_set, Pl.add_at]
      unfold mo
      by_cases hj : n - 1 - i = j
      · subst hj
        rw [if_pos ⟨rfl, by omega⟩, if_pos rfl, hq0 _ (by omega), Cr.zero_add, el_co]
      · rw [if_neg (fun h => hj h.1), if_neg (Ne.symm hj), Cr.add_zero]; rfl
    have hneg : mo (-c) (n - 1 - i) = -(mo c (n - 1 - i)) := Pl.ext fun j => by
      rw [Pl.neg_at]; unfold mo; split
      · rfl
      · exact Cr.neg_zero.symm
    refine ⟨by rw [List.length_set, hql], fun j hj => ?_, by omega, he', ?_, ?_, fun j hj => ?_⟩
    · rw [vo_set]
      split
      · exact co_lt c
      · exact hqe j (by rw [List.length_set] at hj; exact hj)
    · rw [hset, hp', hneg, Cr.add_mul, Cr.neg_mul]
      refine hfe.trans ?_
      rw [Cr.add_assoc, Cr.add_comm (k.pol xr), ← Cr.add_assoc (mo c (n - 1 - i) * h), Cr.add_neg, Cr.zero_add]
    · intro j hj
      rw [hp', Pl.add_at, mo_mul, if_pos (by omega)]
      by_cases hjt : j = n - 1 - i + d
      · subst hjt
        rw [show n - 1 - i + d - (n - 1 - i) = d by omega, ← hc, Cr.neg_mul, Cr.mul_assoc, Cr.mul_comm (inv_ (h d)), mul_inv hd.1, Cr.mul_one]
        exact Cr.add_neg _
      · rw [hrs j (by omega), hd.2 (j - (n - 1 - i)) (by omega), Cr.mul_zero, Cr.add_zero]
    · rw [hset, Pl.add_at, hq0 j (by omega), mo, if_neg (by omega), Cr.add_zero]
  · rintro xq xr ⟨hql, hqe, hrl, hre, hfe, hrs, hq0⟩
    rw [show d + n - n = d by omega] at hrs
    obtain ⟨q1, q2⟩ := qt_uniq hd (pol_fs xq) hfe hrs
    have hxq : xq = k.L (qt f h) := by
      refine L_eq ⟨hqe, fun h0 => ?_, q1.symm⟩
      refine top_ne (k := k) hql ?_ h0
      rw [← q1]
      intro e0
      have hs1 : Su (qt f h) (n - 1) := fun j hj => by
        by_cases hjn : j = n - 1
        · rw [hjn]; exact e0
        · rw [q1]; exact pol_su xq j (by omega)
      have hdm := (L_rp hfs).dg (by omega)
      rw [hm] at hdm
      refine hdm.1 ?_
      have e2 : f = qt f h * h + rm f h := by rw [q1, q2]; exact hfe
      rw [e2, Pl.add_at, (hs1.mul hd.2) (m - 1) (by omega), q2, hrs (m - 1) (by omega), Cr.add_zero]
    have hl2 := L_len (pol_su (k := k) xr)
    refine ⟨_, w_trim2 K (by omega) hre rfl, ⟨by omega, by omega⟩, ?_⟩
    rw [Int.toNat_natCast, take_L hre, hxq, ← q2]; exact hQ
end
end Go.Proofs.Ytmdigamgojfjdaa
set_option linter.unusedVariables false
set_option linter.unusedSimpArgs false
namespace Go.Proofs.Ytmdigamgojfjdaa
open Ks
/-! ### greatest common divisors, values, derivatives, roots -/
section
variable {k : Ks} {F : GFv} {P M : Int} {mf : List Int}
/-- what cofactor answers -/
structure Cof (f h d u : Pl k.E) : Prop where
  fu : Fs u
  ex : ∃ v, Fs v ∧ d = u * f + v * h
  z0 : h = 0 → f = 0 → u = 0
  z1 : h = 0 → f ≠ 0 → ∃ c, c ≠ 0 ∧ u = ct c
  dg : ∀ b e, Dg h b → Dg d e → Su u (b - e)
variable (k) in
def rvs (f : Pl k.E) (n : Nat) : Pl k.E := fun i => if i ≤ n then f (n - i) else 0
variable (k) in
open Classical in
/-- the roots among the elements below n -/
noncomputable def rts (f : Pl k.E) : Nat → List Int
  | 0 => []
  | n + 1 => if vl_ f (k.el (n : Int)) = 0 then rts f n ++ [(n : Int)] else rts f n
end
end Go.Proofs.Ytmdigamgojfjdaa
set_option linter.unusedVariables false
set_option linter.unusedSimpArgs false
namespace Go.Proofs.Ytmdigamgojfjdaa
open Ks
/-! ### derivatives, interpolation -/
section
variable {k : Ks} {F : GFv} {P M : Int} {mf : List Int}
/-! ### the reference's polynomials -/
theorem w_rcanon {p : List Int} {Q : List Int → Prop} (hF : FV P M mf k.p k.m k.v) (hp : p.length ≤ 1000000) (h : Q (k.L (k.pol p))) : V_rcanon P M mf p Q := by
  refine ⟨fun z i => ∃ n j : Nat, z = n ∧ i = j ∧ j ≤ p.length ∧ n ≤ j ∧ (∀ t, n ≤ t → t < j → k.pol p t = 0) ∧ (0 < n → k.pol p (n - 1) ≠ 0), fun z i => (p.length - i).toNat, ⟨0, 0, rfl, rfl, Nat.zero_le _, Nat.le_refl _, fun t _ h => by omega, fun h => by omega⟩, ?_⟩
  rintro _ _ ⟨n, j, rfl, rfl, hj, hnj, hz, hn0⟩
  dsimp only
  refine ⟨fun hlt => ⟨fun z _ => ∃ n' : Nat, z = n' ∧ n' ≤ j + 1 ∧ (∀ t, n' ≤ t → t < j + 1 → k.pol p t = 0) ∧ (0 < n' → k.pol p (n' - 1) ≠ 0), ⟨⟨by omega, by omega⟩, _, w_rIn hF rfl, fun hne => ⟨small (by omega) (by omega), j + 1, by push_cast; rfl, Nat.le_refl _, fun t _ _ => by omega, fun _ => ?_⟩, fun he => ⟨n, rfl, by omega, fun t h1 h2 => ?_, hn0⟩⟩, ?_⟩, fun hge => ?_⟩
  · rw [Nat.add_sub_cancel]; exact fun e => hne (co_eq0.2 e)
  · by_cases e : t = j
    · have he2 : k.co (k.el (gi p (j : Int))) = 0 := by simpa using he
      rw [e]; exact co_eq0.1 he2
    · exact hz t h1 (by omega)
  · rintro _ b ⟨n', rfl, h1, h2, h3⟩
    exact ⟨small (by omega) (by omega), ⟨n', j + 1, rfl, by push_cast; rfl, by omega, h1, h2, h3⟩, by omega⟩
  · have hjp : j = p.length := by omega
    subst hjp
    have hsu : Su (k.pol p) n := fun i hi => by
      by_cases h1 : i < p.length
      · exact hz i hi h1
      · exact pol_su p i (by omega)
    rw [Int.toNat_natCast]
    refine ⟨⟨by omega, by omega, by omega⟩, Fill (fun i => k.co (k.pol p i)) n, fun x z => (n - z).toNat, Fill.start _ n, ?_⟩
    rintro x _ ⟨j, rfl, hj2, hl, hv⟩
    dsimp only
    refine ⟨fun hlt => ⟨⟨by omega, by omega⟩, _, w_rIn hF rfl, ⟨by omega, by omega⟩, small (by omega) (by omega), Fill.step ⟨j, rfl, hj2, hl, hv⟩ (by omega) rfl, by omega⟩, fun hge2 => ?_⟩
    obtain ⟨he, hpol⟩ := fill_pol hl (fun i hi => hv i (by omega)) hsu
    have : x = k.L (k.pol p) := L_eq ⟨he, fun h0 => ?_, hpol⟩
    · rw [this]; exact h
    · refine top_ne (k := k) hl ?_ h0
      rw [hpol]; exact hn0 (by omega)
theorem w_rdeg {p : List Int} {Q : Int → Prop} (hF : FV P M mf k.p k.m k.v) (hp : p.length ≤ 1000000) (h : Q (((k.L (k.pol p)).length : Nat) - 1 : Int)) : V_rdeg P M mf p Q := by
  have := L_len (pol_su (k := k) p)
  exact w_rcanon hF hp ⟨small (by omega) (by omega), h⟩
theorem w_rat {p : List Int} {i : Nat} {Q : Int → Prop} (hF : FV P M mf k.p k.m k.v) (h : Q (k.co (k.pol p i))) : V_rat P M mf p i Q := by
  refine ⟨fun h0 => by omega, fun _ => ⟨fun h1 => ?_, fun h1 => ⟨⟨by omega, by omega⟩, _, w_rIn hF rfl, h⟩⟩⟩
  rw [pol_su p i (by omega)] at h; exact h
theorem w_rpadd {p t : List Int} {Q : List Int → Prop} (hF : FV P M mf k.p k.m k.v) (hp : p.length ≤ 100000) (ht : t.length ≤ 100000) (h : Q (k.L (k.pol p + k.pol t))) : V_rpadd P M mf p t Q := by
  have hm : max ((p.length : Nat) : Int) ((t.length : Nat) : Int) = ((max p.length t.length : Nat) : Int) := by omega
  have hs := (pol_max (k := k) p t).1.add (pol_max p t).2
  unfold V_rpadd
  rw [hm]
  generalize hn : max p.length t.length = n at *
  rw [Int.toNat_natCast]
  refine ⟨⟨by omega, by omega, by omega⟩, Fill (fun i => k.co ((k.pol p + k.pol t) i)) n, fun x z => (n - z).toNat, Fill.start _ n, ?_⟩
  rintro x _ ⟨j, rfl, hj, hl, hv⟩
  dsimp only
  refine ⟨fun hz => ⟨_, w_rat hF rfl, _, w_rat hF rfl, _, w_rAdd hF rfl, ⟨by omega, by omega⟩, small (by omega) (by omega), Fill.step ⟨j, rfl, hj, hl, hv⟩ (by omega) ?_, by omega⟩, fun hz => ?_⟩
  · rw [el_co, el_co]; rfl
  · obtain ⟨he, hpol⟩ := fill_pol (k := k) hl (fun i hi => hv i (by omega)) hs
    refine w_rcanon hF (by omega) ?_
    rw [hpol]; exact h
theorem w_rpscale {p : List Int} {a : Int} {Q : List Int → Prop} (hF : FV P M mf k.p k.m k.v) (hp : p.length ≤ 100000) (h : Q (k.L (ct (k.el a) * k.pol p))) : V_rpscale P M mf a p Q := by
  unfold V_rpscale
  refine ⟨⟨by omega, by omega, by omega⟩, ?_⟩
  rw [Int.toNat_natCast]
  refine ⟨Fill (fun i => k.co ((ct (k.el a) * k.pol p) i)) p.length, fun x z => (p.length - z).toNat, Fill.start _ _, ?_⟩
  rintro x _ ⟨j, rfl, hj, hl, hv⟩
  dsimp only
  refine ⟨fun hz => ⟨⟨by omega, by omega⟩, _, w_rMul hF rfl, ⟨by omega, by omega⟩, small (by omega) (by omega), Fill.step ⟨j, rfl, hj, hl, hv⟩ (by omega) ?_, by omega⟩, fun hz => ?_⟩
  · rw [ct_mul, gi_nat]; rfl
  · obtain ⟨he, hpol⟩ := fill_pol (k := k) hl (fun i hi => hv i (by omega)) ((pol_su p).ct _)
    refine w_rcanon hF (by omega) ?_
    rw [hpol]; exact h
theorem ct_neg1 (f : Pl k.E) : ct (-(1 : k.E)) * f = -f := Pl.ext fun i => by rw [ct_mul, Cr.neg_mul, Cr.one_mul]; rfl
theorem w_rpsub {p t : List Int} {Q : List Int → Prop} (hF : FV P M mf k.p k.m k.v) (hp : p.length ≤ 100000) (ht : t.length ≤ 100000) (h : Q (k.L (k.pol p - k.pol t))) : V_rpsub P M mf p t Q := by
  have hl := L_len (k := k) ((pol_su (k := k) t).ct (k.el (k.co (-(k.el 1)))))
  refine ⟨_, w_rNeg hF rfl, _, w_rpscale hF ht rfl, _, w_rpadd hF hp (by omega) rfl, ?_⟩
  rw [pol_L ((Fs.ct _).mul (pol_fs t)), el_co, el_one, ct_neg1]; exact h
theorem mo_mo (a b : k.E) (i j : Nat) : mo a i * mo b j = mo (a * b) (i + j) := Pl.ext fun t => by
  rw [mo_mul]
  unfold mo
  by_cases h : i ≤ t
  · rw [if_pos h]
    by_cases h2 : t - i = j
    · rw [if_pos h2, if_pos (by omega)]
    · rw [if_neg h2, if_neg (by omega), Cr.mul_zero]
  · rw [if_neg h, if_neg (by omega)]
theorem pol_si {x : List Int} {i : Nat} {a : k.E} (hi : i < x.length) : k.pol (si x (i : Int) (k.co (k.pol x i + a))) = k.pol x + mo a i := Pl.ext fun j => by
  show k.el (vo _ j) = _
  rw [si_nat, vo_set, Pl.add_at]
  unfold mo
  by_cases h : i = j
  · subst h; rw [if_pos ⟨rfl, hi⟩, if_pos rfl, el_co]
  · rw [if_neg (fun e => h e.1), if_neg (Ne.symm h), Cr.add_zero]; rfl
theorem ell_si {x : List Int} {i : Nat} {a : k.E} (he : k.Ell x) : k.Ell (si x (i : Int) (k.co a)) := fun j hj => by
  rw [si_nat, List.length_set] at hj
  rw [si_nat, vo_set]; split
  · exact co_lt a
  · exact he j hj
theorem w_rpmul {p t : List Int} {Q : List Int → Prop} (hF : FV P M mf k.p k.m k.v) (hp : p.length ≤ 40000) (ht : t.length ≤ 40000) (hQ : Q (k.L (k.pol p * k.pol t))) : V_rpmul P M mf p t Q := by
  have hcp := L_len (pol_su (k := k) p)
  have hct := L_len (pol_su (k := k) t)
  refine w_rcanon hF (by omega) (w_rcanon hF (by omega) ?_)
  have hff := pol_fs (k := k) p
  have hhf := pol_fs (k := k) t
  generalize hf : k.pol p = f at *
  generalize hh : k.pol t = h at *
  have hfs := L_su hff
  have hhs := L_su hhf
  generalize ha : (k.L f).length = a at *
  generalize hb : (k.L h).length = b at *
  rw [show (a : Int) + (b : Int) = ((a + b : Nat) : Int) by push_cast; rfl, Int.toNat_natCast]
  refine ⟨small (by omega) (by omega), ⟨by omega, by omega, by omega⟩, fun x z => ∃ i : Nat, z = i ∧ i ≤ a ∧ x.length = a + b ∧ k.Ell x ∧ k.pol x = trn f i * h, fun x z => (a - z).toNat,
    ⟨0, rfl, Nat.zero_le _, List.length_replicate, ell_rep _, by rw [pol_rep, trn_zero, Cr.zero_mul]⟩, ?_⟩
  rintro x _ ⟨i, rfl, hi, hl, he, hx⟩
  dsimp only
  refine ⟨fun hz => ⟨fun x z => ∃ j : Nat, z = j ∧ j ≤ b ∧ x.length = a + b ∧ k.Ell x ∧ k.pol x = trn f i * h + mo (f i) i * trn h j, fun x z => (b - z).toNat, ⟨0, rfl, Nat.zero_le _, hl, he, by rw [hx, trn_zero, Cr.mul_zero, Cr.add_zero]⟩, ?_⟩, fun hz => ?_⟩
  · rintro y _ ⟨j, rfl, hj, hl2, he2, hy⟩
    dsimp only
    refine ⟨fun hz2 => ?_, fun hz2 => ⟨small (by omega) (by omega), ⟨i + 1, by push_cast; rfl, by omega, hl2, he2, ?_⟩, by omega⟩⟩
    · rw [show (i : Int) + (j : Int) = ((i + j : Nat) : Int) by push_cast; rfl]
      refine ⟨small (by omega) (by omega), small (by omega) (by omega), ⟨by omega, by omega⟩, ⟨by omega, by omega⟩, ⟨by omega, by omega⟩, _, w_rMul hF rfl, _, w_rAdd hF rfl, ⟨by omega, by omega⟩, small (by omega) (by omega), ⟨j + 1, by push_cast; rfl, by omega, by rw [si_nat, List.length_set, hl2], ?_, ?_⟩, by omega⟩
      · exact ell_si he2
      · rw [gi_nat, gi_nat, gi_nat, L_at hff, L_at hhf, el_co, el_co, el_co]
        have e1 : k.pol (si y ((i + j : Nat) : Int) (k.co (k.el (vo y (i + j)) + f i * h j))) = k.pol y + mo (f i * h j) (i + j) := pol_si (by omega)
        rw [e1, hy, trn_succ, Cr.mul_add, mo_mo, Cr.add_assoc]
    · rw [hy, show j = b by omega, trn_all hhs, trn_succ, Cr.add_mul]
  · rw [show i = a by omega, trn_all hfs] at hx
    refine w_rcanon hF (by omega) ?_
    rw [hx]; exact hQ
theorem w_rpower {n : Nat} {Q : List Int → Prop} (hn : n ≤ 100000) (h : Q (k.L (mo 1 n))) : V_rpower n Q := by
  rw [show V_rpower n Q = _ from rfl]
  unfold V_rpower
  rw [show (n : Int) + 1 = ((n + 1 : Nat) : Int) by push_cast; rfl, Int.toNat_natCast]
  refine ⟨small (by omega) (by omega), ⟨by omega, by omega, by omega⟩, ⟨by omega, by omega⟩, ?_⟩
  have hl : (List.replicate (n + 1) (0 : Int)).length = n + 1 := List.length_replicate
  have e := pol_si (k := k) (x := List.replicate (n + 1) (0 : Int)) (i := n) (a := 1) (by omega)
  have e2 : k.co (k.pol (List.replicate (n + 1) (0 : Int)) n + 1) = 1 := by rw [pol_rep]; show k.co (0 + 1) = 1; rw [Cr.zero_add]; rfl
  rw [e2, pol_rep, Cr.zero_add] at e
  have : si (List.replicate (n + 1) (0 : Int)) (n : Int) 1 = k.L (mo 1 n) := L_eq ⟨?_, fun h0 => ?_, e⟩
  · rw [this]; exact h
  · have := ell_si (k := k) (x := List.replicate (n + 1) (0 : Int)) (i := n) (a := 1) (ell_rep _)
    exact this
  · refine top_ne (k := k) (n := n + 1) (by rw [si_nat, List.length_set, hl]) ?_ h0
    rw [e, Nat.add_sub_cancel, mo, if_pos rfl]; exact Fd.ne
end
end Go.Proofs.Ytmdigamgojfjdaa
set_option linter.unusedVariables false
set_option linter.unusedSimpArgs false
namespace Go.Proofs.Ytmdigamgojfjdaa
open Ks
/-! ### the reference's quotients, values; what the laws ask first -/
section
variable {k : Ks} {F : GFv} {P M : Int} {mf : List Int}
theorem mo_comm (c : k.E) (h : Pl k.E) (n t : Nat) : (ct c * h * mo (1 : k.E) n) t = if n ≤ t then c * h (t - n) else 0 := by
  rw [Cr.mul_comm, mo_mul]
  split
  · rw [Cr.one_mul, ct_mul]
  · rfl
theorem w_rdivmod {p t : List Int} {Q : List Int × List Int → Prop} (hF : FV P M mf k.p k.m k.v) (hp : p.length ≤ 10000) (ht : t.length ≤ 10000) (h0 : k.pol t ≠ 0) (hQ : Q (k.L (qt (k.pol p) (k.pol t)), k.L (rm (k.pol p) (k.pol t)))) : V_rdivmod P M mf p t Q := by
  have hcp := L_len (pol_su (k := k) p)
  have hct := L_len (pol_su (k := k) t)
  refine w_rcanon hF (by omega) (w_rcanon hF (by omega) ?_)
  obtain ⟨d, hd⟩ : ∃ d, Dg (k.pol t) d := by
    rcases dg_ex (pol_su (k := k) t) with h | ⟨d, _, h⟩
    · exact absurd h h0
    · exact ⟨d, h⟩
  have hdl := L_dg hd
  have hff := pol_fs (k := k) p
  generalize hf : k.pol p = f at *
  generalize hh : k.pol t = h at *
  generalize hm : (k.L f).length = m at *
  have hfm : Su f m := by rw [← hm]; exact L_su hff
  rw [hdl, show (((d + 1 : Nat) : Int) - 1) = (d : Int) by omega]
  obtain ⟨n, hn, hnm⟩ : ∃ n : Nat, max ((m : Int) - (d : Int)) 0 = n ∧ n = m - d := ⟨m - d, by omega, rfl⟩
  rw [hn, Int.toNat_natCast]
  refine ⟨small (by omega) (by omega), ⟨by omega, by omega⟩, _, w_rInv hF ?_ rfl, small (by omega) (by omega), ⟨by omega, by omega, by omega⟩, ?_⟩
  · rw [gi_nat, L_at hd.fs, el_co]; exact hd.1
  rw [gi_nat, L_at hd.fs, el_co]
  refine ⟨fun xq xr => ∃ r, Su r m ∧ xr = k.L r ∧ xq.length = n ∧ k.Ell xq ∧ f = k.pol xq * h + r ∧ ∀ j, j + d < (k.L r).length → k.pol xq j = 0, fun xq xr => xr.length, ⟨f, hfm, rfl, List.length_replicate, ell_rep n, by rw [pol_rep, Cr.zero_mul, Cr.zero_add], fun j _ => by rw [pol_rep]; rfl⟩, ?_⟩
  rintro xq _ ⟨r, hrs, rfl, hql, hqe, hfe, hq0⟩
  dsimp only
  have hlr := L_len (k := k) hrs
  refine ⟨fun hlt => ?_, fun hge => ?_⟩
  · obtain ⟨e, he⟩ : ∃ e, Dg r e := ⟨_, (L_rp ⟨m, hrs⟩).dg (by omega)⟩
    have hel := L_dg he
    rw [hel] at hlt hlr hq0
    have e1 : (((e + 1 : Nat) : Int) - 1) = (e : Int) := by omega
    have e2 : (e : Int) - (d : Int) = ((e - d : Nat) : Int) := by omega
    rw [hel, e1, e2]
    have hval : k.el (gi (k.L r) (e : Int)) = r e := by rw [gi_nat, L_at he.fs, el_co]
    have hdt := hd.lt (show Su h t.length by rw [← hh]; exact pol_su t)
    obtain ⟨c, hc⟩ : ∃ c, r e * inv_ (h d) = c := ⟨_, rfl⟩
    have hcc : k.el (gi (k.L r) (e : Int)) * k.el (k.co (inv_ (h d))) = c := by rw [hval, el_co, hc]
    have hX : Fs (ct c * h) := (Fs.ct c).mul hd.fs
    have hXs : Su (ct c * h) (d + 1) := hd.2.ct c
    have hY : Fs (ct c * h * mo 1 (e - d)) := hX.mul (Fs.mo 1 (e - d))
    have hYs : Su (ct c * h * mo 1 (e - d)) (e + 1) := (hXs.mul (mo_su 1 (e - d))).mono (by omega)
    have hs' : Su (r - ct c * h * mo 1 (e - d)) e := fun j hj => by
      rw [Pl.sub_at, mo_comm]
      by_cases hje : j = e
      · rw [hje, if_pos (by omega), show e - (e - d) = d by omega, ← hc, Cr.mul_assoc, Cr.mul_comm (inv_ (h d)), mul_inv hd.1, Cr.mul_one, Cr.sub_self]
      · rw [if_pos (by omega), he.2 j (by omega), hd.2 (j - (e - d)) (by omega), Cr.mul_zero, Cr.sub_self]
    have hl' := L_len (k := k) hs'
    have lX := L_len (k := k) hXs
    have lY := L_len (k := k) hYs
    have lM := L_len (k := k) (mo_su (1 : k.E) (e - d))
    refine ⟨small (by omega) (by omega), small (by omega) (by omega), small (by omega) (by omega), ⟨by omega, by omega⟩, _, w_rMul hF rfl, ⟨by omega, by omega⟩, _, w_rpscale hF (by omega) rfl, _, w_rpower (k := k) (by omega) rfl, _, w_rpmul (k := k) hF ?_ (by omega) rfl, _, w_rpsub (k := k) hF (by omega) ?_ rfl, ?_, ?_⟩
    · rw [hcc, el_co, pol_L hd.fs]; omega
    · rw [hcc, el_co, pol_L hd.fs, pol_L hX, pol_L (Fs.mo _ _)]; omega
    all_goals rw [hcc, el_co, pol_L hd.fs, pol_L hX, pol_L (Fs.mo _ _), pol_L hY, pol_L he.fs]
    · have hset : k.pol (si xq ((e - d : Nat) : Int) (k.co c)) = k.pol xq + mo c (e - d) := by
        have e3 := pol_si (k := k) (x := xq) (i := e - d) (a := c) (by omega)
        rwa [hq0 (e - d) (by omega), Cr.zero_add] at e3
      refine ⟨r - ct c * h * mo 1 (e - d), hs'.mono (by omega), rfl, by rw [si_nat, List.length_set, hql], ell_si hqe, ?_, fun j hj => ?_⟩
      · rw [hset, Cr.add_mul]
        have e4 : mo c (e - d) * h = ct c * h * mo 1 (e - d) := Pl.ext fun j => by rw [mo_mul, mo_comm]
        rw [e4]
        refine hfe.trans ?_
        rw [Cr.add_assoc, Cr.add_comm _ (r - _), Cr.sub_add]
      · rw [hset, Pl.add_at, hq0 j (by omega), mo, if_neg (by omega), Cr.add_zero]
    · omega
  · have hrd : Su r d := (L_su ⟨m, hrs⟩).mono (by omega)
    obtain ⟨q1, q2⟩ := qt_uniq hd (pol_fs xq) hfe hrd
    refine w_rcanon hF (by omega) ?_
    rw [← q1, ← q2]; exact hQ
theorem w_reval {p : List Int} {x : Int} {Q : Int → Prop} (hF : FV P M mf k.p k.m k.v) (hp : p.length ≤ 100000) (h : Q (k.co (vl_ (k.pol p) (k.el x)))) : V_reval P M mf p x Q := by
  refine ⟨fun a b z => ∃ j : Nat, z = j ∧ j ≤ p.length ∧ a = k.co (evp (k.pol p) j (k.el x)) ∧ b = k.co (pwr (k.el x) j), fun a b z => (p.length - z).toNat, ⟨0, rfl, Nat.zero_le _, rfl, rfl⟩, ?_⟩
  rintro _ _ _ ⟨j, rfl, hj, rfl, rfl⟩
  dsimp only
  refine ⟨fun hz => ⟨⟨by omega, by omega⟩, _, w_rMul hF rfl, _, w_rAdd hF rfl, w_rMul hF ⟨small (by omega) (by omega), ⟨j + 1, by push_cast; rfl, by omega, ?_, ?_⟩, by omega⟩⟩, fun hz => ?_⟩
  · rw [el_co, el_co, el_co]; rfl
  · rw [el_co]; rfl
  · rw [show j = p.length by omega, ← vl_eq (pol_su p)]; exact h
theorem w_lsame {l o : List Int} {Q : Bool → Prop} (hl : l.length ≤ 1000000) (h : Q (decide (l = o))) : V_lsame l o Q := by
  refine ⟨fun hne => ?_, fun he => ?_⟩
  · rw [decide_eq_false (fun e => hne (by rw [e]))] at h; exact h
  · have hlen : l.length = o.length := by omega
    refine ⟨fun z => ∃ j : Nat, z = j ∧ j ≤ l.length ∧ ∀ i, i < j → vo l i = vo o i, fun z => (l.length - z).toNat, ⟨0, rfl, Nat.zero_le _, fun i hi => by omega⟩, ?_⟩
    rintro _ ⟨j, rfl, hj, hv⟩
    dsimp only
    rw [gi_nat, gi_nat]
    refine ⟨fun hz => ⟨⟨by omega, by omega⟩, ⟨by omega, by omega⟩, fun hne => ?_, fun he => ⟨small (by omega) (by omega), ⟨j + 1, by push_cast; rfl, by omega, fun i hi => ?_⟩, by omega⟩⟩, fun hz => ?_⟩
    · rw [decide_eq_false (fun e => hne (by rw [e]))] at h; exact h
    · by_cases e : i = j
      · rw [e]; exact Decidable.not_not.1 he
      · exact hv i (by omega)
    · rw [decide_eq_true (vo_ext hlen fun i hi => hv i (by omega))] at h; exact h
theorem w_short {ls : List (List Int)} {Q : Bool → Prop} (hl : ls.length ≤ 1000000) (h0 : Q false) (h1 : (∀ i : Nat, i < ls.length → (gl ls i).length ≤ 24) → Q true) : V_short ls Q := by
  refine ⟨fun z => ∃ j : Nat, z = j ∧ j ≤ ls.length ∧ ∀ i : Nat, i < j → (gl ls i).length ≤ 24, fun z => (ls.length - z).toNat, ⟨0, rfl, Nat.zero_le _, fun i hi => by omega⟩, ?_⟩
  rintro _ ⟨j, rfl, hj, hv⟩
  dsimp only
  refine ⟨fun hz => ⟨⟨by omega, by omega⟩, fun _ => h0, fun hle => ⟨small (by omega) (by omega), ⟨j + 1, by push_cast; rfl, by omega, fun i hi => ?_⟩, by omega⟩⟩, fun hz => h1 fun i hi => hv i (by omega)⟩
  by_cases e : i = j
  · rw [e]; omega
  · exact hv i (by omega)
end
theorem FV.same {P M : Int} {mf : List Int} {p m v p' m' v' : Nat} (F : FV P M mf p m v) (F' : FV P M mf p' m' v') : p = p' ∧ m = m' ∧ v = v' := by
  have h1 := F.eP; have h2 := F'.eP; have h3 := F.eM; have h4 := F'.eM
  have e1 : p = p' := by omega
  have e2 : m = m' := by omega
  subst e1; subst e2
  refine ⟨rfl, rfl, ?_⟩
  have hp := F.p2
  rw [← nm_dv (p := p) (m := m) (by omega) F.vlt, ← nm_dv (p := p) (m := m) (by omega) F'.vlt, ← F.vo, ← F'.vo]
theorem w_made {P M : Int} {mf : List Int} {Q : Option GFv → Prop} (h0 : ¬ Valid P M mf → Q none) (h1 : ∀ (F : GFv) (k : Ks), GFk F k.p k.m k.v k.g → FV P M mf k.p k.m k.v → Q (some F)) : V_made P M mf Q := by
  refine v_rCheck ⟨fun hn => h0 fun hV => hn (ck_ok hV), fun hn => ?_⟩
  refine v_New (fun hV => absurd (ck_no hV) (by intro e; rw [e] at hn; exact hn (by decide))) fun F p m v g K eP eM em => ⟨fun h => absurd rfl h, fun _ => ?_⟩
  have hF : FV P M mf p m v := by have := K.fv; rwa [eP, eM, em] at this
  exact h1 F ⟨p, m, v, g, hF.p2, hF.m0, hF.q, hF.ring, K.G⟩ K hF
theorem prime2 : IsLf 2 2 := ⟨by decide, rfl, fun e he _ => he⟩
theorem prime5 : IsLf 5 5 := ⟨by decide, rfl, fun e he h => by
  rcases Nat.lt_or_ge e 5 with hc | hc
  · match e, he, hc with
    | 2, _, _ => exact absurd h (by decide)
    | 3, _, _ => exact absurd h (by decide)
    | 4, _, _ => exact absurd h (by decide)
  · exact hc⟩
end Go.Proofs.Ytmdigamgojfjdaa
set_option linter.unusedVariables false
set_option linter.unusedSimpArgs false
namespace Go.Proofs.Ytmdigamgojfjdaa
open Ks
theorem ell_of {k : Ks} {l : List Int} (h : ∀ x ∈ l, 0 ≤ x ∧ x < ((k.p ^ k.m : Nat) : Int)) : k.Ell l := fun i hi => by
  unfold vo
  rw [List.getD_eq_getElem?_getD, List.getElem?_eq_getElem hi]
  exact h _ (List.getElem_mem hi)
theorem w_alive {Q : Bool → Prop} (h : Q true) : V_alive Q := by
  refine w_made (fun hn => absurd ⟨_, _, _, valid_one prime2 (by decide)⟩ hn) fun F k K hF => ?_
  refine w_made (fun hn => absurd ⟨_, _, _, valid_one prime5 (by decide)⟩ hn) fun F' k' K' hF' => ?_
  obtain ⟨p, m, v, g, p2, m0, q256, R, G⟩ := k
  obtain ⟨p', m', v', g', p2', m0', q256', R', G'⟩ := k'
  obtain ⟨rfl, rfl, rfl⟩ := (valid_one prime2 (by decide)).same hF
  obtain ⟨rfl, rfl, rfl⟩ := (valid_one prime5 (by decide)).same hF'
  generalize hk : (⟨2, 1, 0, g, p2, m0, q256, R, G⟩ : Ks) = k at *
  generalize hk' : (⟨5, 1, 0, g', p2', m0', q256', R', G'⟩ : Ks) = k' at *
  have e1 : k.pol [1, 1, 1] * k.pol [1, 1] = k.pol [1, 0, 0, 1] := Pl.ext fun i => by
    subst hk
    match i with
    | 0 => exact Subtype.ext (by kernel_rfl)
    | 1 => exact Subtype.ext (by kernel_rfl)
    | 2 => exact Subtype.ext (by kernel_rfl)
    | 3 => exact Subtype.ext (by kernel_rfl)
    | i + 4 => rw [((pol_su [1, 1, 1]).mul (pol_su [1, 1])) (i + 4) (by simp), pol_su [1, 0, 0, 1] (i + 4) (by simp)]
  have e2 : k'.pol [1, 2, 0, 1] = k'.pol [1, 2, 1] * k'.pol [3, 1] + k'.pol [3] := Pl.ext fun i => by
    subst hk'
    match i with
    | 0 => exact Subtype.ext (by kernel_rfl)
    | 1 => exact Subtype.ext (by kernel_rfl)
    | 2 => exact Subtype.ext (by kernel_rfl)
    | 3 => exact Subtype.ext (by kernel_rfl)
    | i + 4 => rw [pol_su [1, 2, 0, 1] (i + 4) (by simp), Pl.add_at, ((pol_su [1, 2, 1]).mul (pol_su [3, 1])) (i + 4) (by simp), pol_su [3] (i + 4) (by simp), Cr.add_zero]
  have d1 : Dg (k'.pol [3, 1]) 1 := ⟨fun e => absurd (congrArg Subtype.val e) (by subst hk'; show ¬ (1 : Nat) = 0; decide), pol_su [3, 1]⟩
  have q5 : ((k'.p ^ k'.m : Nat) : Int) = 5 := by subst hk'; rfl
  have q2 : ((k.p ^ k.m : Nat) : Int) = 2 := by subst hk; rfl
  obtain ⟨r1, r2⟩ := qt_uniq d1 (pol_fs _) e2 ((pol_su [3]).mono (by simp))
  have K1 : GFk F k.p k.m k.v k.g := by subst hk; exact K
  have K2 : GFk F' k'.p k'.m k'.v k'.g := by subst hk'; exact K'
  dsimp only
  refine w_pdivmod K2 (by simp) (by simp) (fun e => absurd e d1.ne) fun d hd => ?_
  rw [r1, r2, L_pol (ell_of (by rw [q5]; decide)) (by decide), L_pol (ell_of (by rw [q5]; decide)) (by decide)]
  refine w_pmul2 K1 (by simp) (by simp) ?_
  rw [e1, L_pol (ell_of (by rw [q2]; decide)) (by decide)]
  refine w_lsame (by simp) ⟨fun _ => ⟨fun _ => w_lsame (by simp) ⟨fun _ => w_lsame (by simp) h, fun h' => absurd h' (by decide)⟩, fun h' => absurd rfl h'⟩, fun h' => absurd h' (by decide)⟩
/-! ### the laws -/
section
variable {k : Ks} {F : GFv} {P M : Int} {mf : List Int}
theorem w_same {l o : List Int} {Q : Bool → Prop} (hl : l.length ≤ 1000000) (e : l = o) (h : Q true) : V_lsame l o Q := w_lsame hl (by rw [decide_eq_true e]; exact h)
theorem nb {A B : Prop} (h : B) : ((!true) = true → A) ∧ ((!true) = false → B) := ⟨fun e => absurd e (by decide), fun _ => h⟩
theorem f0 {A B : Prop} (h : B) : ((0 : Int) ≠ 0 → A) ∧ (¬ ((0 : Int) ≠ 0) → B) := ⟨fun e => absurd rfl e, fun _ => h⟩
theorem w_short2 {p t : List Int} {A B : Prop} (h : A) (h1 : p.length ≤ 24 → t.length ≤ 24 → B) : V_short [p, t] (fun r => ((!r) = true → A) ∧ ((!r) = false → B)) :=
  w_short (by simp) ⟨fun _ => h, fun e => absurd e (by decide)⟩ fun hs => nb (h1 (hs 0 (by simp)) (hs 1 (by simp)))
theorem deg_neg {f : Pl k.E} (hf : Fs f) : (((k.L f).length : Nat) : Int) - 1 < 0 ↔ f = 0 := by
  rw [← L_len0 (k := k) hf]; omega
end
end Go.Proofs.Ytmdigamgojfjdaa
set_option linter.unusedVariables false
set_option linter.unusedSimpArgs false
namespace Go.Proofs.Ytmdigamgojfjdaa
open Ks
section
variable {k : Ks} {F : GFv} {P M : Int} {mf : List Int}
end
end Go.Proofs.Ytmdigamgojfjdaa
namespace Go.Proofs.Ytmdigamgojfjdaa
open Go.RowKit
end Go.Proofs.Ytmdigamgojfjdaa
set_option linter.unusedSimpArgs false
set_option linter.unusedVariables false
namespace Go.Proofs.Ytmdigamgojfjdaa
open Go.RowKit
end Go.Proofs.Ytmdigamgojfjdaa
set_option linter.unusedSimpArgs false
set_option linter.unusedVariables false
namespace Go.Proofs.Ytmdigamgojfjdaa
open Go.RowKit
end Go.Proofs.Ytmdigamgojfjdaa
set_option linter.unusedSimpArgs false
set_option linter.unusedVariables false
namespace Go.Proofs.Ytmdigamgojfjdaa
open Go.RowKit
end Go.Proofs.Ytmdigamgojfjdaa
set_option linter.unusedVariables false
set_option linter.unusedSimpArgs false
namespace Go.Proofs.Ytmdigamgojfjdaa
open Ks
section
variable {k : Ks} {F : GFv} {P M : Int} {mf : List Int}
end
end Go.Proofs.Ytmdigamgojfjdaa
