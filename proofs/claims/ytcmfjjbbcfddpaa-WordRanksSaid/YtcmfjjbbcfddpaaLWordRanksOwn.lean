/- What only this law leans on. -/
import Derived.Test.YtcmfjjbbcfddpaaWordCleansG7
set_option linter.unusedVariables false
namespace Go.Proofs.Ytcmfjjbbcfddpaa
open Go.RowKit
theorem Try.nm51 : (Try.f51.name == "runtime.NumGoroutine") = false := by kernel_rfl
theorem Try.nm78 : (Try.f78.name == "runtime.NumGoroutine") = false := by kernel_rfl
end Go.Proofs.Ytcmfjjbbcfddpaa
namespace Go.Proofs.Ytcmfjjbbcfddpaa
open Go.RowKit
abbrev XF15 := Try.func15
abbrev XF51 := Try.func51
abbrev XF78 := Try.func78
abbrev XN51 := Try.nm51
abbrev XN78 := Try.nm78
end Go.Proofs.Ytcmfjjbbcfddpaa
set_option linter.unusedSimpArgs false
set_option linter.unusedVariables false
set_option maxRecDepth 4000
set_option maxHeartbeats 4000000
namespace Go.Proofs.Ytcmfjjbbcfddpaa
open Go.RowKit
def V_rIsSubset (n : Int) (u : List Int) (Q : Bool → Prop) : Prop :=
  ∃ (I14 : Int → Prop) (μ15 : Int → Nat), I14 (0 : Int) ∧ ∀ (z13 : Int), (I14 z13 → (((z13 < ((u.length : Nat) : Int)) → (∃ J19 : Bool → Prop, ((0 ≤ z13 ∧ z13 < (u.length : Nat)) ∧ ((((gi u z13) < (0 : Int)) → Q false) ∧ (¬ ((gi u z13) < (0 : Int)) → ((0 ≤ z13 ∧ z13 < (u.length : Nat)) ∧ (((n ≤ (gi u z13)) → Q false) ∧ (¬ (n ≤ (gi u z13)) → ((((0 : Int) < z13) → ((0 ≤ z13 ∧ z13 < (u.length : Nat)) ∧ ((I64 (z13 - (1 : Int))) ∧ ((0 ≤ (z13 - (1 : Int)) ∧ (z13 - (1 : Int)) < (u.length : Nat)) ∧ ((((gi u z13) ≤ (gi u (z13 - (1 : Int)))) → Q false) ∧ (¬ ((gi u z13) ≤ (gi u (z13 - (1 : Int)))) → (J19 (decide ((gi u z13) ≤ (gi u (z13 - (1 : Int)))))))))))) ∧ (¬ ((0 : Int) < z13) → J19 false)))))))) ∧ ∀ (b18 : Bool), (J19 b18 → ((I64 (z13 + (1 : Int))) ∧ (I14 (z13 + (1 : Int)) ∧ μ15 (z13 + (1 : Int)) < μ15 z13))))) ∧ (¬ (z13 < ((u.length : Nat) : Int)) → Q true)))
theorem ok_rIsSubset {w : World} {Q : Bool → Prop} {n : Int} {u : List Int} {Bu : Nat} {Au : Option Addr} {nu ku : Nat} (hu : Rd Bu w 1 Au nu ku (is u)) (hv : V_rIsSubset n u Q) :
    Calls Try.prog 78 #[.int .i64 n, .slice Au nu ku] w fun e w' => ∃ v Qr, e = .returned v ∧ w.grownBy w' none ∧ Rows w.heap.size none w' Qr ∧ News w.heap.size Qr ∧ ∃ (r0 : Bool), v = .bool r0 ∧ Qr = [] ∧ Q r0 := by
  have hnu := hu.ilen
  subst hnu
  refine calls_swap <| calls_of_W (vs := [.int .i64 n, .slice Au u.length ku]) [4] XF78 rfl rfl rfl rfl ?_
  have hS := St.start w
  unfold V_rIsSubset at hv
  refine W.seq <| W.region <| WL.assign rfl rfl <| WL.done <| W.seq <| W.seq <| W.region <| WL.assign rfl rfl <| WL.done <| W.block ?_
  obtain ⟨I14, μ15, hv, hk62⟩ := hv
  refine W.loop (σ := Int) (fun z13 w1 => I14 z13 ∧ St TT w none w1 []) (fun z13 => [(0, .int .i64 n), (1, .slice Au u.length ku), (4, .bool false), (5, .int .i64 z13)]) (fun z13 => μ15 z13) (0 : Int) ⟨hv, hS⟩ ⟨rfl, rfl, rfl, rfl, trivial⟩ ?_
  rintro z13 w16 ⟨hv, hS⟩
  have hv := hk62 z13 hv
  refine W.seq <| W.seq <| W.region <| WL.move rfl rfl <| WL.move rfl rfl <| WL.len XU22 rfl rfl <| WL.lssD rfl rfl rfl <| WL.done <| W.cond2 rfl (fun c17 => ?_) (fun c17 => ?_)
  ·have hv := hv.1 (of_decide_eq_true c17)
   refine W.skip <| W.seq ?_
   obtain ⟨J19, hv, hk61⟩ := hv
   refine W.cutN (σ := Bool) (fun b18 w1 => J19 b18 ∧ St TT w none w1 []) (fun b18 => [(0, .int .i64 n), (1, .slice Au u.length ku), (4, .bool false), (5, .int .i64 z13), (9, .bool (decide (z13 < ((u.length : Nat) : Int)))), (24, .bool (decide (n ≤ (gi u z13)))), (38, .bool b18)]) ?_ ?_
   ·refine W.block ?_
    refine W.seq <| W.seq <| W.region <| WL.move rfl rfl <| WL.move rfl rfl ?_
    obtain ⟨o20, hv⟩ := hv
    refine SL.index XU22 XE3 (hS.ro hu) rfl rfl o20 rfl <| WL.load XU3 rfl rfl (Rd.gi (hS.ro hu) o20) rfl <| WL.lssD rfl rfl rfl <| WL.move rfl rfl ?_
    by_cases g21 : (gi u z13) < (0 : Int)
    ·have hv := hv.1 g21
     rw [decide_eq_true g21]
     refine WL.pass rfl rfl rfl <| WL.pass rfl rfl rfl <| WL.pass rfl rfl rfl <| WL.pass rfl rfl rfl <| WL.pass rfl rfl rfl <| WL.pass rfl rfl rfl <| WL.pick rfl rfl rfl <| WL.done <| W.condT rfl <| W.seq <| W.region <| WL.assign rfl rfl <| WL.done <| W.ret <| ⟨_, rfl, Fin.nil ?_⟩
     exact ⟨_, hS.ext, (hS.pick [] rfl).rows, News.of (hS.pick [] rfl).rows rfl, ⟨false, rfl, rfl, hv⟩⟩
    have hv := hv.2 g21
    rw [decide_eq_false g21]
    refine WL.take rfl <| WL.move rfl rfl <| WL.take rfl <| WL.move rfl rfl <| WL.take rfl ?_
    obtain ⟨o22, hv⟩ := hv
    refine SL.index XU22 XE3 (hS.ro hu) rfl rfl o22 rfl <| WL.take rfl <| WL.load XU3 rfl rfl (Rd.gi (hS.ro hu) o22) rfl <| WL.take rfl <| WL.move rfl rfl <| WL.take rfl <| WL.geqD rfl rfl rfl <| WL.pick rfl rfl rfl <| WL.done <| W.cond2 rfl (fun c23 => ?_) (fun c23 => ?_)
    ·have hv := hv.1 (of_decide_eq_true c23)
     refine W.seq <| W.region <| WL.assign rfl rfl <| WL.done <| W.ret <| ⟨_, rfl, Fin.nil ?_⟩
     exact ⟨_, hS.ext, (hS.pick [] rfl).rows, News.of (hS.pick [] rfl).rows rfl, ⟨false, rfl, rfl, hv⟩⟩
    have hv := hv.2 (of_decide_eq_false c23)
    refine W.skip <| W.seq ?_
    by_cases g24 : (0 : Int) < z13
    ·have hv := hv.1 g24
     obtain ⟨o31, hv⟩ := hv
     obtain ⟨o36, hv⟩ := hv
     obtain ⟨o38, hv⟩ := hv
     refine W.drawV 14 [⟨[], [5], true⟩, ⟨[0], [], true⟩, ⟨[1], [], true⟩, ⟨[2], [1], true⟩, ⟨[2], [5], true⟩, ⟨[2, 3, 4], [], true⟩, ⟨[2, 5], [], false⟩, ⟨[2], [1], true⟩, ⟨[2], [5], true⟩, ⟨[2, 8], [], true⟩, ⟨[2, 7, 9], [], true⟩, ⟨[2, 10], [], false⟩, ⟨[2, 6, 11], [], true⟩, ⟨[2, 12], [], true⟩] [[(5, .int .i64 z13)], [], [], [(1, .slice Au u.length ku)], [(5, .int .i64 z13)], [], [], [(1, .slice Au u.length ku)], [(5, .int .i64 z13)], [], [], [], [], []] [(25, .int .i64 z13), (26, .bool true), (27, .bool true), (28, .slice Au u.length ku), (29, .int .i64 z13), (30, .pointer (some ((adOf Au).add z13.toNat))), (31, .int .i64 (gi u z13)), (32, .slice Au u.length ku), (33, .int .i64 z13), (34, .int .i64 (z13 - (1 : Int))), (35, .pointer (some ((adOf Au).add ((z13 - (1 : Int)).toNat)))), (36, .int .i64 (gi u (z13 - (1 : Int)))), (37, .bool (decide ((gi u z13) ≤ (gi u (z13 - (1 : Int)))))), (38, .bool (decide ((gi u z13) ≤ (gi u (z13 - (1 : Int))))))] Try.mixed (by kernel_rfl) rfl rfl ?_ ?_
     · refine ⟨⟨rfl, ⟨rfl, trivial⟩, fun _ _ _ => WL.move rfl rfl <| WL.done ⟨rfl, rfl⟩⟩, ⟨rfl, trivial, ?_⟩, ⟨rfl, trivial, fun _ _ _ => WL.move rfl rfl <| WL.done ⟨rfl, rfl⟩⟩, ⟨rfl, ⟨rfl, trivial⟩, fun _ _ _ => WL.take rfl <| WL.move rfl rfl <| WL.done ⟨rfl, rfl⟩⟩, ⟨rfl, ⟨rfl, trivial⟩, fun _ _ _ => WL.take rfl <| WL.move rfl rfl <| WL.done ⟨rfl, rfl⟩⟩, ⟨rfl, trivial, fun _ _ _ => WL.take rfl <| SL.index XU22 XE3 (hS.ro hu) rfl rfl o31 rfl <| WL.done ⟨rfl, rfl⟩⟩, ⟨rfl, trivial, fun _ hE _ => have hS := hS.grow (hE rfl); WL.take rfl <| WL.load XU3 rfl rfl (Rd.gi (hS.ro hu) o31) rfl <| WL.done ⟨rfl, ext_refl _⟩⟩, ⟨rfl, ⟨rfl, trivial⟩, fun _ _ _ => WL.take rfl <| WL.move rfl rfl <| WL.done ⟨rfl, rfl⟩⟩, ⟨rfl, ⟨rfl, trivial⟩, fun _ _ _ => WL.take rfl <| WL.move rfl rfl <| WL.done ⟨rfl, rfl⟩⟩, ⟨rfl, trivial, fun _ _ _ => WL.take rfl <| WL.sub (r := (z13 - (1 : Int))) rfl rfl (wr o36) rfl <| WL.done ⟨rfl, rfl⟩⟩, ⟨rfl, trivial, fun _ _ _ => WL.take rfl <| SL.index XU22 XE3 (hS.ro hu) rfl rfl o38 rfl <| WL.done ⟨rfl, rfl⟩⟩, ⟨rfl, trivial, fun _ hE _ => have hS := hS.grow (hE rfl); WL.take rfl <| WL.load XU3 rfl rfl (Rd.gi (hS.ro hu) o38) rfl <| WL.done ⟨rfl, ext_refl _⟩⟩, ⟨rfl, trivial, fun _ _ _ => WL.take rfl <| WL.leqD rfl rfl rfl <| WL.done ⟨rfl, rfl⟩⟩, ⟨rfl, trivial, fun _ _ _ => WL.pick rfl rfl rfl <| WL.done ⟨rfl, rfl⟩⟩, trivial⟩
       intro w26 hE RR
       refine WL.gtrD rfl rfl rfl ?_; rw [decide_eq_true g24]
       exact WL.done ⟨rfl, rfl⟩
     intro w42 hT
     have hS := hS.grow hT
     refine WA.done (by decide +kernel) <| W.cond2 rfl (fun c43 => ?_) (fun c43 => ?_)
     ·have hv := hv.1 (of_decide_eq_true c43)
      refine W.seq <| W.region <| WL.assign rfl rfl <| WL.done <| W.ret <| ⟨_, rfl, Fin.nil ?_⟩
      exact ⟨_, hS.ext, (hS.pick [] rfl).rows, News.of (hS.pick [] rfl).rows rfl, ⟨false, rfl, rfl, hv⟩⟩
     have hv := hv.2 (of_decide_eq_false c43)
     refine W.skip ?_
     exact ⟨(decide ((gi u z13) ≤ (gi u (z13 - (1 : Int))))), ⟨rfl, rfl, rfl, rfl, rfl, rfl, rfl, trivial⟩, rfl, hv, hS⟩
    have hv := hv.2 g24
    refine W.drawV 14 [⟨[], [5], true⟩, ⟨[0], [], true⟩, ⟨[1], [], true⟩, ⟨[2], [1], true⟩, ⟨[2], [5], true⟩, ⟨[2, 3, 4], [], true⟩, ⟨[2, 5], [], false⟩, ⟨[2], [1], true⟩, ⟨[2], [5], true⟩, ⟨[2, 8], [], true⟩, ⟨[2, 7, 9], [], true⟩, ⟨[2, 10], [], false⟩, ⟨[2, 6, 11], [], true⟩, ⟨[2, 12], [], true⟩] [[(5, .int .i64 z13)], [], [], [(1, .slice Au u.length ku)], [(5, .int .i64 z13)], [], [], [(1, .slice Au u.length ku)], [(5, .int .i64 z13)], [], [], [], [], []] [(25, .int .i64 z13), (26, .bool false), (27, .bool false), (28, undef), (29, undef), (30, undef), (31, undef), (32, undef), (33, undef), (34, undef), (35, undef), (36, undef), (37, undef), (38, .bool false)] Try.mixed (by kernel_rfl) rfl rfl ?_ ?_
    · refine ⟨⟨rfl, ⟨rfl, trivial⟩, fun _ _ _ => WL.move rfl rfl <| WL.done ⟨rfl, rfl⟩⟩, ⟨rfl, trivial, ?_⟩, ⟨rfl, trivial, fun _ _ _ => WL.move rfl rfl <| WL.done ⟨rfl, rfl⟩⟩, ⟨rfl, ⟨rfl, trivial⟩, fun _ _ _ => WL.pass rfl rfl rfl <| WL.done ⟨rfl, rfl⟩⟩, ⟨rfl, ⟨rfl, trivial⟩, fun _ _ _ => WL.pass rfl rfl rfl <| WL.done ⟨rfl, rfl⟩⟩, ⟨rfl, trivial, fun _ _ _ => WL.pass rfl rfl rfl <| WL.done ⟨rfl, rfl⟩⟩, ⟨rfl, trivial, fun _ hE _ => have hS := hS.grow (hE rfl); WL.pass rfl rfl rfl <| WL.done ⟨rfl, ext_refl _⟩⟩, ⟨rfl, ⟨rfl, trivial⟩, fun _ _ _ => WL.pass rfl rfl rfl <| WL.done ⟨rfl, rfl⟩⟩, ⟨rfl, ⟨rfl, trivial⟩, fun _ _ _ => WL.pass rfl rfl rfl <| WL.done ⟨rfl, rfl⟩⟩, ⟨rfl, trivial, fun _ _ _ => WL.pass rfl rfl rfl <| WL.done ⟨rfl, rfl⟩⟩, ⟨rfl, trivial, fun _ _ _ => WL.pass rfl rfl rfl <| WL.done ⟨rfl, rfl⟩⟩, ⟨rfl, trivial, fun _ hE _ => have hS := hS.grow (hE rfl); WL.pass rfl rfl rfl <| WL.done ⟨rfl, ext_refl _⟩⟩, ⟨rfl, trivial, fun _ _ _ => WL.pass rfl rfl rfl <| WL.done ⟨rfl, rfl⟩⟩, ⟨rfl, trivial, fun _ _ _ => WL.pick rfl rfl rfl <| WL.done ⟨rfl, rfl⟩⟩, trivial⟩
      intro w45 hE RR
      refine WL.gtrD rfl rfl rfl ?_; rw [decide_eq_false g24]
      exact WL.done ⟨rfl, rfl⟩
    intro w58 hT
    have hS := hS.grow hT
    refine WA.done (by decide +kernel) <| W.condF rfl <| W.skip ?_
    exact ⟨false, ⟨rfl, rfl, rfl, rfl, rfl, rfl, rfl, trivial⟩, rfl, hv, hS⟩
   rintro b18 w59 ⟨hv, hS⟩
   have hv := hk61 b18 hv
   refine W.region <| WL.move rfl rfl ?_
   obtain ⟨o60, hv⟩ := hv
   refine WL.add (r := (z13 + (1 : Int))) rfl rfl (wr o60) rfl <| WL.assign rfl rfl <| WL.done ?_
   exact ⟨(z13 + (1 : Int)), ⟨rfl, rfl, rfl, rfl, trivial⟩, hv.2, rfl, hv.1, hS⟩
  have hv := hv.2 (of_decide_eq_false c17)
  refine W.exit <| W.seq <| W.region <| WL.assign rfl rfl <| WL.done <| W.ret <| ⟨_, rfl, Fin.nil ?_⟩
  exact ⟨_, hS.ext, (hS.pick [] rfl).rows, News.of (hS.pick [] rfl).rows rfl, ⟨true, rfl, rfl, hv⟩⟩
def V_rRank (n : Int) (u : List Int) (Q : Int × Int → Prop) : Prop :=
  ((n < (0 : Int)) → (Q ((0 : Int), (6 : Int)))) ∧ (¬ (n < (0 : Int)) → ((((64 : Int) < n) → (Q ((0 : Int), (6 : Int)))) ∧ (¬ ((64 : Int) < n) → (V_rIsSubset n u (fun r14 => (((!r14) = true) → (Q ((0 : Int), (5 : Int)))) ∧ ((!r14) = false → (∃ (I25 : Int → Int → Int → Prop) (μ26 : Int → Int → Int → Nat), I25 (0 : Int) (0 : Int) (0 : Int) ∧ ∀ (z22 : Int) (z23 : Int) (z24 : Int), (I25 z22 z23 z24 → (((z24 < ((u.length : Nat) : Int)) → (∃ (I35 : Int → Int → Prop) (μ36 : Int → Int → Nat), I35 z22 z23 ∧ ∀ (z33 : Int) (z34 : Int), (I35 z33 z34 → ((0 ≤ z24 ∧ z24 < (u.length : Nat)) ∧ (((z34 < (gi u z24)) → ((I64 (n - (1 : Int))) ∧ ((I64 ((n - (1 : Int)) - z34)) ∧ ((I64 (((u.length : Nat) : Int) - (1 : Int))) ∧ ((I64 ((((u.length : Nat) : Int) - (1 : Int)) - z24)) ∧ (V_rBinomial ((n - (1 : Int)) - z34) ((((u.length : Nat) : Int) - (1 : Int)) - z24) (fun q => match q with | (r45, r46) => (I64 (z33 + r45)) ∧ ((I64 (z34 + (1 : Int))) ∧ (I35 (z33 + r45) (z34 + (1 : Int)) ∧ μ36 (z33 + r45) (z34 + (1 : Int)) < μ36 z33 z34))))))))) ∧ (¬ (z34 < (gi u z24)) → ((0 ≤ z24 ∧ z24 < (u.length : Nat)) ∧ ((I64 ((gi u z24) + (1 : Int))) ∧ ((I64 (z24 + (1 : Int))) ∧ (I25 z33 ((gi u z24) + (1 : Int)) (z24 + (1 : Int)) ∧ μ26 z33 ((gi u z24) + (1 : Int)) (z24 + (1 : Int)) < μ26 z22 z23 z24)))))))))) ∧ (¬ (z24 < ((u.length : Nat) : Int)) → (Q (z22, (0 : Int)))))))))))))
theorem ok_rRank {w : World} {Q : Int × Int → Prop} {n : Int} {u : List Int} {Bu : Nat} {Au : Option Addr} {nu ku : Nat} (hu : Rd Bu w 1 Au nu ku (is u)) (hv : V_rRank n u Q) :
    Calls Try.prog 51 #[.int .i64 n, .slice Au nu ku] w fun e w' => ∃ v Qr, e = .returned v ∧ w.grownBy w' none ∧ Rows w.heap.size none w' Qr ∧ News w.heap.size Qr ∧ ∃ (r0 : Int) (r1 : Int), v = .tuple #[.int .i64 r0, .int .i64 r1] ∧ Qr = [] ∧ Q (r0, r1) := by
  have hnu := hu.ilen
  subst hnu
  refine calls_swap <| calls_of_W (vs := [.int .i64 n, .slice Au u.length ku]) [4, 5] XF51 rfl rfl rfl rfl ?_
  have hS := St.start w
  unfold V_rRank at hv
  refine W.seq <| W.region <| WL.assign rfl rfl <| WL.assign rfl rfl <| WL.done <| W.seq <| W.seq <| W.region <| WL.move rfl rfl <| WL.lssD rfl rfl rfl <| WL.move rfl rfl ?_
  by_cases g11 : n < (0 : Int)
  ·have hv := hv.1 g11
   rw [decide_eq_true g11]
   refine WL.pass rfl rfl rfl <| WL.pass rfl rfl rfl <| WL.pick rfl rfl rfl <| WL.done <| W.condT rfl <| W.seq <| W.region <| WL.assign rfl rfl <| WL.assign rfl rfl <| WL.done <| W.ret <| ⟨_, rfl, Fin.nil ?_⟩
   exact ⟨_, hS.ext, (hS.pick [] rfl).rows, News.of (hS.pick [] rfl).rows rfl, ⟨(0 : Int), (6 : Int), rfl, rfl, hv⟩⟩
  have hv := hv.2 g11
  rw [decide_eq_false g11]
  refine WL.take rfl <| WL.move rfl rfl <| WL.take rfl <| WL.gtrD rfl rfl rfl <| WL.pick rfl rfl rfl <| WL.done <| W.cond2 rfl (fun c12 => ?_) (fun c12 => ?_)
  ·have hv := hv.1 (of_decide_eq_true c12)
   refine W.seq <| W.region <| WL.assign rfl rfl <| WL.assign rfl rfl <| WL.done <| W.ret <| ⟨_, rfl, Fin.nil ?_⟩
   exact ⟨_, hS.ext, (hS.pick [] rfl).rows, News.of (hS.pick [] rfl).rows rfl, ⟨(0 : Int), (6 : Int), rfl, rfl, hv⟩⟩
  have hv := hv.2 (of_decide_eq_false c12)
  refine W.skip <| W.seq <| W.seq <| W.region <| WL.move rfl rfl <| WL.move rfl rfl <| SL.call hS (ok_rIsSubset (hS.ro hu) hv) XF78 rfl XN78 rfl rfl ?_
  rintro _ _ w13 ⟨r14, rfl, rfl, hv⟩ hGw13 hS
  have hS := hS.n0
  refine WL.not rfl rfl <| WL.done <| W.cond2 rfl (fun c15 => ?_) (fun c15 => ?_)
  ·have hv := hv.1 (c15)
   refine W.seq <| W.region <| WL.assign rfl rfl <| WL.assign rfl rfl <| WL.done <| W.ret <| ⟨_, rfl, Fin.nil ?_⟩
   exact ⟨_, hS.ext, (hS.pick [] rfl).rows, News.of (hS.pick [] rfl).rows rfl, ⟨(0 : Int), (5 : Int), rfl, rfl, hv⟩⟩
  have hv := hv.2 (c15)
  refine W.skip <| W.seq <| W.region <| WL.assign rfl rfl <| WL.done <| W.seq <| W.region <| WL.assign rfl rfl <| WL.done <| W.seq <| W.seq <| W.region <| WL.assign rfl rfl <| WL.done <| W.block ?_
  obtain ⟨I25, μ26, hv, hk53⟩ := hv
  refine W.loop (σ := Int × Int × Int) (fun q w1 => match q with | (z22, z23, z24) => I25 z22 z23 z24 ∧ St TT w none w1 []) (fun q => match q with | (z22, z23, z24) => [(0, .int .i64 n), (1, .slice Au u.length ku), (4, .int .i64 (0 : Int)), (5, .int .i64 (0 : Int)), (6, .int .i64 z22), (7, .int .i64 z23), (8, .int .i64 z24)]) (fun q => match q with | (z22, z23, z24) => μ26 z22 z23 z24) ((0 : Int), (0 : Int), (0 : Int)) ⟨hv, hS⟩ ⟨rfl, rfl, rfl, rfl, rfl, rfl, rfl, trivial⟩ ?_
  rintro ⟨z22, z23, z24⟩ w27 ⟨hv, hS⟩
  have hv := hk53 z22 z23 z24 hv
  refine W.seq <| W.seq <| W.region <| WL.move rfl rfl <| WL.move rfl rfl <| WL.len XU22 rfl rfl <| WL.lssD rfl rfl rfl <| WL.done <| W.cond2 rfl (fun c28 => ?_) (fun c28 => ?_)
  ·have hv := hv.1 (of_decide_eq_true c28)
   refine W.skip <| W.seq <| W.block <| W.seq <| W.seq <| W.region <| WL.move rfl rfl <| WL.assign rfl rfl <| WL.done <| W.block ?_
   obtain ⟨I35, μ36, hv, hk52⟩ := hv
   refine W.loop (σ := Int × Int) (fun q w1 => match q with | (z33, z34) => I35 z33 z34 ∧ St TT w none w1 []) (fun q => match q with | (z33, z34) => [(0, .int .i64 n), (1, .slice Au u.length ku), (4, .int .i64 (0 : Int)), (5, .int .i64 (0 : Int)), (6, .int .i64 z33), (7, .int .i64 z23), (8, .int .i64 z24), (9, .int .i64 z34), (25, .bool (decide (z24 < ((u.length : Nat) : Int))))]) (fun q => match q with | (z33, z34) => μ36 z33 z34) (z22, z23) ⟨hv, hS⟩ ⟨rfl, rfl, rfl, rfl, rfl, rfl, rfl, rfl, rfl, trivial⟩ ?_
   rintro ⟨z33, z34⟩ w37 ⟨hv, hS⟩
   have hv := hk52 z33 z34 hv
   refine W.seq <| W.seq <| W.region <| WL.move rfl rfl <| WL.move rfl rfl <| WL.move rfl rfl ?_
   obtain ⟨o38, hv⟩ := hv
   refine SL.index XU22 XE3 (hS.ro hu) rfl rfl o38 rfl <| WL.load XU3 rfl rfl (Rd.gi (hS.ro hu) o38) rfl <| WL.lssD rfl rfl rfl <| WL.done <| W.cond2 rfl (fun c39 => ?_) (fun c39 => ?_)
   ·have hv := hv.1 (of_decide_eq_true c39)
    refine W.skip <| W.seq <| W.block <| W.seq <| W.region <| WL.move rfl rfl ?_
    obtain ⟨o40, hv⟩ := hv
    refine WL.sub (r := (n - (1 : Int))) rfl rfl (wr o40) rfl <| WL.move rfl rfl ?_
    obtain ⟨o41, hv⟩ := hv
    refine WL.sub (r := ((n - (1 : Int)) - z34)) rfl rfl (wr o41) rfl <| WL.move rfl rfl <| WL.len XU22 rfl rfl ?_
    obtain ⟨o42, hv⟩ := hv
    refine WL.sub (r := (((u.length : Nat) : Int) - (1 : Int))) rfl rfl (wr o42) rfl <| WL.move rfl rfl ?_
    obtain ⟨o43, hv⟩ := hv
    refine WL.sub (r := ((((u.length : Nat) : Int) - (1 : Int)) - z24)) rfl rfl (wr o43) rfl <| SL.call hS (ok_rBinomial  hv) XF46 rfl XN46 rfl rfl ?_
    rintro _ _ w44 ⟨r45, r46, rfl, rfl, hv⟩ hGw44 hS
    have hS := hS.n0
    refine WL.move rfl rfl <| WL.extract rfl rfl rfl <| WL.extract rfl rfl rfl <| WL.assign rfl rfl <| WL.assign rfl rfl <| WL.done <| W.region <| WL.move rfl rfl <| WL.move rfl rfl ?_
    obtain ⟨o47, hv⟩ := hv
    refine WL.add (r := (z33 + r45)) rfl rfl (wr o47) rfl <| WL.assign rfl rfl <| WL.done <| W.region <| WL.move rfl rfl ?_
    obtain ⟨o48, hv⟩ := hv
    refine WL.add (r := (z34 + (1 : Int))) rfl rfl (wr o48) rfl <| WL.assign rfl rfl <| WL.done ?_
    exact ⟨((z33 + r45), (z34 + (1 : Int))), ⟨rfl, rfl, rfl, rfl, rfl, rfl, rfl, rfl, rfl, trivial⟩, hv.2, rfl, hv.1, hS⟩
   have hv := hv.2 (of_decide_eq_false c39)
   refine W.exit <| W.region <| WL.move rfl rfl <| WL.move rfl rfl ?_
   obtain ⟨o49, hv⟩ := hv
   refine SL.index XU22 XE3 (hS.ro hu) rfl rfl o49 rfl <| WL.load XU3 rfl rfl (Rd.gi (hS.ro hu) o49) rfl ?_
   obtain ⟨o50, hv⟩ := hv
   refine WL.add (r := ((gi u z24) + (1 : Int))) rfl rfl (wr o50) rfl <| WL.assign rfl rfl <| WL.done <| W.region <| WL.move rfl rfl ?_
   obtain ⟨o51, hv⟩ := hv
   refine WL.add (r := (z24 + (1 : Int))) rfl rfl (wr o51) rfl <| WL.assign rfl rfl <| WL.done ?_
   exact ⟨(z33, ((gi u z24) + (1 : Int)), (z24 + (1 : Int))), ⟨rfl, rfl, rfl, rfl, rfl, rfl, rfl, trivial⟩, hv.2, rfl, hv.1, hS⟩
  have hv := hv.2 (of_decide_eq_false c28)
  refine W.exit <| W.seq <| W.region <| WL.move rfl rfl <| WL.assign rfl rfl <| WL.assign rfl rfl <| WL.done <| W.ret <| ⟨_, rfl, Fin.nil ?_⟩
  exact ⟨_, hS.ext, (hS.pick [] rfl).rows, News.of (hS.pick [] rfl).rows rfl, ⟨z22, (0 : Int), rfl, rfl, hv⟩⟩
end Go.Proofs.Ytcmfjjbbcfddpaa
set_option linter.unusedVariables false
set_option linter.unusedSimpArgs false
namespace Go.Proofs.Ytcmfjjbbcfddpaa
def lst (s : List Int) (k : Nat) : Int := if k = 0 then -1 else vo s (k - 1)
theorem v_rIsSubset {n : Int} {s : List Int} {Q : Bool → Prop} (hl : s.length ≤ 4611686018427387904) (h : Q (asc (-1) n s)) : V_rIsSubset n s Q := by
  refine ⟨fun z => ∃ k : Nat, z = k ∧ k ≤ s.length ∧ -1 ≤ lst s k ∧ asc (-1) n s = asc (lst s k) n (s.drop k), fun z => (s.length - z).toNat, ⟨0, rfl, Nat.zero_le _, by simp [lst], rfl⟩, ?_⟩
  rintro _ ⟨k, rfl, hk, hm, hx⟩
  dsimp only
  have e0 : gi s ((k : Int) - 1) = vo s (k - 1) := by unfold gi vo; rw [show ((k : Int) - 1).toNat = k - 1 by omega]
  rw [gi_nat, e0]
  refine ⟨fun hlt => ?_, fun hge => ?_⟩
  · rw [drop_vo (by omega), ascE] at hx
    have el : lst s (k + 1) = vo s k := rfl
    refine ⟨fun b => lst s k < vo s k ∧ vo s k < n, ⟨⟨by omega, by omega⟩, fun c => ?_, fun c => ⟨⟨by omega, by omega⟩, fun d => ?_, fun d => ⟨fun e => ⟨⟨by omega, by omega⟩, ⟨by omega, by omega⟩, ⟨by omega, by omega⟩, fun f => ?_, fun f => ?_⟩, fun e => ?_⟩⟩⟩, fun b ⟨c, d⟩ => ?_⟩
    · rw [decide_eq_false (by omega), Bool.false_and] at hx; rw [hx] at h; exact h
    · rw [decide_eq_false (by omega), Bool.false_and] at hx; rw [hx] at h; exact h
    · have : lst s k = vo s (k - 1) := if_neg (by omega)
      rw [decide_eq_false (by omega), Bool.false_and] at hx; rw [hx] at h; exact h
    · have : lst s k = vo s (k - 1) := if_neg (by omega)
      exact ⟨by omega, by omega⟩
    · obtain rfl : k = 0 := by omega
      have : lst s 0 = -1 := rfl
      exact ⟨by omega, by omega⟩
    · rw [decide_eq_true ⟨c, d⟩, Bool.true_and] at hx
      exact ⟨⟨by omega, by omega⟩, ⟨k + 1, by push_cast; rfl, by omega, by omega, hx⟩, by omega⟩
  · rw [List.drop_of_length_le (by omega)] at hx
    rw [hx] at h; exact h
theorem unr_rk : ∀ (m : Nat) (x : Int) (s : List Int), asc (x - 1) (x + (m : Int)) s = true → unr m x s.length (rk m x s) = s
  | m, x, [], _ => unr_zero _ _ _
  | 0, x, y :: s, h => by rw [asc_cons] at h; omega
  | m + 1, x, y :: s, h => by
    obtain ⟨h1, h2⟩ := asc_next h
    rw [rk_cons, List.length_cons, unr_succ]
    by_cases e : y = x
    · rw [if_pos e, if_pos (rk_lt m (x + 1) s (h1 e)), unr_rk m (x + 1) s (h1 e), e]
    · rw [if_neg e, if_neg (by omega), Nat.add_sub_cancel_left]
      exact unr_rk m (x + 1) (y :: s) (h2 e)
theorem v_rRank {n : Int} {s : List Int} {Q : Int × Int → Prop} (hl : s.length ≤ 4611686018427387904) (h : Q (rkS n s)) : V_rRank n s Q := by
  unfold rkS at h
  refine ⟨fun e => by rw [if_pos (.inl e)] at h; exact h, fun e => ⟨fun e2 => by rw [if_pos (.inr e2)] at h; exact h, fun e2 => v_rIsSubset hl ?_⟩⟩
  rw [if_neg (by omega)] at h
  obtain ⟨n, rfl⟩ : ∃ a : Nat, n = a := ⟨n.toNat, by omega⟩
  cases ha : asc (-1) (n : Int) s with
  | false => rw [if_neg (by rw [ha]; decide)] at h; exact ⟨fun _ => h, fun c => absurd c (by decide)⟩
  | true =>
    rw [if_pos ha] at h
    refine ⟨fun c => absurd c (by decide), fun _ => ?_⟩
    have hlen := asc_len64 ha
    refine ⟨fun acc y z => ∃ k : Nat, z = k ∧ RkI n s acc y k, fun acc y z => (s.length - z).toNat, ⟨0, rfl, rki_start ha⟩, ?_⟩
    rintro acc y _ ⟨k, rfl, hI⟩
    dsimp only
    rw [gi_nat]
    have hk : k ≤ s.length := by obtain ⟨_, _, _, _, _, hk, _⟩ := hI; exact hk
    refine ⟨fun hlt => ⟨fun acc y => RkI n s acc y k, fun acc y => (vo s k - y).toNat, hI, fun acc y hI => ⟨⟨by omega, by omega⟩, fun hy => ?_, fun hy => ?_⟩⟩, fun hge => by rw [rki_end hI (by omega)]; exact h⟩
    · obtain ⟨b, rfl, hb, hsn, s1, s2⟩ := rki_in (by omega) ha hI (by omega) hy
      have eL : (s.length : Int) - 1 - (k : Int) = ((s.length - k - 1 : Nat) : Int) := by omega
      have eN : (n : Int) - 1 - (b : Int) = ((n - 1 - b : Nat) : Int) := by omega
      rw [eL, eN]
      refine ⟨⟨by omega, by omega⟩, ⟨by omega, by omega⟩, ⟨by omega, by omega⟩, ⟨by omega, by omega⟩, v_rBinomial ?_⟩
      rw [bS_nat (by omega)]
      exact ⟨s2, ⟨by omega, by omega⟩, s1, by dsimp only; omega⟩
    · obtain ⟨s1, s2⟩ := rki_out hI (by omega) hy
      exact ⟨⟨by omega, by omega⟩, ⟨by omega, by omega⟩, ⟨by omega, by omega⟩, ⟨k + 1, by push_cast; rfl, s1⟩, by omega⟩
end Go.Proofs.Ytcmfjjbbcfddpaa
set_option linter.unusedSimpArgs false
set_option linter.unusedVariables false
set_option maxRecDepth 4000
set_option maxHeartbeats 4000000
namespace Go.Proofs.Ytcmfjjbbcfddpaa
open Go.RowKit
def V_LRanks (n : Int) (u : List Int) (Q : Bool → Prop) : Prop :=
  V_Rank n u (fun q => match q with | (r12, r13) => V_rRank n u (fun q => match q with | (r15, r16) => ((r12 ≠ r15) → Q false) ∧ (¬ (r12 ≠ r15) → (((r13 ≠ r16) → Q false) ∧ (¬ (r13 ≠ r16) → (∃ J19 : Prop, (((r16 = (0 : Int)) → (V_Unrank n ((u.length : Nat) : Int) r12 (fun q => match q with | (x22, r26) => ((r26 ≠ (0 : Int)) → Q false) ∧ (¬ (r26 ≠ (0 : Int)) → (V_rwSame x22 u (fun r29 => (((!r29) = true) → Q false) ∧ ((!r29) = false → J19))))))) ∧ (¬ (r16 = (0 : Int)) → J19)) ∧ (J19 → (V_Rank (4 : Int) ([(1 : Int), (2 : Int)] : List Int) (fun q => match q with | (r36, r37) => ((r36 = (3 : Int)) → (Q (decide (r37 = (0 : Int))))) ∧ (¬ (r36 = (3 : Int)) → Q false))))))))))
theorem ok_LRanks {w : World} {Q : Bool → Prop} {n : Int} {u : List Int} {Bu : Nat} {Au : Option Addr} {nu ku : Nat} (hu : Rd Bu w 1 Au nu ku (is u)) (hv : V_LRanks n u Q) :
    Calls Try.prog 15 #[.int .i64 n, .slice Au nu ku] w fun e w' => ∃ v Qr, e = .returned v ∧ w.grownBy w' none ∧ Rows w.heap.size none w' Qr ∧ News w.heap.size Qr ∧ ∃ (r0 : Bool), v = .bool r0 ∧ Qr = [] ∧ Q r0 := by
  have hnu := hu.ilen
  subst hnu
  refine calls_swap <| calls_of_W (vs := [.int .i64 n, .slice Au u.length ku]) [4] XF15 rfl rfl rfl rfl ?_
  have hS := St.start w
  unfold V_LRanks at hv
  refine W.seq <| W.region <| WL.assign rfl rfl <| WL.done <| W.seq <| W.region <| WL.move rfl rfl <| WL.move rfl rfl <| SL.call hS (ok_Rank (hS.ro hu) hv) XF50 rfl XN50 rfl rfl ?_
  rintro _ _ w11 ⟨r12, r13, rfl, rfl, hv⟩ hGw11 hS
  have hS := hS.n0
  refine WL.move rfl rfl <| WL.extract rfl rfl rfl <| WL.extract rfl rfl rfl <| WL.assign rfl rfl <| WL.assign rfl rfl <| WL.done <| W.seq <| W.region <| WL.move rfl rfl <| WL.move rfl rfl <| SL.call hS (ok_rRank (hS.ro hu) hv) XF51 rfl XN51 rfl rfl ?_
  rintro _ _ w14 ⟨r15, r16, rfl, rfl, hv⟩ hGw14 hS
  have hS := hS.n0
  refine WL.move rfl rfl <| WL.extract rfl rfl rfl <| WL.extract rfl rfl rfl <| WL.assign rfl rfl <| WL.assign rfl rfl <| WL.done <| W.seq <| W.seq <| W.region <| WL.move rfl rfl <| WL.move rfl rfl <| WL.neqD rfl rfl rfl <| WL.move rfl rfl ?_
  by_cases g17 : r12 ≠ r15
  ·have hv := hv.1 g17
   rw [decide_eq_true g17]
   refine WL.pass rfl rfl rfl <| WL.pass rfl rfl rfl <| WL.pass rfl rfl rfl <| WL.pick rfl rfl rfl <| WL.done <| W.condT rfl <| W.seq <| W.region <| WL.assign rfl rfl <| WL.done <| W.ret <| ⟨_, rfl, Fin.nil ?_⟩
   exact ⟨_, hS.ext, (hS.pick [] rfl).rows, News.of (hS.pick [] rfl).rows rfl, ⟨false, rfl, rfl, hv⟩⟩
  have hv := hv.2 g17
  rw [decide_eq_false g17]
  refine WL.take rfl <| WL.move rfl rfl <| WL.take rfl <| WL.move rfl rfl <| WL.take rfl <| WL.neqD rfl rfl rfl <| WL.pick rfl rfl rfl <| WL.done <| W.cond2 rfl (fun c18 => ?_) (fun c18 => ?_)
  ·have hv := hv.1 (of_decide_eq_true c18)
   refine W.seq <| W.region <| WL.assign rfl rfl <| WL.done <| W.ret <| ⟨_, rfl, Fin.nil ?_⟩
   exact ⟨_, hS.ext, (hS.pick [] rfl).rows, News.of (hS.pick [] rfl).rows rfl, ⟨false, rfl, rfl, hv⟩⟩
  have hv := hv.2 (of_decide_eq_false c18)
  refine W.skip <| W.seq <| W.seq <| W.region <| WL.move rfl rfl <| WL.eqlD rfl rfl rfl <| WL.done ?_
  obtain ⟨J19, hv, hk39⟩ := hv
  refine W.cutN (σ := Unit) (fun _ w1 => J19 ∧ St TT w none w1 []) (fun _ => [(4, .bool false)]) ?_ ?_
  ·refine W.cond2 rfl (fun c20 => ?_) (fun c20 => ?_)
   ·have hv := hv.1 (of_decide_eq_true c20)
    refine W.seq <| W.region <| WL.move rfl rfl <| WL.move rfl rfl <| WL.len XU22 rfl rfl <| WL.move rfl rfl <| SL.call hS (ok_Unrank  hv) XF52 rfl XN52 rfl rfl ?_
    rintro _ _ w21 ⟨x22, r26, A23, k24, rfl, rfl, hv⟩ hGw21 hS
    have hS := hS.n1
    refine WL.move rfl rfl <| WL.extract rfl rfl rfl <| WL.extract rfl rfl rfl <| WL.assign rfl rfl <| WL.assign rfl rfl <| WL.done <| W.seq <| W.region <| WL.move rfl rfl <| WL.neqD rfl rfl rfl <| WL.move rfl rfl ?_
    by_cases g27 : r26 ≠ (0 : Int)
    ·have hv := hv.1 g27
     rw [decide_eq_true g27]
     refine WL.pass rfl rfl rfl <| WL.pass rfl rfl rfl <| WL.pass rfl rfl rfl <| WL.pass rfl rfl rfl <| WL.pick rfl rfl rfl <| WL.done <| W.condT rfl <| W.seq <| W.region <| WL.assign rfl rfl <| WL.done <| W.ret <| ⟨_, rfl, Fin.nil ?_⟩
     exact ⟨_, hS.ext, (hS.pick [] rfl).rows, News.of (hS.pick [] rfl).rows rfl, ⟨false, rfl, rfl, hv⟩⟩
    have hv := hv.2 g27
    rw [decide_eq_false g27]
    refine WL.take rfl <| WL.move rfl rfl <| WL.take rfl <| WL.move rfl rfl <| WL.take rfl <| SL.call hS (ok_rwSame (hS.rd (i := 0) rfl) (hS.ro hu) hv) XF18 rfl XN18 rfl rfl ?_
    rintro _ _ w28 ⟨r29, rfl, rfl, hv⟩ hGw28 hS
    have hS := hS.n0
    refine WL.take rfl <| WL.not rfl rfl <| WL.pick rfl rfl rfl <| WL.done <| W.cond2 rfl (fun c30 => ?_) (fun c30 => ?_)
    ·have hv := hv.1 (c30)
     refine W.seq <| W.region <| WL.assign rfl rfl <| WL.done <| W.ret <| ⟨_, rfl, Fin.nil ?_⟩
     exact ⟨_, hS.ext, (hS.pick [] rfl).rows, News.of (hS.pick [] rfl).rows rfl, ⟨false, rfl, rfl, hv⟩⟩
    have hv := hv.2 (c30)
    refine W.skip ?_
    have hS := hS.pick [] rfl
    exact ⟨(), ⟨rfl, trivial⟩, rfl, hv, hS⟩
   have hv := hv.2 (of_decide_eq_false c20)
   refine W.skip ?_
   exact ⟨(), ⟨rfl, trivial⟩, rfl, hv, hS⟩
  rintro _ w31 ⟨hv, hS⟩
  have hv := hk39  hv
  refine W.seq <| W.region <| SL.lit1 (vs := is ([(1 : Int), (2 : Int)] : List Int)) hS XU22 XE3 rfl rfl rfl rfl (is_one _) rfl ?_
  intro A32 w33 hS
  refine SL.call hS (ok_Rank (hS.rd (i := 0) rfl) hv) XF50 rfl XN50 rfl rfl ?_
  rintro _ _ w35 ⟨r36, r37, rfl, rfl, hv⟩ hGw35 hS
  have hS := hS.n0
  refine WL.move rfl rfl <| WL.extract rfl rfl rfl <| WL.extract rfl rfl rfl <| WL.assign rfl rfl <| WL.assign rfl rfl <| WL.done <| W.seq <| W.region <| WL.move rfl rfl <| WL.eqlD rfl rfl rfl <| WL.move rfl rfl ?_
  by_cases g38 : r36 = (3 : Int)
  ·have hv := hv.1 g38
   rw [decide_eq_true g38]
   refine WL.take rfl <| WL.move rfl rfl <| WL.take rfl <| WL.eqlD rfl rfl rfl <| WL.pick rfl rfl rfl <| WL.assign rfl rfl <| WL.done <| W.ret <| ⟨_, rfl, Fin.nil ?_⟩
   exact ⟨_, hS.ext, (hS.pick [] rfl).rows, News.of (hS.pick [] rfl).rows rfl, ⟨(decide (r37 = (0 : Int))), rfl, rfl, hv⟩⟩
  have hv := hv.2 g38
  rw [decide_eq_false g38]
  refine WL.pass rfl rfl rfl <| WL.pass rfl rfl rfl <| WL.pick rfl rfl rfl <| WL.assign rfl rfl <| WL.done <| W.ret <| ⟨_, rfl, Fin.nil ?_⟩
  exact ⟨_, hS.ext, (hS.pick [] rfl).rows, News.of (hS.pick [] rfl).rows rfl, ⟨false, rfl, rfl, hv⟩⟩
end Go.Proofs.Ytcmfjjbbcfddpaa
set_option linter.unusedVariables false
set_option linter.unusedSimpArgs false
namespace Go.Proofs.Ytcmfjjbbcfddpaa
theorem v_RankP {n : Int} {s : List Int} (hs : s.length ≤ 4611686018427387904) {Q : Int × Int → Prop} (h : ∀ a b, rkS n s = (a, b) → Q (a, b)) : V_Rank n s Q := v_Rank hs (pairE h)
theorem v_rRankP {n : Int} {s : List Int} (hs : s.length ≤ 4611686018427387904) {Q : Int × Int → Prop} (h : ∀ a b, rkS n s = (a, b) → Q (a, b)) : V_rRank n s Q := v_rRank hs (pairE h)
section
variable {P M : Int} {mf : List Int}
end
theorem law_WordRanks {n : Int} {s : List Int} (hs : s.length ≤ LB) : V_LRanks n s (fun b => b = true) := by
  have h1 := LB62 hs
  refine v_RankP h1 (fun c1 c2 hc => v_rRankP h1 (fun d1 d2 hd => ?_))
  obtain ⟨rfl, rfl⟩ := pairQ hc hd
  refine ⟨fun e => absurd rfl e, fun _ => ⟨fun e => absurd rfl e, fun _ => ⟨True, ⟨fun h0 => v_UnrankP (by omega) (fun u1 u2 hu => ?_), fun _ => trivial⟩, fun _ => v_Rank (by simp) ?_⟩⟩⟩
  rotate_left
  · rw [show rkS 4 [1, 2] = (3, 0) from by decide +kernel]
    exact ⟨fun _ => rfl, fun c => absurd rfl c⟩
  have h2 : ¬ (n < 0 ∨ 64 < n) ∧ asc (-1) n s = true := by
    unfold rkS at hc
    split at hc
    · exact absurd ((congrArg Prod.snd hc).trans h0) (by decide)
    · split at hc
      · rename_i a b; exact ⟨a, b⟩
      · exact absurd ((congrArg Prod.snd hc).trans h0) (by decide)
  obtain ⟨hn, ha⟩ := h2
  obtain ⟨n, rfl⟩ : ∃ a : Nat, n = a := ⟨n.toNat, by omega⟩
  have hlen := asc_len64 ha
  have ha0 : asc (0 - 1) (0 + (n : Int)) s = true := by rw [asc_zero]; exact ha
  have hlt := rk_lt n 0 s ha0
  unfold rkS at hc
  rw [if_neg hn, if_pos ha] at hc
  obtain ⟨rfl, rfl⟩ := Prod.mk.inj hc
  unfold unS at hu
  simp only [Int.toNat_natCast] at hu
  rw [if_neg (by omega), unr_rk n 0 s ha0] at hu
  obtain ⟨rfl, rfl⟩ := Prod.mk.inj hu
  refine ⟨fun e => absurd rfl e, fun _ => v_rwSame h1 ?_⟩
  rw [decide_eq_true rfl]
  exact ⟨fun h => absurd h (by decide), fun _ => trivial⟩
end Go.Proofs.Ytcmfjjbbcfddpaa
