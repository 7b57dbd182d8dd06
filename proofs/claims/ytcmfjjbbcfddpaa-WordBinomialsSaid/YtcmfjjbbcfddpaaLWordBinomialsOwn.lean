/- What only this law leans on. -/
import Derived.Test.YtcmfjjbbcfddpaaWordCleansG7
namespace Go.Proofs.Ytcmfjjbbcfddpaa
open Go.RowKit
abbrev XF13 := Try.func13
end Go.Proofs.Ytcmfjjbbcfddpaa
set_option linter.unusedSimpArgs false
set_option linter.unusedVariables false
set_option maxRecDepth 4000
set_option maxHeartbeats 4000000
namespace Go.Proofs.Ytcmfjjbbcfddpaa
open Go.RowKit
def V_LBinomials (n : Int) (k : Int) (Q : Bool → Prop) : Prop :=
  V_Binomial n k (fun q => match q with | (r12, r13) => V_rBinomial n k (fun q => match q with | (r15, r16) => ((r12 ≠ r15) → Q false) ∧ (¬ (r12 ≠ r15) → (((r13 ≠ r16) → Q false) ∧ (¬ (r13 ≠ r16) → (((r16 = (0 : Int)) → ((((1 : Int) ≤ n) → ((((1 : Int) ≤ k) → (∃ J22 : Prop, (((k ≤ n) → ((I64 (n - (1 : Int))) ∧ ((I64 (k - (1 : Int))) ∧ (V_Binomial (n - (1 : Int)) (k - (1 : Int)) (fun q => match q with | (r27, r28) => (I64 (n - (1 : Int))) ∧ (V_Binomial (n - (1 : Int)) k (fun q => match q with | (r31, r32) => ((r28 ≠ (0 : Int)) → Q false) ∧ (¬ (r28 ≠ (0 : Int)) → (((r32 ≠ (0 : Int)) → Q false) ∧ (¬ (r32 ≠ (0 : Int)) → ((I64 (r27 + r31)) ∧ ((((r27 + r31) ≠ r12) → Q false) ∧ (¬ ((r27 + r31) ≠ r12) → J22))))))))))))) ∧ (¬ (k ≤ n) → J22)) ∧ (J22 → (V_Binomial (5 : Int) (2 : Int) (fun q => match q with | (r39, r40) => ((r39 = (10 : Int)) → (Q (decide (r40 = (0 : Int))))) ∧ (¬ (r39 = (10 : Int)) → Q false)))))) ∧ (¬ ((1 : Int) ≤ k) → (V_Binomial (5 : Int) (2 : Int) (fun q => match q with | (r44, r45) => ((r44 = (10 : Int)) → (Q (decide (r45 = (0 : Int))))) ∧ (¬ (r44 = (10 : Int)) → Q false)))))) ∧ (¬ ((1 : Int) ≤ n) → (V_Binomial (5 : Int) (2 : Int) (fun q => match q with | (r48, r49) => ((r48 = (10 : Int)) → (Q (decide (r49 = (0 : Int))))) ∧ (¬ (r48 = (10 : Int)) → Q false)))))) ∧ (¬ (r16 = (0 : Int)) → (V_Binomial (5 : Int) (2 : Int) (fun q => match q with | (r52, r53) => ((r52 = (10 : Int)) → (Q (decide (r53 = (0 : Int))))) ∧ (¬ (r52 = (10 : Int)) → Q false))))))))))
theorem ok_LBinomials {w : World} {Q : Bool → Prop} {n : Int} {k : Int}  (hv : V_LBinomials n k Q) :
    Calls Try.prog 13 #[.int .i64 n, .int .i64 k] w fun e w' => ∃ v Qr, e = .returned v ∧ w.grownBy w' none ∧ Rows w.heap.size none w' Qr ∧ News w.heap.size Qr ∧ ∃ (r0 : Bool), v = .bool r0 ∧ Qr = [] ∧ Q r0 := by
  refine calls_swap <| calls_of_W (vs := [.int .i64 n, .int .i64 k]) [4] XF13 rfl rfl rfl rfl ?_
  have hS := St.start w
  unfold V_LBinomials at hv
  refine W.seq <| W.region <| WL.assign rfl rfl <| WL.done <| W.seq <| W.region <| WL.move rfl rfl <| WL.move rfl rfl <| SL.call hS (ok_Binomial  hv) XF45 rfl XN45 rfl rfl ?_
  rintro _ _ w11 ⟨r12, r13, rfl, rfl, hv⟩ hGw11 hS
  have hS := hS.n0
  refine WL.move rfl rfl <| WL.extract rfl rfl rfl <| WL.extract rfl rfl rfl <| WL.assign rfl rfl <| WL.assign rfl rfl <| WL.done <| W.seq <| W.region <| WL.move rfl rfl <| WL.move rfl rfl <| SL.call hS (ok_rBinomial  hv) XF46 rfl XN46 rfl rfl ?_
  rintro _ _ w14 ⟨r15, r16, rfl, rfl, hv⟩ hGw14 hS
  have hS := hS.n0
  refine WL.move rfl rfl <| WL.extract rfl rfl rfl <| WL.extract rfl rfl rfl <| WL.assign rfl rfl <| WL.assign rfl rfl <| WL.done <| W.seq <| W.seq <| W.region <| WL.move rfl rfl <| WL.move rfl rfl <| WL.neqD rfl rfl rfl <| WL.move rfl rfl ?_
  by_cases g17 : r12 ≠ r15
  ·have hv := hv.1 g17
   rw [decide_eq_true g17]
   refine WL.pass rfl rfl rfl <| WL.pass rfl rfl rfl <| WL.pass rfl rfl rfl <| WL.pick rfl rfl rfl <| WL.done <| W.condT rfl <| W.seq <| W.region <| WL.assign rfl rfl <| WL.done <| W.ret <| ⟨_, rfl, Fin.nil ?_⟩
   exact ⟨_, hS.ext, (hS.pick [] rfl).rows, News.of (hS.pick [] rfl).rows rfl, ⟨false, rfl, rfl, hv⟩⟩
  have hv := hv.2 g17
  rw [decide_eq_false g17]
  refine WL.take rfl <| WL.move rfl rfl <| WL.take rfl <| WL.move rfl rfl <| WL.take rfl <| WL.neqD rfl rfl rfl <| WL.pick rfl rfl rfl <| WL.done <| W.cond2 rfl (fun c18 => ?_) (fun c18 => ?_)
  ·have hv := hv.1 (of_decide_eq_true c18)
   refine W.seq <| W.region <| WL.assign rfl rfl <| WL.done <| W.ret <| ⟨_, rfl, Fin.nil ?_⟩
   exact ⟨_, hS.ext, (hS.pick [] rfl).rows, News.of (hS.pick [] rfl).rows rfl, ⟨false, rfl, rfl, hv⟩⟩
  have hv := hv.2 (of_decide_eq_false c18)
  refine W.skip <| W.seq <| W.seq <| W.region <| WL.move rfl rfl <| WL.eqlD rfl rfl rfl <| WL.move rfl rfl ?_
  by_cases g19 : r16 = (0 : Int)
  ·have hv := hv.1 g19
   rw [decide_eq_true g19]
   refine WL.take rfl <| WL.move rfl rfl <| WL.take rfl <| WL.geqD rfl rfl rfl <| WL.pick rfl rfl rfl <| WL.move rfl rfl ?_
   by_cases g20 : (1 : Int) ≤ n
   ·have hv := hv.1 g20
    rw [decide_eq_true g20]
    refine WL.take rfl <| WL.move rfl rfl <| WL.take rfl <| WL.geqD rfl rfl rfl <| WL.pick rfl rfl rfl <| WL.move rfl rfl ?_
    by_cases g21 : (1 : Int) ≤ k
    ·have hv := hv.1 g21
     rw [decide_eq_true g21]
     refine WL.take rfl <| WL.move rfl rfl <| WL.take rfl <| WL.move rfl rfl <| WL.take rfl <| WL.leqD rfl rfl rfl <| WL.pick rfl rfl rfl <| WL.done ?_
     obtain ⟨J22, hv, hk42⟩ := hv
     refine W.cutN (σ := Unit) (fun _ w1 => J22 ∧ St TT w none w1 []) (fun _ => [(4, .bool false)]) ?_ ?_
     ·refine W.cond2 rfl (fun c23 => ?_) (fun c23 => ?_)
      ·have hv := hv.1 (of_decide_eq_true c23)
       refine W.seq <| W.region <| WL.move rfl rfl ?_
       obtain ⟨o24, hv⟩ := hv
       refine WL.sub (r := (n - (1 : Int))) rfl rfl (wr o24) rfl <| WL.move rfl rfl ?_
       obtain ⟨o25, hv⟩ := hv
       refine WL.sub (r := (k - (1 : Int))) rfl rfl (wr o25) rfl <| SL.call hS (ok_Binomial  hv) XF45 rfl XN45 rfl rfl ?_
       rintro _ _ w26 ⟨r27, r28, rfl, rfl, hv⟩ hGw26 hS
       have hS := hS.n0
       refine WL.move rfl rfl <| WL.extract rfl rfl rfl <| WL.extract rfl rfl rfl <| WL.assign rfl rfl <| WL.assign rfl rfl <| WL.done <| W.seq <| W.region <| WL.move rfl rfl ?_
       obtain ⟨o29, hv⟩ := hv
       refine WL.sub (r := (n - (1 : Int))) rfl rfl (wr o29) rfl <| WL.move rfl rfl <| SL.call hS (ok_Binomial  hv) XF45 rfl XN45 rfl rfl ?_
       rintro _ _ w30 ⟨r31, r32, rfl, rfl, hv⟩ hGw30 hS
       have hS := hS.n0
       refine WL.move rfl rfl <| WL.extract rfl rfl rfl <| WL.extract rfl rfl rfl <| WL.assign rfl rfl <| WL.assign rfl rfl <| WL.done <| W.seq <| W.region <| WL.move rfl rfl <| WL.neqD rfl rfl rfl <| WL.move rfl rfl ?_
       by_cases g33 : r28 ≠ (0 : Int)
       ·have hv := hv.1 g33
        rw [decide_eq_true g33]
        refine WL.pass rfl rfl rfl <| WL.pass rfl rfl rfl <| WL.pick rfl rfl rfl <| WL.move rfl rfl <| WL.pass rfl rfl rfl <| WL.pass rfl rfl rfl <| WL.pass rfl rfl rfl <| WL.pass rfl rfl rfl <| WL.pass rfl rfl rfl <| WL.pick rfl rfl rfl <| WL.done <| W.condT rfl <| W.seq <| W.region <| WL.assign rfl rfl <| WL.done <| W.ret <| ⟨_, rfl, Fin.nil ?_⟩
        exact ⟨_, hS.ext, (hS.pick [] rfl).rows, News.of (hS.pick [] rfl).rows rfl, ⟨false, rfl, rfl, hv⟩⟩
       have hv := hv.2 g33
       rw [decide_eq_false g33]
       refine WL.take rfl <| WL.move rfl rfl <| WL.take rfl <| WL.neqD rfl rfl rfl <| WL.pick rfl rfl rfl <| WL.move rfl rfl ?_
       by_cases g34 : r32 ≠ (0 : Int)
       ·have hv := hv.1 g34
        rw [decide_eq_true g34]
        refine WL.pass rfl rfl rfl <| WL.pass rfl rfl rfl <| WL.pass rfl rfl rfl <| WL.pass rfl rfl rfl <| WL.pass rfl rfl rfl <| WL.pick rfl rfl rfl <| WL.done <| W.condT rfl <| W.seq <| W.region <| WL.assign rfl rfl <| WL.done <| W.ret <| ⟨_, rfl, Fin.nil ?_⟩
        exact ⟨_, hS.ext, (hS.pick [] rfl).rows, News.of (hS.pick [] rfl).rows rfl, ⟨false, rfl, rfl, hv⟩⟩
       have hv := hv.2 g34
       rw [decide_eq_false g34]
       refine WL.take rfl <| WL.move rfl rfl <| WL.take rfl <| WL.move rfl rfl <| WL.take rfl ?_
       obtain ⟨o35, hv⟩ := hv
       refine WL.add (r := (r27 + r31)) rfl rfl (wr o35) rfl <| WL.take rfl <| WL.move rfl rfl <| WL.take rfl <| WL.neqD rfl rfl rfl <| WL.pick rfl rfl rfl <| WL.done <| W.cond2 rfl (fun c36 => ?_) (fun c36 => ?_)
       ·have hv := hv.1 (of_decide_eq_true c36)
        refine W.seq <| W.region <| WL.assign rfl rfl <| WL.done <| W.ret <| ⟨_, rfl, Fin.nil ?_⟩
        exact ⟨_, hS.ext, (hS.pick [] rfl).rows, News.of (hS.pick [] rfl).rows rfl, ⟨false, rfl, rfl, hv⟩⟩
       have hv := hv.2 (of_decide_eq_false c36)
       refine W.skip ?_
       exact ⟨(), ⟨rfl, trivial⟩, rfl, hv, hS⟩
      have hv := hv.2 (of_decide_eq_false c23)
      refine W.skip ?_
      exact ⟨(), ⟨rfl, trivial⟩, rfl, hv, hS⟩
     rintro _ w37 ⟨hv, hS⟩
     have hv := hk42  hv
     refine W.seq <| W.region <| SL.call hS (ok_Binomial  hv) XF45 rfl XN45 rfl rfl ?_
     rintro _ _ w38 ⟨r39, r40, rfl, rfl, hv⟩ hGw38 hS
     have hS := hS.n0
     refine WL.move rfl rfl <| WL.extract rfl rfl rfl <| WL.extract rfl rfl rfl <| WL.assign rfl rfl <| WL.assign rfl rfl <| WL.done <| W.seq <| W.region <| WL.move rfl rfl <| WL.eqlD rfl rfl rfl <| WL.move rfl rfl ?_
     by_cases g41 : r39 = (10 : Int)
     ·have hv := hv.1 g41
      rw [decide_eq_true g41]
      refine WL.take rfl <| WL.move rfl rfl <| WL.take rfl <| WL.eqlD rfl rfl rfl <| WL.pick rfl rfl rfl <| WL.assign rfl rfl <| WL.done <| W.ret <| ⟨_, rfl, Fin.nil ?_⟩
      exact ⟨_, hS.ext, (hS.pick [] rfl).rows, News.of (hS.pick [] rfl).rows rfl, ⟨(decide (r40 = (0 : Int))), rfl, rfl, hv⟩⟩
     have hv := hv.2 g41
     rw [decide_eq_false g41]
     refine WL.pass rfl rfl rfl <| WL.pass rfl rfl rfl <| WL.pick rfl rfl rfl <| WL.assign rfl rfl <| WL.done <| W.ret <| ⟨_, rfl, Fin.nil ?_⟩
     exact ⟨_, hS.ext, (hS.pick [] rfl).rows, News.of (hS.pick [] rfl).rows rfl, ⟨false, rfl, rfl, hv⟩⟩
    have hv := hv.2 g21
    rw [decide_eq_false g21]
    refine WL.pass rfl rfl rfl <| WL.pass rfl rfl rfl <| WL.pass rfl rfl rfl <| WL.pick rfl rfl rfl <| WL.done <| W.condF rfl <| W.skip <| W.seq <| W.region <| SL.call hS (ok_Binomial  hv) XF45 rfl XN45 rfl rfl ?_
    rintro _ _ w43 ⟨r44, r45, rfl, rfl, hv⟩ hGw43 hS
    have hS := hS.n0
    refine WL.move rfl rfl <| WL.extract rfl rfl rfl <| WL.extract rfl rfl rfl <| WL.assign rfl rfl <| WL.assign rfl rfl <| WL.done <| W.seq <| W.region <| WL.move rfl rfl <| WL.eqlD rfl rfl rfl <| WL.move rfl rfl ?_
    by_cases g46 : r44 = (10 : Int)
    ·have hv := hv.1 g46
     rw [decide_eq_true g46]
     refine WL.take rfl <| WL.move rfl rfl <| WL.take rfl <| WL.eqlD rfl rfl rfl <| WL.pick rfl rfl rfl <| WL.assign rfl rfl <| WL.done <| W.ret <| ⟨_, rfl, Fin.nil ?_⟩
     exact ⟨_, hS.ext, (hS.pick [] rfl).rows, News.of (hS.pick [] rfl).rows rfl, ⟨(decide (r45 = (0 : Int))), rfl, rfl, hv⟩⟩
    have hv := hv.2 g46
    rw [decide_eq_false g46]
    refine WL.pass rfl rfl rfl <| WL.pass rfl rfl rfl <| WL.pick rfl rfl rfl <| WL.assign rfl rfl <| WL.done <| W.ret <| ⟨_, rfl, Fin.nil ?_⟩
    exact ⟨_, hS.ext, (hS.pick [] rfl).rows, News.of (hS.pick [] rfl).rows rfl, ⟨false, rfl, rfl, hv⟩⟩
   have hv := hv.2 g20
   rw [decide_eq_false g20]
   refine WL.pass rfl rfl rfl <| WL.pass rfl rfl rfl <| WL.pick rfl rfl rfl <| WL.move rfl rfl <| WL.pass rfl rfl rfl <| WL.pass rfl rfl rfl <| WL.pass rfl rfl rfl <| WL.pick rfl rfl rfl <| WL.done <| W.condF rfl <| W.skip <| W.seq <| W.region <| SL.call hS (ok_Binomial  hv) XF45 rfl XN45 rfl rfl ?_
   rintro _ _ w47 ⟨r48, r49, rfl, rfl, hv⟩ hGw47 hS
   have hS := hS.n0
   refine WL.move rfl rfl <| WL.extract rfl rfl rfl <| WL.extract rfl rfl rfl <| WL.assign rfl rfl <| WL.assign rfl rfl <| WL.done <| W.seq <| W.region <| WL.move rfl rfl <| WL.eqlD rfl rfl rfl <| WL.move rfl rfl ?_
   by_cases g50 : r48 = (10 : Int)
   ·have hv := hv.1 g50
    rw [decide_eq_true g50]
    refine WL.take rfl <| WL.move rfl rfl <| WL.take rfl <| WL.eqlD rfl rfl rfl <| WL.pick rfl rfl rfl <| WL.assign rfl rfl <| WL.done <| W.ret <| ⟨_, rfl, Fin.nil ?_⟩
    exact ⟨_, hS.ext, (hS.pick [] rfl).rows, News.of (hS.pick [] rfl).rows rfl, ⟨(decide (r49 = (0 : Int))), rfl, rfl, hv⟩⟩
   have hv := hv.2 g50
   rw [decide_eq_false g50]
   refine WL.pass rfl rfl rfl <| WL.pass rfl rfl rfl <| WL.pick rfl rfl rfl <| WL.assign rfl rfl <| WL.done <| W.ret <| ⟨_, rfl, Fin.nil ?_⟩
   exact ⟨_, hS.ext, (hS.pick [] rfl).rows, News.of (hS.pick [] rfl).rows rfl, ⟨false, rfl, rfl, hv⟩⟩
  have hv := hv.2 g19
  rw [decide_eq_false g19]
  refine WL.pass rfl rfl rfl <| WL.pass rfl rfl rfl <| WL.pick rfl rfl rfl <| WL.move rfl rfl <| WL.pass rfl rfl rfl <| WL.pass rfl rfl rfl <| WL.pick rfl rfl rfl <| WL.move rfl rfl <| WL.pass rfl rfl rfl <| WL.pass rfl rfl rfl <| WL.pass rfl rfl rfl <| WL.pick rfl rfl rfl <| WL.done <| W.condF rfl <| W.skip <| W.seq <| W.region <| SL.call hS (ok_Binomial  hv) XF45 rfl XN45 rfl rfl ?_
  rintro _ _ w51 ⟨r52, r53, rfl, rfl, hv⟩ hGw51 hS
  have hS := hS.n0
  refine WL.move rfl rfl <| WL.extract rfl rfl rfl <| WL.extract rfl rfl rfl <| WL.assign rfl rfl <| WL.assign rfl rfl <| WL.done <| W.seq <| W.region <| WL.move rfl rfl <| WL.eqlD rfl rfl rfl <| WL.move rfl rfl ?_
  by_cases g54 : r52 = (10 : Int)
  ·have hv := hv.1 g54
   rw [decide_eq_true g54]
   refine WL.take rfl <| WL.move rfl rfl <| WL.take rfl <| WL.eqlD rfl rfl rfl <| WL.pick rfl rfl rfl <| WL.assign rfl rfl <| WL.done <| W.ret <| ⟨_, rfl, Fin.nil ?_⟩
   exact ⟨_, hS.ext, (hS.pick [] rfl).rows, News.of (hS.pick [] rfl).rows rfl, ⟨(decide (r53 = (0 : Int))), rfl, rfl, hv⟩⟩
  have hv := hv.2 g54
  rw [decide_eq_false g54]
  refine WL.pass rfl rfl rfl <| WL.pass rfl rfl rfl <| WL.pick rfl rfl rfl <| WL.assign rfl rfl <| WL.done <| W.ret <| ⟨_, rfl, Fin.nil ?_⟩
  exact ⟨_, hS.ext, (hS.pick [] rfl).rows, News.of (hS.pick [] rfl).rows rfl, ⟨false, rfl, rfl, hv⟩⟩
end Go.Proofs.Ytcmfjjbbcfddpaa
set_option linter.unusedVariables false
set_option linter.unusedSimpArgs false
namespace Go.Proofs.Ytcmfjjbbcfddpaa
theorem v_BinomialP {n k : Int} (hk : k ≤ 9223372036854775807) {Q : Int × Int → Prop} (h : ∀ a b, bS n k = (a, b) → Q (a, b)) : V_Binomial n k Q := v_Binomial hk (pairE h)
theorem v_rBinomialP {n k : Int} {Q : Int × Int → Prop} (h : ∀ a b, bS n k = (a, b) → Q (a, b)) : V_rBinomial n k Q := v_rBinomial (pairE h)
section
variable {P M : Int} {mf : List Int}
end
theorem law_WordBinomials {n k : Int} (hk : k ≤ 9223372036854775807) : V_LBinomials n k (fun b => b = true) := by
  have fin : V_Binomial 5 2 (fun q => match q with | (r39, r40) => ((r39 = (10 : Int)) → ((fun b => b = true) (decide (r40 = (0 : Int))))) ∧ (¬ (r39 = (10 : Int)) → (fun b => b = true) false)) :=
    v_Binomial (by omega) ⟨fun _ => rfl, fun c => absurd rfl c⟩
  refine v_BinomialP hk (fun c1 c2 hc => v_rBinomialP (fun d1 d2 hd => ?_))
  obtain ⟨rfl, rfl⟩ := pairQ hc hd
  refine ⟨fun e => absurd rfl e, fun _ => ⟨fun e => absurd rfl e, fun _ => ⟨fun h0 => ⟨fun h1 => ⟨fun h2 => ⟨True, ⟨fun h3 => ?_, fun _ => trivial⟩, fun _ => fin⟩, fun _ => fin⟩, fun _ => fin⟩, fun _ => fin⟩⟩⟩
  have hn : n ≤ 64 := by
    unfold bS at hc
    split at hc
    · exact absurd ((congrArg Prod.snd hc).trans h0) (by decide)
    · omega
  obtain ⟨a, rfl⟩ : ∃ a : Nat, n = ((a + 1 : Nat) : Int) := ⟨(n - 1).toNat, by omega⟩
  obtain ⟨b, rfl⟩ : ∃ b : Nat, k = ((b + 1 : Nat) : Int) := ⟨(k - 1).toNat, by omega⟩
  have e1 : ((a + 1 : Nat) : Int) - 1 = (a : Int) := by omega
  have e2 : ((b + 1 : Nat) : Int) - 1 = (b : Int) := by omega
  rw [e1, e2]
  refine ⟨⟨by omega, by omega⟩, ⟨by omega, by omega⟩, v_BinomialP (by omega) (fun e1 e2 he => ⟨⟨by omega, by omega⟩, v_BinomialP (by omega) (fun f1 f2 hf => ?_)⟩)⟩
  rw [bS_nat (by omega)] at hc he hf
  obtain ⟨rfl, rfl⟩ := Prod.mk.inj hc
  obtain ⟨rfl, rfl⟩ := Prod.mk.inj he
  obtain ⟨rfl, rfl⟩ := Prod.mk.inj hf
  have hcb := choose_cB (n := a + 1) (by omega) (b + 1)
  rw [choose_succ] at hcb ⊢
  unfold cB at hcb
  dsimp only
  exact ⟨fun c => absurd rfl c, fun _ => ⟨fun c => absurd rfl c, fun _ => ⟨⟨by omega, by omega⟩, fun c => absurd (by omega) c, fun _ => trivial⟩⟩⟩
end Go.Proofs.Ytcmfjjbbcfddpaa
