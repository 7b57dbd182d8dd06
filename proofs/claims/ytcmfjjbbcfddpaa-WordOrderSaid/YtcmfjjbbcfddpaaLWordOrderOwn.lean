/- What only this law leans on. -/
import Derived.Test.YtcmfjjbbcfddpaaWordCleansG7
namespace Go.Proofs.Ytcmfjjbbcfddpaa
open Go.RowKit

section
variable {P : Program} {n : Nat} {ro : Option Nat} {df : List Deferred} {N : Post} {L : Fr} {w : World} {ops : Array Oper} {rest : List Oper}
variable {d : Nat} {ty : TypeId} {pos : String} {af : Array Edge}

theorem WL.neg {x : Operand} {k : IntKind} {a r : Int} {tx : TypeId} (hx : ev L x = some (.int k a)) (hr : k.wrap (0 - a) = r) (hn : Nat.blt d n = true) (h : WL P n ro df ops rest N ((d, .int k r) :: L) w) :
    WL P n ro df ops (⟨some d, .unOp .neg tx x, ty, pos, af, none⟩ :: rest) N L w :=
  WL.val rfl rfl hn (fun a ha => by simp [execOp, Op.unary, Op.intArith, ha.ev hx, ← hr]) h
end
end Go.Proofs.Ytcmfjjbbcfddpaa
set_option linter.unusedSimpArgs false
set_option linter.unusedVariables false
namespace Go.Proofs.Ytcmfjjbbcfddpaa
open Go.RowKit
theorem wrn {x : Int} (h : I64 (-x)) : IntKind.i64.wrap (0 - x) = -x := by rw [Int.zero_sub]; exact wr h
section
variable {X : World → Prop} {w0 w w' : World} {mr : Option Nat} {R : List Rw}
end
section
variable {P : Program} {n : Nat} {ro : Option Nat} {df : List Deferred} {N : Post} {L : Fr} {w w0 : World} {ops : Array Oper} {rest : List Oper}
variable {d : Nat} {ty : TypeId} {pos : String} {af : Array Edge}
end
end Go.Proofs.Ytcmfjjbbcfddpaa
namespace Go.Proofs.Ytcmfjjbbcfddpaa
open Go.RowKit
abbrev XF8 := Try.func8
end Go.Proofs.Ytcmfjjbbcfddpaa
set_option linter.unusedVariables false
set_option linter.unusedSimpArgs false
namespace Go.Proofs.Ytcmfjjbbcfddpaa
section
variable {P M : Int} {mf : List Int} {p m v : Nat}
end
section
variable {F : GFv} {p m v g : Nat}
end
theorem lex_bd : ∀ a b, lex a b = -1 ∨ lex a b = 0 ∨ lex a b = 1
  | [], [] => .inr (.inl rfl)
  | [], _ :: _ => .inl rfl
  | _ :: _, [] => .inr (.inr rfl)
  | a :: us, b :: bs => by
    unfold lex
    split
    · exact .inl rfl
    · split
      · exact .inr (.inr rfl)
      · exact lex_bd us bs
theorem lex_swap : ∀ a b, lex b a = -lex a b
  | [], [] => rfl
  | [], _ :: _ => rfl
  | _ :: _, [] => rfl
  | a :: us, b :: bs => by
    unfold lex
    by_cases h : a < b
    · rw [if_pos h, if_neg (by omega), if_pos h]; rfl
    · by_cases h2 : b < a
      · rw [if_pos h2, if_neg h, if_pos h2]
      · rw [if_neg h, if_neg h2, if_neg h2, if_neg h]; exact lex_swap us bs
theorem lex_trans : ∀ a b c, lex a b ≤ 0 → lex b c ≤ 0 → lex a c ≤ 0
  | [], _, [], _, _ => by simp [lex]
  | [], _, _ :: _, _, _ => by simp [lex]
  | _ :: _, [], _, h, _ => by simp [lex] at h
  | _ :: _, _ :: _, [], _, h => by simp [lex] at h
  | a :: us, b :: bs, c :: cs, h1, h2 => by
    unfold lex at h1 h2 ⊢
    by_cases ab : a < b
    · by_cases bc : c < b
      · rw [if_neg (by omega), if_pos bc] at h2; omega
      · rw [if_pos (by omega)]; decide
    · by_cases ba : b < a
      · rw [if_neg ab, if_pos ba] at h1; omega
      · rw [if_neg ab, if_neg ba] at h1
        by_cases bc : b < c
        · rw [if_pos (by omega)]; decide
        · by_cases cb : c < b
          · rw [if_neg bc, if_pos cb] at h2; omega
          · rw [if_neg bc, if_neg cb] at h2
            rw [if_neg (by omega), if_neg (by omega)]; exact lex_trans us bs cs h1 h2
end Go.Proofs.Ytcmfjjbbcfddpaa
set_option linter.unusedSimpArgs false
set_option linter.unusedVariables false
set_option maxRecDepth 4000
set_option maxHeartbeats 4000000
namespace Go.Proofs.Ytcmfjjbbcfddpaa
open Go.RowKit
def V_LOrder (a : List Int) (b : List Int) (c : List Int) (Q : Bool → Prop) : Prop :=
  V_Compare a b (fun r12 => V_rCompare a b (fun r14 => ((r12 ≠ r14) → Q false) ∧ (¬ (r12 ≠ r14) → (V_Compare b a (fun r17 => (I64 (-r12)) ∧ (((r17 ≠ (-r12)) → Q false) ∧ (¬ (r17 ≠ (-r12)) → (V_Compare a a (fun r21 => ((r21 ≠ (0 : Int)) → Q false) ∧ (¬ (r21 ≠ (0 : Int)) → (V_Compare b c (fun r24 => ((r12 ≤ (0 : Int)) → (((r24 ≤ (0 : Int)) → (V_Compare a c (fun r28 => (((0 : Int) < r28) → Q false) ∧ (¬ ((0 : Int) < r28) → (V_Compare ([(1 : Int), (2 : Int)] : List Int) ([(1 : Int), (2 : Int), (0 : Int)] : List Int) (fun r37 => Q (decide (r37 = (-1 : Int))))))))) ∧ (¬ (r24 ≤ (0 : Int)) → (V_Compare ([(1 : Int), (2 : Int)] : List Int) ([(1 : Int), (2 : Int), (0 : Int)] : List Int) (fun r45 => Q (decide (r45 = (-1 : Int)))))))) ∧ (¬ (r12 ≤ (0 : Int)) → (V_Compare ([(1 : Int), (2 : Int)] : List Int) ([(1 : Int), (2 : Int), (0 : Int)] : List Int) (fun r53 => Q (decide (r53 = (-1 : Int))))))))))))))))))
theorem ok_LOrder {w : World} {Q : Bool → Prop} {a : List Int} {b : List Int} {c : List Int} {Ba : Nat} {Aa : Option Addr} {na ka : Nat} (ha : Rd Ba w 1 Aa na ka (is a)) {Bb : Nat} {Ab : Option Addr} {nb kb : Nat} (hb : Rd Bb w 1 Ab nb kb (is b)) {Bc : Nat} {Ac : Option Addr} {nc kc : Nat} (hc : Rd Bc w 1 Ac nc kc (is c)) (hv : V_LOrder a b c Q) :
    Calls Try.prog 8 #[.slice Aa na ka, .slice Ab nb kb, .slice Ac nc kc] w fun e w' => ∃ v Qr, e = .returned v ∧ w.grownBy w' none ∧ Rows w.heap.size none w' Qr ∧ News w.heap.size Qr ∧ ∃ (r0 : Bool), v = .bool r0 ∧ Qr = [] ∧ Q r0 := by
  have hna := ha.ilen
  subst hna
  have hnb := hb.ilen
  subst hnb
  have hnc := hc.ilen
  subst hnc
  refine calls_swap <| calls_of_W (vs := [.slice Aa a.length ka, .slice Ab b.length kb, .slice Ac c.length kc]) [6] XF8 rfl rfl rfl rfl ?_
  have hS := St.start w
  unfold V_LOrder at hv
  refine W.seq <| W.region <| WL.assign rfl rfl <| WL.done <| W.seq <| W.region <| WL.move rfl rfl <| WL.move rfl rfl <| SL.call hS (ok_Compare (hS.ro ha) (hS.ro hb) hv) XF33 rfl XN33 rfl rfl ?_
  rintro _ _ w11 ⟨r12, rfl, rfl, hv⟩ hGw11 hS
  have hS := hS.n0
  refine WL.assign rfl rfl <| WL.done <| W.seq <| W.seq <| W.region <| WL.move rfl rfl <| WL.move rfl rfl <| WL.move rfl rfl <| SL.call hS (ok_rCompare (hS.ro ha) (hS.ro hb) hv) XF34 rfl XN34 rfl rfl ?_
  rintro _ _ w13 ⟨r14, rfl, rfl, hv⟩ hGw13 hS
  have hS := hS.n0
  refine WL.neqD rfl rfl rfl <| WL.move rfl rfl ?_
  by_cases g15 : r12 ≠ r14
  ·have hv := hv.1 g15
   rw [decide_eq_true g15]
   refine WL.pass rfl rfl rfl <| WL.pass rfl rfl rfl <| WL.pass rfl rfl rfl <| WL.pass rfl rfl rfl <| WL.pass rfl rfl rfl <| WL.pass rfl rfl rfl <| WL.pick rfl rfl rfl <| WL.move rfl rfl <| WL.pass rfl rfl rfl <| WL.pass rfl rfl rfl <| WL.pass rfl rfl rfl <| WL.pass rfl rfl rfl <| WL.pick rfl rfl rfl <| WL.done <| W.condT rfl <| W.seq <| W.region <| WL.assign rfl rfl <| WL.done <| W.ret <| ⟨_, rfl, Fin.nil ?_⟩
   exact ⟨_, hS.ext, (hS.pick [] rfl).rows, News.of (hS.pick [] rfl).rows rfl, ⟨false, rfl, rfl, hv⟩⟩
  have hv := hv.2 g15
  rw [decide_eq_false g15]
  refine WL.take rfl <| WL.move rfl rfl <| WL.take rfl <| WL.move rfl rfl <| WL.take rfl <| SL.call hS (ok_Compare (hS.ro hb) (hS.ro ha) hv) XF33 rfl XN33 rfl rfl ?_
  rintro _ _ w16 ⟨r17, rfl, rfl, hv⟩ hGw16 hS
  have hS := hS.n0
  refine WL.take rfl <| WL.move rfl rfl <| WL.take rfl ?_
  obtain ⟨o18, hv⟩ := hv
  refine WL.neg (r := (-r12)) rfl (wrn o18) rfl <| WL.take rfl <| WL.neqD rfl rfl rfl <| WL.pick rfl rfl rfl <| WL.move rfl rfl ?_
  by_cases g19 : r17 ≠ (-r12)
  ·have hv := hv.1 g19
   rw [decide_eq_true g19]
   refine WL.pass rfl rfl rfl <| WL.pass rfl rfl rfl <| WL.pass rfl rfl rfl <| WL.pass rfl rfl rfl <| WL.pick rfl rfl rfl <| WL.done <| W.condT rfl <| W.seq <| W.region <| WL.assign rfl rfl <| WL.done <| W.ret <| ⟨_, rfl, Fin.nil ?_⟩
   exact ⟨_, hS.ext, (hS.pick [] rfl).rows, News.of (hS.pick [] rfl).rows rfl, ⟨false, rfl, rfl, hv⟩⟩
  have hv := hv.2 g19
  rw [decide_eq_false g19]
  refine WL.take rfl <| WL.move rfl rfl <| WL.take rfl <| WL.move rfl rfl <| WL.take rfl <| SL.call hS (ok_Compare (hS.ro ha) (hS.ro ha) hv) XF33 rfl XN33 rfl rfl ?_
  rintro _ _ w20 ⟨r21, rfl, rfl, hv⟩ hGw20 hS
  have hS := hS.n0
  refine WL.take rfl <| WL.neqD rfl rfl rfl <| WL.pick rfl rfl rfl <| WL.done <| W.cond2 rfl (fun c22 => ?_) (fun c22 => ?_)
  ·have hv := hv.1 (of_decide_eq_true c22)
   refine W.seq <| W.region <| WL.assign rfl rfl <| WL.done <| W.ret <| ⟨_, rfl, Fin.nil ?_⟩
   exact ⟨_, hS.ext, (hS.pick [] rfl).rows, News.of (hS.pick [] rfl).rows rfl, ⟨false, rfl, rfl, hv⟩⟩
  have hv := hv.2 (of_decide_eq_false c22)
  refine W.skip <| W.seq <| W.region <| WL.move rfl rfl <| WL.move rfl rfl <| SL.call hS (ok_Compare (hS.ro hb) (hS.ro hc) hv) XF33 rfl XN33 rfl rfl ?_
  rintro _ _ w23 ⟨r24, rfl, rfl, hv⟩ hGw23 hS
  have hS := hS.n0
  refine WL.assign rfl rfl <| WL.done <| W.seq <| W.seq <| W.region <| WL.move rfl rfl <| WL.leqD rfl rfl rfl <| WL.move rfl rfl ?_
  by_cases g25 : r12 ≤ (0 : Int)
  ·have hv := hv.1 g25
   rw [decide_eq_true g25]
   refine WL.take rfl <| WL.move rfl rfl <| WL.take rfl <| WL.leqD rfl rfl rfl <| WL.pick rfl rfl rfl <| WL.move rfl rfl ?_
   by_cases g26 : r24 ≤ (0 : Int)
   ·have hv := hv.1 g26
    rw [decide_eq_true g26]
    refine WL.take rfl <| WL.move rfl rfl <| WL.take rfl <| WL.move rfl rfl <| WL.take rfl <| SL.call hS (ok_Compare (hS.ro ha) (hS.ro hc) hv) XF33 rfl XN33 rfl rfl ?_
    rintro _ _ w27 ⟨r28, rfl, rfl, hv⟩ hGw27 hS
    have hS := hS.n0
    refine WL.take rfl <| WL.gtrD rfl rfl rfl <| WL.pick rfl rfl rfl <| WL.done <| W.cond2 rfl (fun c29 => ?_) (fun c29 => ?_)
    ·have hv := hv.1 (of_decide_eq_true c29)
     refine W.seq <| W.region <| WL.assign rfl rfl <| WL.done <| W.ret <| ⟨_, rfl, Fin.nil ?_⟩
     exact ⟨_, hS.ext, (hS.pick [] rfl).rows, News.of (hS.pick [] rfl).rows rfl, ⟨false, rfl, rfl, hv⟩⟩
    have hv := hv.2 (of_decide_eq_false c29)
    refine W.skip <| W.seq <| W.region <| SL.lit1 (vs := is ([(1 : Int), (2 : Int)] : List Int)) hS XU22 XE3 rfl rfl rfl rfl (is_one _) rfl ?_
    intro A30 w31 hS
    refine SL.lit1 (vs := is ([(1 : Int), (2 : Int), (0 : Int)] : List Int)) hS XU22 XE3 rfl rfl rfl rfl (is_one _) rfl ?_
    intro A33 w34 hS
    refine SL.call hS (ok_Compare (hS.rd (i := 1) rfl) (hS.rd (i := 0) rfl) hv) XF33 rfl XN33 rfl rfl ?_
    rintro _ _ w36 ⟨r37, rfl, rfl, hv⟩ hGw36 hS
    have hS := hS.n0
    refine WL.eqlD rfl rfl rfl <| WL.assign rfl rfl <| WL.done <| W.ret <| ⟨_, rfl, Fin.nil ?_⟩
    exact ⟨_, hS.ext, (hS.pick [] rfl).rows, News.of (hS.pick [] rfl).rows rfl, ⟨(decide (r37 = (-1 : Int))), rfl, rfl, hv⟩⟩
   have hv := hv.2 g26
   rw [decide_eq_false g26]
   refine WL.pass rfl rfl rfl <| WL.pass rfl rfl rfl <| WL.pass rfl rfl rfl <| WL.pass rfl rfl rfl <| WL.pick rfl rfl rfl <| WL.done <| W.condF rfl <| W.skip <| W.seq <| W.region <| SL.lit1 (vs := is ([(1 : Int), (2 : Int)] : List Int)) hS XU22 XE3 rfl rfl rfl rfl (is_one _) rfl ?_
   intro A38 w39 hS
   refine SL.lit1 (vs := is ([(1 : Int), (2 : Int), (0 : Int)] : List Int)) hS XU22 XE3 rfl rfl rfl rfl (is_one _) rfl ?_
   intro A41 w42 hS
   refine SL.call hS (ok_Compare (hS.rd (i := 1) rfl) (hS.rd (i := 0) rfl) hv) XF33 rfl XN33 rfl rfl ?_
   rintro _ _ w44 ⟨r45, rfl, rfl, hv⟩ hGw44 hS
   have hS := hS.n0
   refine WL.eqlD rfl rfl rfl <| WL.assign rfl rfl <| WL.done <| W.ret <| ⟨_, rfl, Fin.nil ?_⟩
   exact ⟨_, hS.ext, (hS.pick [] rfl).rows, News.of (hS.pick [] rfl).rows rfl, ⟨(decide (r45 = (-1 : Int))), rfl, rfl, hv⟩⟩
  have hv := hv.2 g25
  rw [decide_eq_false g25]
  refine WL.pass rfl rfl rfl <| WL.pass rfl rfl rfl <| WL.pick rfl rfl rfl <| WL.move rfl rfl <| WL.pass rfl rfl rfl <| WL.pass rfl rfl rfl <| WL.pass rfl rfl rfl <| WL.pass rfl rfl rfl <| WL.pick rfl rfl rfl <| WL.done <| W.condF rfl <| W.skip <| W.seq <| W.region <| SL.lit1 (vs := is ([(1 : Int), (2 : Int)] : List Int)) hS XU22 XE3 rfl rfl rfl rfl (is_one _) rfl ?_
  intro A46 w47 hS
  refine SL.lit1 (vs := is ([(1 : Int), (2 : Int), (0 : Int)] : List Int)) hS XU22 XE3 rfl rfl rfl rfl (is_one _) rfl ?_
  intro A49 w50 hS
  refine SL.call hS (ok_Compare (hS.rd (i := 1) rfl) (hS.rd (i := 0) rfl) hv) XF33 rfl XN33 rfl rfl ?_
  rintro _ _ w52 ⟨r53, rfl, rfl, hv⟩ hGw52 hS
  have hS := hS.n0
  refine WL.eqlD rfl rfl rfl <| WL.assign rfl rfl <| WL.done <| W.ret <| ⟨_, rfl, Fin.nil ?_⟩
  exact ⟨_, hS.ext, (hS.pick [] rfl).rows, News.of (hS.pick [] rfl).rows rfl, ⟨(decide (r53 = (-1 : Int))), rfl, rfl, hv⟩⟩
end Go.Proofs.Ytcmfjjbbcfddpaa
set_option linter.unusedVariables false
set_option linter.unusedSimpArgs false
namespace Go.Proofs.Ytcmfjjbbcfddpaa
section
variable {P M : Int} {mf : List Int}
theorem law_WordOrder {a b c : List Int} (ha : a.length ≤ LB) (hb : b.length ≤ LB) (hc : c.length ≤ LB) : V_LOrder a b c (fun b => b = true) := by
  have h1 := LB62 ha
  have h2 := LB62 hb
  have h3 := LB62 hc
  have fin : V_Compare [1, 2] [1, 2, 0] (fun r => decide (r = -1) = true) := v_Compare (by simp) (by decide)
  refine v_Compare h1 (v_rCompare h1 ⟨fun e => absurd rfl e, fun _ => v_Compare h2 ?_⟩)
  have hb1 := lex_bd a b
  refine ⟨⟨by omega, by omega⟩, fun e => absurd (lex_swap a b) e, fun _ => v_Compare h1 ⟨fun e => absurd (lex_self a) e, fun _ => v_Compare h2 ⟨fun e1 => ⟨fun e2 => v_Compare h1 ⟨fun e3 => ?_, fun _ => fin⟩, fun _ => fin⟩, fun _ => fin⟩⟩⟩
  have := lex_trans a b c e1 e2
  omega
end
end Go.Proofs.Ytcmfjjbbcfddpaa
