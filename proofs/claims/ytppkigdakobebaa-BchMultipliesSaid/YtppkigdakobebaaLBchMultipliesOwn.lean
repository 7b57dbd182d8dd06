/- What only this law leans on. -/
import Derived.Test.YtppkigdakobebaaBchBoundsG3
namespace Go.Proofs.Ytppkigdakobebaa
open Go.RowKit

section
variable {P : Program} {n : Nat} {ro : Option Nat} {df : List Deferred} {N : Jy} {L : Fr} {w : World} {ops : Array Oper} {rest : List Oper}
variable {d : Nat} {ty : TypeId} {pos : String} {af : Array Edge}

theorem Jaz {x : Operand} {k k' : IntKind} {a r : Int} {src dst : TypeId} {ds : TypeDesc} (hs : P.underlying src = some ds) (hd : P.underlying dst = some (.int k')) (hx : ev L x = some (.int k a)) (hr : k'.wrap a = r) (hn : Nat.blt d n = true) (h : WL P n ro df ops rest N ((d, .int k' r) :: L) w) :
    WL P n ro df ops (⟨some d, .convert src dst x, ty, pos, af, none⟩ :: rest) N L w :=
  WL.val rfl rfl hn (fun a ha => by simp [execOp, convert, ha.ev hx, run_underlying hs, run_underlying hd, Conv.intToInt, hr]) h
end
end Go.Proofs.Ytppkigdakobebaa
set_option linter.unusedVariables false
namespace Go.Proofs.Ytppkigdakobebaa
open Go.RowKit
theorem u8_arg {x : Int} (h : (Lit.int .u8 x).wf = true) : 0 <= x /\ x <= 255 := by
  simp [Lit.wf, IntKind.min, IntKind.max, IntKind.signed, IntKind.bits] at h
  exact ⟨by omega, by omega⟩
end Go.Proofs.Ytppkigdakobebaa
namespace Go.Proofs.Ytppkigdakobebaa
open Go.RowKit
abbrev XF7 := Try.func7
abbrev XU5 := Try.underlying5
end Go.Proofs.Ytppkigdakobebaa
namespace Go.Proofs.Ytppkigdakobebaa
theorem Jb1 {k n : Int} (hk : Int.gcd k n = 1) (t : Int) : Int.gcd (k * t) n = Int.gcd t n := by
  rw [Int.gcd_eq_natAbs_gcd_natAbs, Int.gcd_eq_natAbs_gcd_natAbs, Int.natAbs_mul]
  exact Nat.Coprime.gcd_mul_left_cancel _ (by rw [Int.gcd_eq_natAbs_gcd_natAbs] at hk; exact hk)
theorem inv12 : ∀ n, n < 13 -> 0 < n -> ∀ b, b < n -> Nat.gcd b n = 1 -> ∃ u, u < n /\ (u * b) % n = 1 % n /\ Nat.gcd u n = 1 := by decide +kernel
end Go.Proofs.Ytppkigdakobebaa
set_option linter.unusedSimpArgs false
set_option linter.unusedVariables false
set_option maxRecDepth 4000
set_option maxHeartbeats 4000000
namespace Go.Proofs.Ytppkigdakobebaa
open Go.RowKit
def Qp (n : Int) (l : List Int) (y : Int) (u : Int) (Q : Bool -> Prop) : Prop :=
  (((60 : Int) < (l.length : Int)) -> Q true) /\ (¬ ((60 : Int) < (l.length : Int)) -> (((n < 1) -> Q true) /\ (¬ (n < 1) -> ((((12 : Int) < n) -> Q true) /\ (¬ ((12 : Int) < n) -> (Qo n l (fun (r15, r16, r17, r18, r19, r20, r21) => Qn n l (fun (r26, r27, r28, r29, r30, r31, r32) => (((0 : Nat) + (l.length : Nat) : Int) * 8 <= 140737488355328) /\ (((((([] : List Int) ++ l).length : Nat) + (1 : Nat) : Int) * 8 <= 140737488355328) /\ (Qo n ((([] : List Int) ++ l) ++ ([y] : List Int)) (fun (r51, r52, r53, r54, r55, r56, r57) => (((0 : Nat) + (l.length : Nat) : Int) * 8 <= 140737488355328) /\ (((((([] : List Int) ++ l).length : Nat) + (1 : Nat) : Int) * 8 <= 140737488355328) /\ (Qn n ((([] : List Int) ++ l) ++ ([y] : List Int)) (fun (r76, r77, r78, r79, r80, r81, r82) => ((r21 ≠ 0) -> Q false) /\ (¬ (r21 ≠ 0) -> (((r32 ≠ 0) -> Q false) /\ (¬ (r32 ≠ 0) -> (((r57 ≠ 0) -> Q false) /\ (¬ (r57 ≠ 0) -> (((r82 ≠ 0) -> Q false) /\ (¬ (r82 ≠ 0) -> (((r15 < 1) -> Q false) /\ (¬ (r15 < 1) -> (((r26 < r15) -> Q false) /\ (¬ (r26 < r15) -> (((r51 < r15) -> Q false) /\ (¬ (r51 < r15) -> (((r76 < r26) -> Q false) /\ (¬ (r76 < r26) -> (((r51 < 2) -> Q false) /\ (¬ (r51 < 2) -> ((I64 u) /\ (JN u n (fun r97 => JV r97 n (fun r99 => ((r99 ≠ 1) -> Q true) /\ (¬ (r99 ≠ 1) -> (∃ (I116 : List Int -> Int -> Prop) (μ117 : List Int -> Int -> Nat), I116 ([] : List Int) (0 : Int) /\ ∀ (x111 : List Int) (z115 : Int), (I116 x111 z115 -> (((z115 < (l.length : Int)) -> ((0 <= z115 /\ z115 < (l.length : Nat)) /\ (JN (gi l z115) n (fun r122 => (I64 u) /\ ((I64 (r122 * u)) /\ ((((x111.length : Nat) + (1 : Nat) : Int) * 8 <= 140737488355328) /\ ((I64 (z115 + 1)) /\ (I116 (x111 ++ ([(r122 * u)] : List Int)) (z115 + 1) /\ μ117 (x111 ++ ([(r122 * u)] : List Int)) (z115 + 1) < μ117 x111 z115)))))))) /\ (¬ (z115 < (l.length : Int)) -> (Qo n x111 (fun (r134, r135, r136, r137, r138, r139, r140) => Qn n x111 (fun (r145, r146, r147, r148, r149, r150, r151) => ((r140 = 0) -> (((r151 = 0) -> (((r134 = r15) -> (Q (decide (r145 = r26)))) /\ (¬ (r134 = r15) -> Q false))) /\ (¬ (r151 = 0) -> Q false))) /\ (¬ (r140 = 0) -> Q false))))))))))))))))))))))))))))))))))))))))))))
theorem YN {w : World} {Q : Bool -> Prop} {n : Int} {l : List Int} {y : Int} {u : Int} {Bl : Nat} {Al : Option Addr} {nl kl : Nat} (hl : Rd Bl w 1 Al nl kl (is l)) (hv : Qp n l y u Q) :
    Calls Try.prog 7 #[.int .i64 n, .slice Al nl kl, .int .i64 y, .int .u8 u] w <| Rt w fun v Qr => ∃ (r0 : Bool), v = .bool r0 /\ Qr = [] /\ Q r0 := by
  have hnl := hl.ilen
  subst hnl
  refine Jm <| Jl (vs := [nI n, nS Al l kl, nI y, .int .u8 u]) [8] XF7 rfl rfl rfl rfl ?_
  have hS := Jp w
  unfold Qp at hv
  refine Je 8 <| WL.len JK rfl rfl <| Qe rfl rfl rfl <| Jd rfl rfl ?_
  by_cases g11 : (60 : Int) < (l.length : Int)
  .have hv := hv.1 g11
   rw [decide_eq_true g11]
   refine Jb 8 <| Jq rfl <| Je 4 <| W.ret <| ⟨_, rfl, Fin.nil ?_⟩
   exact (hS.pick [] rfl).fin rfl ⟨true, rfl, rfl, hv⟩
  have hv := hv.2 g11
  rw [decide_eq_false g11]
  refine Jb 5 <| Jd rfl rfl ?_
  by_cases g12 : n < 1
  .have hv := hv.1 g12
   rw [decide_eq_true g12]
   refine Jb 4 <| Jq rfl <| Je 4 <| W.ret <| ⟨_, rfl, Fin.nil ?_⟩
   exact (hS.pick [] rfl).fin rfl ⟨true, rfl, rfl, hv⟩
  have hv := hv.2 g12
  rw [decide_eq_false g12]
  refine Jb 6 <| Jg rfl (fun c13 => ?_) (fun c13 => ?_)
  .have hv := hv.1 (oT c13)
   refine Je 4 <| W.ret <| ⟨_, rfl, Fin.nil ?_⟩
   exact (hS.pick [] rfl).fin rfl ⟨true, rfl, rfl, hv⟩
  have hv := hv.2 (oF c13)
  refine Jh <| Je 4 <| SL.call hS (QJ (hS.ro hl) hv) Jbj rfl XN24 rfl rfl ?_
  rintro _ _ w14 ⟨r15, r16, r17, r18, r19, r20, r21, rfl, rfl, hv⟩ hGw14 hS
  have hS := hS.n0
  refine Jb 4 <| SL.alloc (cs := [nI 0, nI 0, nI 0, nI 0, nI 0]) hS Jk rfl rfl ?_
  intro g22 w23 hS
  refine JG rfl rfl <| JC (cs := [nI r16, nI r17, nI r18, nI r19, nI r20]) 0 hS rfl Jk rfl rfl rfl rfl rfl ?_
  intro w24 hS
  refine Jb 2 <| Je 4 <| SL.call hS (QI (hS.ro hl) hv) Jbi rfl XN25 rfl rfl ?_
  rintro _ _ w25 ⟨r26, r27, r28, r29, r30, r31, r32, rfl, rfl, hv⟩ hGw25 hS
  have hS := hS.n0
  refine Jb 4 <| SL.alloc (cs := [nI 0, nI 0, nI 0, nI 0, nI 0]) hS Jk rfl rfl ?_
  intro g33 w34 hS
  refine JG rfl rfl <| JC (cs := [nI r27, nI r28, nI r29, nI r30, nI r31]) 0 hS rfl Jk rfl rfl rfl rfl rfl ?_
  intro w35 hS
  refine Jb 2 <| Je 3 <| QG (vs := is ([] : List Int)) hS JK XE3 rfl rfl rfl rfl (JZ _) rfl ?_
  intro A36 w37 hS
  refine Jd rfl rfl ?_
  obtain ⟨o39, hv⟩ := hv
  refine SL.append (cs := is ([] : List Int)) (cs' := is l) 0 ((([] : List Int) ++ l).length) (is (([] : List Int) ++ l)) hS rfl JK XE3 (hS.ro hl) (JZ _) rfl rfl (apk o39).1 (apk o39).2 (YQ (hS.rd (i := 0) rfl) (hS.ro hl)) (J4 _ _) rfl ?_
  intro A40 k41 w42 hS
  refine Jd rfl rfl <| QG (vs := is ([y] : List Int)) hS JK XE3 rfl rfl rfl rfl (JZ _) rfl ?_
  intro A43 w44 hS
  obtain ⟨o46, hv⟩ := hv
  refine SL.append (cs := is (([] : List Int) ++ l)) (cs' := is ([y] : List Int)) 1 (((([] : List Int) ++ l) ++ ([y] : List Int)).length) (is ((([] : List Int) ++ l) ++ ([y] : List Int))) hS rfl JK XE3 (hS.rd (i := 0) rfl) (JZ _) rfl rfl (apk o46).1 (apk o46).2 (YQ (hS.rd (i := 1) rfl) (hS.rd (i := 0) rfl)) (J4 _ _) rfl ?_
  intro A47 k48 w49 hS
  refine SL.call hS (QJ (hS.rd (i := 1) rfl) hv) Jbj rfl XN24 rfl rfl ?_
  rintro _ _ w50 ⟨r51, r52, r53, r54, r55, r56, r57, rfl, rfl, hv⟩ hGw50 hS
  have hS := hS.n0
  refine Jb 4 <| SL.alloc (cs := [nI 0, nI 0, nI 0, nI 0, nI 0]) hS Jk rfl rfl ?_
  intro g58 w59 hS
  refine JG rfl rfl <| JC (cs := [nI r52, nI r53, nI r54, nI r55, nI r56]) 0 hS rfl Jk rfl rfl rfl rfl rfl ?_
  intro w60 hS
  refine Jb 2 <| Je 3 <| QG (vs := is ([] : List Int)) hS JK XE3 rfl rfl rfl rfl (JZ _) rfl ?_
  intro A61 w62 hS
  refine Jd rfl rfl ?_
  obtain ⟨o64, hv⟩ := hv
  refine SL.append (cs := is ([] : List Int)) (cs' := is l) 0 ((([] : List Int) ++ l).length) (is (([] : List Int) ++ l)) hS rfl JK XE3 (hS.ro hl) (JZ _) rfl rfl (apk o64).1 (apk o64).2 (YQ (hS.rd (i := 0) rfl) (hS.ro hl)) (J4 _ _) rfl ?_
  intro A65 k66 w67 hS
  refine Jd rfl rfl <| QG (vs := is ([y] : List Int)) hS JK XE3 rfl rfl rfl rfl (JZ _) rfl ?_
  intro A68 w69 hS
  obtain ⟨o71, hv⟩ := hv
  refine SL.append (cs := is (([] : List Int) ++ l)) (cs' := is ([y] : List Int)) 1 (((([] : List Int) ++ l) ++ ([y] : List Int)).length) (is ((([] : List Int) ++ l) ++ ([y] : List Int))) hS rfl JK XE3 (hS.rd (i := 0) rfl) (JZ _) rfl rfl (apk o71).1 (apk o71).2 (YQ (hS.rd (i := 1) rfl) (hS.rd (i := 0) rfl)) (J4 _ _) rfl ?_
  intro A72 k73 w74 hS
  refine SL.call hS (QI (hS.rd (i := 1) rfl) hv) Jbi rfl XN25 rfl rfl ?_
  rintro _ _ w75 ⟨r76, r77, r78, r79, r80, r81, r82, rfl, rfl, hv⟩ hGw75 hS
  have hS := hS.n0
  refine Jb 4 <| SL.alloc (cs := [nI 0, nI 0, nI 0, nI 0, nI 0]) hS Jk rfl rfl ?_
  intro g83 w84 hS
  refine JG rfl rfl <| JC (cs := [nI r77, nI r78, nI r79, nI r80, nI r81]) 0 hS rfl Jk rfl rfl rfl rfl rfl ?_
  intro w85 hS
  refine Jb 2 <| Je 5 <| Jd rfl rfl ?_
  by_cases g86 : r21 ≠ 0
  .have hv := hv.1 g86
   rw [decide_eq_true g86]
   refine Jb 35 <| Jq rfl <| Je 4 <| W.ret <| ⟨_, rfl, Fin.nil ?_⟩
   exact (hS.pick [] rfl).fin rfl ⟨false, rfl, rfl, hv⟩
  have hv := hv.2 g86
  rw [decide_eq_false g86]
  refine Jb 5 <| Jd rfl rfl ?_
  by_cases g87 : r32 ≠ 0
  .have hv := hv.1 g87
   rw [decide_eq_true g87]
   refine Jb 31 <| Jq rfl <| Je 4 <| W.ret <| ⟨_, rfl, Fin.nil ?_⟩
   exact (hS.pick [] rfl).fin rfl ⟨false, rfl, rfl, hv⟩
  have hv := hv.2 g87
  rw [decide_eq_false g87]
  refine Jb 5 <| Jd rfl rfl ?_
  by_cases g88 : r57 ≠ 0
  .have hv := hv.1 g88
   rw [decide_eq_true g88]
   refine Jb 27 <| Jq rfl <| Je 4 <| W.ret <| ⟨_, rfl, Fin.nil ?_⟩
   exact (hS.pick [] rfl).fin rfl ⟨false, rfl, rfl, hv⟩
  have hv := hv.2 g88
  rw [decide_eq_false g88]
  refine Jb 5 <| Jd rfl rfl ?_
  by_cases g89 : r82 ≠ 0
  .have hv := hv.1 g89
   rw [decide_eq_true g89]
   refine Jb 23 <| Jq rfl <| Je 4 <| W.ret <| ⟨_, rfl, Fin.nil ?_⟩
   exact (hS.pick [] rfl).fin rfl ⟨false, rfl, rfl, hv⟩
  have hv := hv.2 g89
  rw [decide_eq_false g89]
  refine Jb 5 <| Jd rfl rfl ?_
  by_cases g90 : r15 < 1
  .have hv := hv.1 g90
   rw [decide_eq_true g90]
   refine Jb 19 <| Jq rfl <| Je 4 <| W.ret <| ⟨_, rfl, Fin.nil ?_⟩
   exact (hS.pick [] rfl).fin rfl ⟨false, rfl, rfl, hv⟩
  have hv := hv.2 g90
  rw [decide_eq_false g90]
  refine Jb 7 <| Jd rfl rfl ?_
  by_cases g91 : r26 < r15
  .have hv := hv.1 g91
   rw [decide_eq_true g91]
   refine Jb 14 <| Jq rfl <| Je 4 <| W.ret <| ⟨_, rfl, Fin.nil ?_⟩
   exact (hS.pick [] rfl).fin rfl ⟨false, rfl, rfl, hv⟩
  have hv := hv.2 g91
  rw [decide_eq_false g91]
  refine Jb 7 <| Jd rfl rfl ?_
  by_cases g92 : r51 < r15
  .have hv := hv.1 g92
   rw [decide_eq_true g92]
   refine Jb 9 <| Jq rfl <| Je 4 <| W.ret <| ⟨_, rfl, Fin.nil ?_⟩
   exact (hS.pick [] rfl).fin rfl ⟨false, rfl, rfl, hv⟩
  have hv := hv.2 g92
  rw [decide_eq_false g92]
  refine Jb 7 <| Jd rfl rfl ?_
  by_cases g93 : r76 < r26
  .have hv := hv.1 g93
   rw [decide_eq_true g93]
   refine Jb 4 <| Jq rfl <| Je 4 <| W.ret <| ⟨_, rfl, Fin.nil ?_⟩
   exact (hS.pick [] rfl).fin rfl ⟨false, rfl, rfl, hv⟩
  have hv := hv.2 g93
  rw [decide_eq_false g93]
  refine Jb 6 <| Jg rfl (fun c94 => ?_) (fun c94 => ?_)
  .have hv := hv.1 (oT c94)
   refine Je 4 <| W.ret <| ⟨_, rfl, Fin.nil ?_⟩
   exact (hS.pick [] rfl).fin rfl ⟨false, rfl, rfl, hv⟩
  have hv := hv.2 (oF c94)
  refine Jh <| Je 4 ?_
  obtain ⟨o95, hv⟩ := hv
  refine Jaz (r := u) XU5 XU3 rfl (wr o95) rfl <| Jd rfl rfl <| SL.call hS (JP  hv) Q2 rfl Ye rfl rfl ?_
  rintro _ _ w96 ⟨r97, rfl, rfl, hv⟩ hGw96 hS
  have hS := hS.n0
  refine Jd rfl rfl <| SL.call hS (JY  hv) Yy rfl YV rfl rfl ?_
  rintro _ _ w98 ⟨r99, rfl, rfl, hv⟩ hGw98 hS
  have hS := hS.n0
  refine Jb 2 <| Jg rfl (fun c100 => ?_) (fun c100 => ?_)
  .have hv := hv.1 (oT c100)
   refine Je 4 <| W.ret <| ⟨_, rfl, Fin.nil ?_⟩
   exact (hS.pick [] rfl).fin rfl ⟨true, rfl, rfl, hv⟩
  have hv := hv.2 (oF c100)
  refine Jh <| Je 9 <| W.block ?_
  obtain ⟨I116, μ117, hv, hk158⟩ := hv
  have hS := hS.nil (e := 3) (z := 1)
  have hm0 : 0 = ([] : List Int).length := (hS.rd (i := 0) rfl).ilen.symm
  have hS := hS.relen (i := 0) rfl hm0
  change St _ _ _ _ [_, _, _, _, _, _, _, _, _] at hS
  refine JB (σ := List Int × Int × Option Addr × Nat) (fun q w1 => match q with | (x111, z115, A112, k113) => I116 x111 z115 /\ St TT w none w1 [nR 3 A112 x111 k113, .row 38 5 (nA g83) 1 1 [nI r77, nI r78, nI r79, nI r80, nI r81], .row 3 1 A68 1 1 (is ([y] : List Int)), .row 3 1 A72 (((([] : List Int) ++ l) ++ ([y] : List Int)).length) k73 (is ((([] : List Int) ++ l) ++ ([y] : List Int))), .row 38 5 (nA g58) 1 1 [nI r52, nI r53, nI r54, nI r55, nI r56], .row 3 1 A43 1 1 (is ([y] : List Int)), .row 3 1 A47 (((([] : List Int) ++ l) ++ ([y] : List Int)).length) k48 (is ((([] : List Int) ++ l) ++ ([y] : List Int))), .row 38 5 (nA g33) 1 1 [nI r27, nI r28, nI r29, nI r30, nI r31], .row 38 5 (nA g22) 1 1 [nI r16, nI r17, nI r18, nI r19, nI r20]]) (fun (x111, z115, A112, k113) => [(0, nI n), (1, nS Al l kl), (3, .int .u8 u), (8, .bool false), (9, nI r15), (12, nI r26), (21, nS A112 x111 k113), (22, nI z115)]) (fun (x111, z115, A112, k113) => μ117 x111 z115) (([] : List Int), (0 : Int), none, 0) ⟨hv, hS⟩ ⟨rfl, rfl, rfl, rfl, rfl, rfl, (sm (by first | rfl | assumption | omega)), rfl, trivial⟩ ?_
  rintro ⟨x111, z115, A112, k113⟩ w118 ⟨hv, hS⟩
  have hv := hk158 x111 z115 hv
  refine Je 5 <| WL.len JK rfl rfl <| Jb 2 <| Jg rfl (fun c119 => ?_) (fun c119 => ?_)
  .have hv := hv.1 (oT c119)
   refine Jh <| Jz <| W.block <| Je 4 ?_
   obtain ⟨o120, hv⟩ := hv
   refine JF JK XE3 (hS.ro hl) rfl rfl o120 rfl <| JI XU3 rfl rfl (Qw (hS.ro hl) o120) rfl <| Jd rfl rfl <| SL.call hS (JP  hv) Q2 rfl Ye rfl rfl ?_
   rintro _ _ w121 ⟨r122, rfl, rfl, hv⟩ hGw121 hS
   have hS := hS.n0
   refine Jd rfl rfl ?_
   obtain ⟨o123, hv⟩ := hv
   refine Jaz (r := u) XU5 XU3 rfl (wr o123) rfl ?_
   obtain ⟨o124, hv⟩ := hv
   refine J3 (r := (r122 * u)) rfl rfl (wr o124) rfl <| QG (vs := is ([(r122 * u)] : List Int)) hS JK XE3 rfl rfl rfl rfl (JZ _) rfl ?_
   intro A125 w126 hS
   obtain ⟨o128, hv⟩ := hv
   refine SL.append (cs := is x111) (cs' := is ([(r122 * u)] : List Int)) 1 ((x111 ++ ([(r122 * u)] : List Int)).length) (is (x111 ++ ([(r122 * u)] : List Int))) hS rfl JK XE3 (hS.rd (i := 0) rfl) (JZ _) rfl rfl (apk o128).1 (apk o128).2 (YQ (hS.rd (i := 1) rfl) (hS.rd (i := 0) rfl)) (J4 _ _) rfl ?_
   intro A129 k130 w131 hS
   refine Jb 2 <| Je 2 ?_
   obtain ⟨o132, hv⟩ := hv
   refine WL.add (r := (z115 + 1)) rfl rfl (wr o132) rfl <| Jb 2 ?_
   have hS := hS.pick [1, 2, 3, 4, 5, 6, 7, 8, 9] rfl
   exact ⟨(x111 ++ ([(r122 * u)] : List Int), (z115 + 1), A129, k130), sp rfl, hv.2, rfl, hv.1, hS⟩
  have hv := hv.2 (oF c119)
  refine Jt <| Je 4 <| SL.call hS (QJ (hS.rd (i := 0) rfl) hv) Jbj rfl XN24 rfl rfl ?_
  rintro _ _ w133 ⟨r134, r135, r136, r137, r138, r139, r140, rfl, rfl, hv⟩ hGw133 hS
  have hS := hS.n0
  refine Jb 4 <| SL.alloc (cs := [nI 0, nI 0, nI 0, nI 0, nI 0]) hS Jk rfl rfl ?_
  intro g141 w142 hS
  refine JG rfl rfl <| JC (cs := [nI r135, nI r136, nI r137, nI r138, nI r139]) 0 hS rfl Jk rfl rfl rfl rfl rfl ?_
  intro w143 hS
  refine Jb 2 <| Je 4 <| SL.call hS (QI (hS.rd (i := 1) rfl) hv) Jbi rfl XN25 rfl rfl ?_
  rintro _ _ w144 ⟨r145, r146, r147, r148, r149, r150, r151, rfl, rfl, hv⟩ hGw144 hS
  have hS := hS.n0
  refine Jb 4 <| SL.alloc (cs := [nI 0, nI 0, nI 0, nI 0, nI 0]) hS Jk rfl rfl ?_
  intro g152 w153 hS
  refine JG rfl rfl <| JC (cs := [nI r146, nI r147, nI r148, nI r149, nI r150]) 0 hS rfl Jk rfl rfl rfl rfl rfl ?_
  intro w154 hS
  refine Jb 2 <| Je 4 <| Jd rfl rfl ?_
  by_cases g155 : r140 = 0
  .have hv := hv.1 g155
   rw [decide_eq_true g155]
   refine Jb 5 <| Jd rfl rfl ?_
   by_cases g156 : r151 = 0
   .have hv := hv.1 g156
    rw [decide_eq_true g156]
    refine Jb 7 <| Jd rfl rfl ?_
    by_cases g157 : r134 = r15
    .have hv := hv.1 g157
     rw [decide_eq_true g157]
     refine Jb 9 <| W.ret <| ⟨_, rfl, Fin.nil ?_⟩
     exact (hS.pick [] rfl).fin rfl ⟨(decide (r145 = r26)), rfl, rfl, hv⟩
    have hv := hv.2 g157
    rw [decide_eq_false g157]
    refine Jb 6 <| W.ret <| ⟨_, rfl, Fin.nil ?_⟩
    exact (hS.pick [] rfl).fin rfl ⟨false, rfl, rfl, hv⟩
   have hv := hv.2 g156
   rw [decide_eq_false g156]
   refine Jb 11 <| W.ret <| ⟨_, rfl, Fin.nil ?_⟩
   exact (hS.pick [] rfl).fin rfl ⟨false, rfl, rfl, hv⟩
  have hv := hv.2 g155
  rw [decide_eq_false g155]
  refine Jb 15 <| W.ret <| ⟨_, rfl, Fin.nil ?_⟩
  exact (hS.pick [] rfl).fin rfl ⟨false, rfl, rfl, hv⟩
end Go.Proofs.Ytppkigdakobebaa
set_option linter.unusedVariables false
set_option linter.unusedSimpArgs false
namespace Go.Proofs.Ytppkigdakobebaa
/-! ### the law of one more zero, and of multiplied zeros -/
theorem inv_of {n u : Int} (n1 : 1 <= n) (n12 : n <= 12) (hu : 0 <= u) (hg : Int.gcd u n = 1) : ∃ v : Int, (v * u) % n = 1 % n /\ Int.gcd v n = 1 := by
  obtain ⟨N, rfl⟩ := Int.eq_ofNat_of_zero_le (show 0 <= n by omega)
  have hb := Qm (x := u) (show (0 : Int) < (N : Int) by omega)
  obtain ⟨b, hbe⟩ := Int.eq_ofNat_of_zero_le hb.1
  have hgb : Nat.gcd b N = 1 := by
    have := QB (n := (N : Int)) (a := u) (b := (b : Int)) (by rw [<- hbe, Int.emod_emod])
    rw [hg] at this; exact this.symm
  obtain ⟨v, _, h1, h2⟩ := inv12 N (by omega) (by omega) b (by omega) hgb
  refine ⟨v, ?_, h2⟩
  have e : ((v : Int) * u) % N = ((v : Int) * (b : Int)) % N := by rw [<- hbe, Int.mul_emod, Int.mul_emod (v : Int) (u % N), Int.emod_emod]
  rw [e]
  exact congrArg (fun z : Nat => (z : Int)) h1
theorem Yc (n : Int) (l : List Int) (y u : Int) (hu : 0 <= u /\ u <= 255) : Qp n l y u (fun b => b = true) := by
  refine ⟨fun _ => rfl, fun hl => ⟨fun _ => rfl, fun n1' => ⟨fun _ => rfl, fun n12' => ?_⟩⟩⟩
  have n1 : 1 <= n := by omega
  have n12 : n <= 12 := by omega
  have hn : 1 <= n /\ n <= 64 := ⟨n1, by omega⟩
  have hz : l.length <= 1000 := by omega
  have hz2 : ((([] : List Int) ++ l) ++ ([y] : List Int)).length <= 1000 := by simp; omega
  have hm : ∀ a, PZ n l a -> PZ n ((([] : List Int) ++ l) ++ ([y] : List Int)) a := fun a ⟨x, hx, e⟩ => ⟨x, by simp [hx], e⟩
  refine Q8 hz (fun c => absurd hn c) fun b r0 r1 r2 _ _ _ hB => QS hz (fun c => absurd hn c) fun d q0 q1 q2 q3 q4 _ _ _ hT => ⟨by omega, by simp; omega, ?_⟩
  refine Q8 hz2 (fun c => absurd hn c) fun b2 _ _ _ _ _ _ hB2 => ⟨by omega, by simp; omega, QS hz2 (fun c => absurd hn c) fun d2 _ _ _ _ _ _ _ _ hT2 => ?_⟩
  have h1 := hB.1
  have h2 := hB.leT hT
  have h3 := hB.mono hB2 hm
  have h4 := hT.mono hT2 hm
  have h5 : 2 <= b2 := hB2.2.1 y 1 1 ⟨by omega, by omega, by omega, by omega, Int.one_gcd, fun c => absurd c (by omega), fun i j a c e f => by
    have e1 : i = 0 := by omega
    have e2 : j = 0 := by omega
    subst e1 e2
    exact ⟨y, by simp, by simp⟩⟩
  have k0 : ∀ {A : Prop}, A -> (((0 : Int) ≠ 0 -> false = true) /\ (¬ ((0 : Int) ≠ 0) -> A)) := fun h => ⟨fun c => absurd rfl c, fun _ => h⟩
  refine k0 (k0 (k0 (k0 ⟨fun c => by omega, fun _ => ⟨fun c => by omega, fun _ => ⟨fun c => by omega, fun _ => ⟨fun c => by omega, fun _ => ⟨fun c => by omega, fun _ => ⟨JD (by omega) (by omega), ?_⟩⟩⟩⟩⟩⟩)))
  have hub := Qm (x := u) (show 0 < n by omega)
  refine Yi (by omega) (by omega) (Zf hub.1 (by omega) ⟨fun _ => rfl, fun hg => ?_⟩)
  have hg1 : Int.gcd u n = 1 := by
    have := QB (n := n) (a := u % n) (b := u) (Int.emod_emod _ _)
    omega
  refine ⟨fun x k => 0 <= k /\ k <= (l.length : Nat) /\ (x.length : Int) = k /\ ∀ i : Int, 0 <= i -> i < k -> gi x i = gi l i % n * u, fun _ k => ((l.length : Nat) - k : Int).toNat, ⟨by omega, by omega, rfl, fun i a b => by omega⟩, ?_⟩
  rintro x k ⟨k0', k1, hx, hk⟩
  refine ⟨fun hlt => ⟨⟨k0', hlt⟩, Yi (by omega) (by omega) ?_⟩, fun hge => ?_⟩
  . have hb := Qm (x := gi l k) (show 0 < n by omega)
    have hm1 := Int.mul_nonneg hb.1 hu.1
    have hm2 := Int.mul_le_mul (show gi l k % n <= 12 by omega) hu.2 hu.1 (by omega : (0 : Int) <= 12)
    refine ⟨JD (by omega) (by omega), JD (by omega) (by omega), by omega, JD (by omega) (by omega), ⟨by omega, by omega, by simp; omega, fun i a c => ?_⟩, by show ((l.length : Nat) - (k + 1) : Int).toNat < ((l.length : Nat) - k : Int).toNat; omega⟩
    by_cases e : i = k
    . subst e; rw [<- hx, YA]
    . rw [Zm a (by omega)]; exact hk i a (by omega)
  . have hkl : k = (l.length : Nat) := by omega
    subst hkl
    obtain ⟨v, hv, hgv⟩ := inv_of n1 n12 hu.1 hg1
    have hP : ∀ a, PZ n l a -> PZ n x (u * a) := fun a ⟨z, hz, e⟩ => by
      obtain ⟨j, a1, a2, rfl⟩ := Qh.1 hz
      refine ⟨gi x j, Qh.2 ⟨j, a1, by omega, rfl⟩, ?_⟩
      rw [hk j a1 a2, e, Int.mul_comm u a, Int.mul_emod, Int.emod_emod, <- Int.mul_emod]
    have hP' : ∀ a, PZ n x a -> PZ n l (v * a) := fun a ⟨z, hz, e⟩ => by
      obtain ⟨j, a1, a2, rfl⟩ := Qh.1 hz
      rw [hk j a1 (by omega)] at e
      refine ⟨gi l j, Qh.2 ⟨j, a1, by omega, rfl⟩, ?_⟩
      rw [Int.mul_emod v a n, <- e, <- Int.mul_emod, <- Int.mul_assoc, Int.mul_right_comm, Int.mul_emod (v * u), hv, <- Int.mul_emod, Int.one_mul, Int.emod_emod]
    have gm : ∀ w : Int, Int.gcd w n = 1 -> ∀ t, Int.gcd (w * t) n = Int.gcd t n := fun w hw t => Jb1 hw t
    refine Q8 (by omega) (fun c => absurd hn c) fun b3 _ _ _ _ _ _ hB3 => QS (by omega) (fun c => absurd hn c) fun d3 _ _ _ _ _ _ _ _ hT3 => ?_
    have e1 := hB.le hB3 hg1 hP fun t ht => by rw [gm u hg1]; exact ht
    have e2 := hB3.le hB hgv hP' fun t ht => by rw [gm v hgv]; exact ht
    have e3 := hT.le hT3 hP (gm u hg1)
    have e4 := hT3.le hT hP' (gm v hgv)
    exact ⟨fun _ => ⟨fun _ => ⟨fun _ => decide_eq_true (by omega), fun c => absurd (by omega) c⟩, fun c => absurd rfl c⟩, fun c => absurd rfl c⟩
end Go.Proofs.Ytppkigdakobebaa
