/- What only this law leans on. -/
import Derived.Test.YtppkigdakobebaaGrsChecksG7
namespace Go.Proofs.Ytppkigdakobebaa
open Go.RowKit
abbrev XF9 := Try.func9
end Go.Proofs.Ytppkigdakobebaa
set_option linter.unusedSimpArgs false
set_option linter.unusedVariables false
set_option maxRecDepth 4000
set_option maxHeartbeats 4000000
namespace Go.Proofs.Ytppkigdakobebaa
open Go.RowKit
def ZD (Pf : Int) (Mf : Int) (mf : List Int) (n : Int) (k : Int) (Q : Bool -> Prop) : Prop :=
  QV  (fun r14 => (((!r14) = true) -> Q false) /\ ((!r14) = false -> (YE Pf Mf mf n k (fun (r17, r18, x19, c20, x21, x22, r23) => YB Pf Mf mf (fun r37 => ZB Pf Mf mf (fun r39 => ((r39 ≠ 0) -> (((r23 = 1) -> (QF r17 r18 x19 c20 x21 x22 (fun r43 => Q r43))) /\ (¬ (r23 = 1) -> Q false))) /\ (¬ (r39 ≠ 0) -> (((n < 1) -> (((r23 = 4) -> (QF r17 r18 x19 c20 x21 x22 (fun r47 => Q r47))) /\ (¬ (r23 = 4) -> Q false))) /\ (¬ (n < 1) -> ((((min r37 (64 : Int)) < n) -> (((r23 = 4) -> (QF r17 r18 x19 c20 x21 x22 (fun r51 => Q r51))) /\ (¬ (r23 = 4) -> Q false))) /\ (¬ ((min r37 (64 : Int)) < n) -> (((k < 0) -> (((r23 = 6) -> (QF r17 r18 x19 c20 x21 x22 (fun r55 => Q r55))) /\ (¬ (r23 = 6) -> Q false))) /\ (¬ (k < 0) -> (((n < k) -> (((r23 = 6) -> (QF r17 r18 x19 c20 x21 x22 (fun r59 => Q r59))) /\ (¬ (r23 = 6) -> Q false))) /\ (¬ (n < k) -> (∃ (I90 : List Int -> List Int -> Int -> Prop) (μ91 : List Int -> List Int -> Int -> Nat), I90 ([] : List Int) ([] : List Int) (0 : Int) /\ ∀ (x81 : List Int) (x85 : List Int) (z89 : Int), (I90 x81 x85 z89 -> (((z89 < n) -> ((((x81.length : Nat) + (1 : Nat) : Int) * 8 <= 140737488355328) /\ ((((x85.length : Nat) + (1 : Nat) : Int) * 8 <= 140737488355328) /\ ((I64 (z89 + 1)) /\ (I90 (x81 ++ ([z89] : List Int)) (x85 ++ ([(1 : Int)] : List Int)) (z89 + 1) /\ μ91 (x81 ++ ([z89] : List Int)) (x85 ++ ([(1 : Int)] : List Int)) (z89 + 1) < μ91 x81 x85 z89))))) /\ (¬ (z89 < n) -> (((r23 = 0) -> (Yy r17 r18 x19 c20 x21 x22 Pf Mf mf k x81 x85 (fun r113 => ((r113 = true) -> (QO r17 r18 x19 c20 x21 x22 (fun r116 => Q (decide (r116 = 0))))) /\ (r113 = false -> Q false)))) /\ (¬ (r23 = 0) -> Q false)))))))))))))))))))))
theorem Jge {w : World} {Q : Bool -> Prop} {Pf : Int} {Mf : Int} {mf : List Int} {n : Int} {k : Int} {Bf : Nat} {Af : Option Addr} {nf kf : Nat} (hf : Rd Bf w 1 Af nf kf (is mf)) (hv : ZD Pf Mf mf n k Q) :
    Calls Try.prog 9 #[.agg #[.int .i64 Pf, .int .i64 Mf, .slice Af nf kf], .int .i64 n, .int .i64 k] w <| Rt w fun v Qr => ∃ (r0 : Bool), v = .bool r0 /\ Qr = [] /\ Q r0 := by
  have hnf := hf.ilen
  subst hnf
  refine Jn <| Jl (vs := [.agg #[nI Pf, nI Mf, nS Af mf kf], nI n, nI k]) [6] XF9 rfl rfl rfl rfl ?_
  have hS := Jt w
  unfold ZD at hv
  refine Jd 2 <| JH (z := 3) (cs := [nI Pf, nI Mf, nS Af mf kf]) hS rfl rfl rfl rfl ?_
  intro g11 w12 hS
  refine Jc 2 <| Jd 3 <| SL.call hS (Yu  hv) Ji6 rfl Jld rfl rfl ?_
  rintro _ _ w13 ⟨r14, rfl, rfl, hv⟩ hGw13 hS
  have hS := hS.n0
  refine Jc 2 <| Jj rfl (fun c15 => ?_) (fun c15 => ?_)
  .have hv := hv.1 (c15)
   refine Jd 4 <| W.ret <| ⟨_, rfl, Fin.nil ?_⟩
   exact (hS.pick [] rfl).fin rfl ⟨false, rfl, rfl, hv⟩
  have hv := hv.2 (c15)
  refine Jr <| Jd 2 <| JD 0 JW J0 hS rfl ⟨rfl, rfl⟩ rfl <| Jc 2 <| SL.call hS (Jch (hS.ro hf) hv) XF32 rfl XN32 rfl rfl ?_
  rintro _ _ w16 ⟨r17, r18, x19, c20, x21, x22, r23, A24, k25, A27, k28, A30, k31, rfl, rfl, hv⟩ hGw16 hS
  have hS := hS.n3
  refine Jc 3 <| SL.alloc (cs := [nI 0, nI 0, .slice none 0 0, nI 0, .slice none 0 0, .slice none 0 0]) hS JQ rfl rfl ?_
  intro g33 w34 hS
  refine JS (cs := [nI r17, nI r18, nS A24 x19 k25, nI c20, nS A27 x21 k28, nS A30 x22 k31]) 0 hS rfl JQ rfl rfl rfl rfl rfl ?_
  intro w35 hS
  refine Jc 2 <| Jd 2 <| JD 4 JW J0 hS rfl ⟨rfl, rfl⟩ rfl <| SL.call hS (ZK (hS.ro hf) hv) XF33 rfl XN33 rfl rfl ?_
  rintro _ _ w36 ⟨r37, rfl, rfl, hv⟩ hGw36 hS
  have hS := hS.n0
  refine Jc 2 <| JA <| W.block <| Jd 2 <| JD 4 JW J0 hS rfl ⟨rfl, rfl⟩ rfl <| SL.call hS (Jfd (hS.ro hf) hv) XF34 rfl XN34 rfl rfl ?_
  rintro _ _ w38 ⟨r39, rfl, rfl, hv⟩ hGw38 hS
  have hS := hS.n0
  refine Jc 3 <| Jj rfl (fun c40 => ?_) (fun c40 => ?_)
  .have hv := hv.1 (oT c40)
   refine Jd 4 <| Jq rfl rfl ?_
   by_cases g41 : r23 = 1
   .have hv := hv.1 g41
    rw [decide_eq_true g41]
    refine WL.take rfl <| JD 0 JQ J7 hS rfl ⟨rfl, rfl⟩ rfl <| WL.take rfl <| SL.call hS (Yn (hS.rd (i := 1) rfl) (hS.rd (i := 2) rfl) (hS.rd (i := 3) rfl) hv) Jlf rfl Job rfl rfl ?_
    rintro _ _ w42 ⟨r43, rfl, rfl, hv⟩ hGw42 hS
    have hS := hS.n0
    refine Jc 3 <| W.ret <| ⟨_, rfl, Fin.nil ?_⟩
    exact (hS.pick [] rfl).fin rfl ⟨r43, rfl, rfl, hv⟩
   have hv := hv.2 g41
   rw [decide_eq_false g41]
   refine Jc 5 <| W.ret <| ⟨_, rfl, Fin.nil ?_⟩
   exact (hS.pick [] rfl).fin rfl ⟨false, rfl, rfl, hv⟩
  have hv := hv.2 (oF c40)
  refine Jd 4 <| Jq rfl rfl ?_
  by_cases g44 : n < 1
  .have hv := hv.1 g44
   rw [decide_eq_true g44]
   refine Jc 7 <| JP rfl <| Jd 4 <| Jq rfl rfl ?_
   by_cases g45 : r23 = 4
   .have hv := hv.1 g45
    rw [decide_eq_true g45]
    refine WL.take rfl <| JD 0 JQ J7 hS rfl ⟨rfl, rfl⟩ rfl <| WL.take rfl <| SL.call hS (Yn (hS.rd (i := 1) rfl) (hS.rd (i := 2) rfl) (hS.rd (i := 3) rfl) hv) Jlf rfl Job rfl rfl ?_
    rintro _ _ w46 ⟨r47, rfl, rfl, hv⟩ hGw46 hS
    have hS := hS.n0
    refine Jc 3 <| W.ret <| ⟨_, rfl, Fin.nil ?_⟩
    exact (hS.pick [] rfl).fin rfl ⟨r47, rfl, rfl, hv⟩
   have hv := hv.2 g45
   rw [decide_eq_false g45]
   refine Jc 5 <| W.ret <| ⟨_, rfl, Fin.nil ?_⟩
   exact (hS.pick [] rfl).fin rfl ⟨false, rfl, rfl, hv⟩
  have hv := hv.2 g44
  rw [decide_eq_false g44]
  refine Jc 5 <| Jmr (r := (min r37 (64 : Int))) rfl rfl rfl rfl <| Jc 5 <| Jj rfl (fun c48 => ?_) (fun c48 => ?_)
  .have hv := hv.1 (oT c48)
   refine Jd 4 <| Jq rfl rfl ?_
   by_cases g49 : r23 = 4
   .have hv := hv.1 g49
    rw [decide_eq_true g49]
    refine WL.take rfl <| JD 0 JQ J7 hS rfl ⟨rfl, rfl⟩ rfl <| WL.take rfl <| SL.call hS (Yn (hS.rd (i := 1) rfl) (hS.rd (i := 2) rfl) (hS.rd (i := 3) rfl) hv) Jlf rfl Job rfl rfl ?_
    rintro _ _ w50 ⟨r51, rfl, rfl, hv⟩ hGw50 hS
    have hS := hS.n0
    refine Jc 3 <| W.ret <| ⟨_, rfl, Fin.nil ?_⟩
    exact (hS.pick [] rfl).fin rfl ⟨r51, rfl, rfl, hv⟩
   have hv := hv.2 g49
   rw [decide_eq_false g49]
   refine Jc 5 <| W.ret <| ⟨_, rfl, Fin.nil ?_⟩
   exact (hS.pick [] rfl).fin rfl ⟨false, rfl, rfl, hv⟩
  have hv := hv.2 (oF c48)
  refine Jd 4 <| Jq rfl rfl ?_
  by_cases g52 : k < 0
  .have hv := hv.1 g52
   rw [decide_eq_true g52]
   refine Jc 6 <| JP rfl <| Jd 4 <| Jq rfl rfl ?_
   by_cases g53 : r23 = 6
   .have hv := hv.1 g53
    rw [decide_eq_true g53]
    refine WL.take rfl <| JD 0 JQ J7 hS rfl ⟨rfl, rfl⟩ rfl <| WL.take rfl <| SL.call hS (Yn (hS.rd (i := 1) rfl) (hS.rd (i := 2) rfl) (hS.rd (i := 3) rfl) hv) Jlf rfl Job rfl rfl ?_
    rintro _ _ w54 ⟨r55, rfl, rfl, hv⟩ hGw54 hS
    have hS := hS.n0
    refine Jc 3 <| W.ret <| ⟨_, rfl, Fin.nil ?_⟩
    exact (hS.pick [] rfl).fin rfl ⟨r55, rfl, rfl, hv⟩
   have hv := hv.2 g53
   rw [decide_eq_false g53]
   refine Jc 5 <| W.ret <| ⟨_, rfl, Fin.nil ?_⟩
   exact (hS.pick [] rfl).fin rfl ⟨false, rfl, rfl, hv⟩
  have hv := hv.2 g52
  rw [decide_eq_false g52]
  refine Jc 9 <| Jj rfl (fun c56 => ?_) (fun c56 => ?_)
  .have hv := hv.1 (oT c56)
   refine Jd 4 <| Jq rfl rfl ?_
   by_cases g57 : r23 = 6
   .have hv := hv.1 g57
    rw [decide_eq_true g57]
    refine WL.take rfl <| JD 0 JQ J7 hS rfl ⟨rfl, rfl⟩ rfl <| WL.take rfl <| SL.call hS (Yn (hS.rd (i := 1) rfl) (hS.rd (i := 2) rfl) (hS.rd (i := 3) rfl) hv) Jlf rfl Job rfl rfl ?_
    rintro _ _ w58 ⟨r59, rfl, rfl, hv⟩ hGw58 hS
    have hS := hS.n0
    refine Jc 3 <| W.ret <| ⟨_, rfl, Fin.nil ?_⟩
    exact (hS.pick [] rfl).fin rfl ⟨r59, rfl, rfl, hv⟩
   have hv := hv.2 g57
   rw [decide_eq_false g57]
   refine Jc 5 <| W.ret <| ⟨_, rfl, Fin.nil ?_⟩
   exact (hS.pick [] rfl).fin rfl ⟨false, rfl, rfl, hv⟩
  have hv := hv.2 (oF c56)
  refine Jr <| Jd 2 <| JD 4 JW J0 hS rfl ⟨rfl, rfl⟩ rfl <| Jq rfl rfl <| J9 (cells := #[nI Pf, nI Mf, nS Af mf kf, nI k, .slice none 0 0, .slice none 0 0]) Jcy rfl rfl rfl <| SL.alloc (cs := [nI 0, nI 0, .slice none 0 0, nI 0, .slice none 0 0, .slice none 0 0]) hS JQ rfl rfl ?_
  intro g60 w61 hS
  refine JS (cs := [nI Pf, nI Mf, nS Af mf kf, nI k, .slice none 0 0, .slice none 0 0]) 0 hS rfl JQ rfl rfl rfl rfl rfl ?_
  intro w62 hS
  refine Ja <| Jd 6 <| W.block ?_
  obtain ⟨I90, μ91, hv, hk117⟩ := hv
  have hS := hS.nil (e := 3) (z := 1)
  have hS := hS.nil (e := 3) (z := 1)
  have hS := hS.pick [1, 0, 2, 3, 4, 5, 6, 7] rfl
  have hm0 : 0 = ([] : List Int).length := (hS.rd (i := 0) rfl).ilen.symm
  have hS := hS.relen (i := 0) rfl hm0
  have hm1 : 0 = ([] : List Int).length := (hS.rd (i := 1) rfl).ilen.symm
  have hS := hS.relen (i := 1) rfl hm1
  change St _ _ _ _ [_, _, _, _, _, _, _, _] at hS
  refine JE (σ := List Int × List Int × Int × Option Addr × Nat × Option Addr × Nat) (fun q w1 => match q with | (x81, x85, z89, A82, k83, A86, k87) => I90 x81 x85 z89 /\ St TT w none w1 [nR 3 A82 x81 k83, nR 3 A86 x85 k87, .row 48 6 (nA g60) 1 1 [nI Pf, nI Mf, nS Af mf kf, nI k, nS A82 x81 k83, nS A86 x85 k87], .row 48 6 (nA g33) 1 1 [nI r17, nI r18, nS A24 x19 k25, nI c20, nS A27 x21 k28, nS A30 x22 k31], nR 3 A24 x19 k25, nR 3 A27 x21 k28, nR 3 A30 x22 k31, .row 24 3 (nA g11) 1 1 [nI Pf, nI Mf, nS Af mf kf]]) (fun (x81, x85, z89, A82, k83, A86, k87) => [(6, .bool false), (7, nP g33), (8, nI r23), (10, nP g60), (65, nI n), (66, nI z89)]) (fun (x81, x85, z89, A82, k83, A86, k87) => μ91 x81 x85 z89) (([] : List Int), ([] : List Int), (0 : Int), none, 0, none, 0) ⟨hv, hS⟩ ⟨rfl, rfl, rfl, rfl, rfl, rfl, trivial⟩ ?_
  rintro ⟨x81, x85, z89, A82, k83, A86, k87⟩ w92 ⟨hv, hS⟩
  have hv := hk117 x81 x85 z89 hv
  refine Jd 5 <| Jj rfl (fun c93 => ?_) (fun c93 => ?_)
  .have hv := hv.1 (oT c93)
   refine Jr <| JA <| W.block <| Jd 7 <| Jb (off := 4) Ju rfl rfl <| Jp 2 4 Jh hS rfl rfl rfl ⟨rfl, rfl⟩ <| Jq rfl rfl <| JL (vs := is ([z89] : List Int)) hS Jh XE3 rfl rfl rfl rfl (Jm _) rfl ?_
   intro A94 w95 hS
   obtain ⟨o97, hv⟩ := hv
   refine SL.append (cs := is x81) (cs' := is ([z89] : List Int)) 1 ((x81 ++ ([z89] : List Int)).length) (is (x81 ++ ([z89] : List Int))) hS rfl Jh XE3 (hS.rd (i := 0) rfl) (Jm _) rfl rfl (apk o97).1 (apk o97).2 (Jy (hS.rd (i := 1) rfl) (hS.rd (i := 0) rfl)) (Ji _ _) rfl ?_
   intro A98 k99 w100 hS
   refine Jb (off := 4) Ju rfl rfl <| Jf (cs' := [nI Pf, nI Mf, nS Af mf kf, nI k, .slice A98 ((x81 ++ ([z89] : List Int)).length) k99, nS A86 x85 k87]) 3 4 hS rfl Jz rfl rfl rfl (Jk rfl) rfl ?_
   intro w101 hS
   refine Ja <| JI <| Jb (off := 5) Jv rfl rfl <| Jp 3 5 Jh hS rfl rfl rfl ⟨rfl, rfl⟩ <| JL (vs := is ([(1 : Int)] : List Int)) hS Jh XE3 rfl rfl rfl rfl (Jm _) rfl ?_
   intro A102 w103 hS
   obtain ⟨o105, hv⟩ := hv
   refine SL.append (cs := is x85) (cs' := is ([(1 : Int)] : List Int)) 3 ((x85 ++ ([(1 : Int)] : List Int)).length) (is (x85 ++ ([(1 : Int)] : List Int))) hS rfl Jh XE3 (hS.rd (i := 0) rfl) (Jm _) rfl rfl (apk o105).1 (apk o105).2 (Jy (hS.rd (i := 3) rfl) (hS.rd (i := 0) rfl)) (Ji _ _) rfl ?_
   intro A106 k107 w108 hS
   refine Jb (off := 5) Jv rfl rfl <| Jf (cs' := [nI Pf, nI Mf, nS Af mf kf, nI k, .slice A98 ((x81 ++ ([z89] : List Int)).length) k99, .slice A106 ((x85 ++ ([(1 : Int)] : List Int)).length) k107]) 4 5 hS rfl Jz rfl rfl rfl (Jk rfl) rfl ?_
   intro w109 hS
   refine Ja <| JI ?_
   obtain ⟨o110, hv⟩ := hv
   refine WL.add (r := (z89 + 1)) rfl rfl (wr o110) rfl <| Jc 2 ?_
   have hS := hS.pick [2, 3, 4, 5, 6, 7, 8, 9] rfl
   exact ⟨(x81 ++ ([z89] : List Int), x85 ++ ([(1 : Int)] : List Int), (z89 + 1), A98, k99, A106, k107), sp rfl, hv.2, rfl, hv.1, hS⟩
  have hv := hv.2 (oF c93)
  refine JB <| Jd 4 <| Jq rfl rfl ?_
  by_cases g111 : r23 = 0
  .have hv := hv.1 g111
   rw [decide_eq_true g111]
   refine WL.take rfl <| JD 3 JQ J7 hS rfl ⟨rfl, rfl⟩ rfl <| WL.take rfl <| JD 2 JQ J7 hS rfl ⟨rfl, rfl⟩ rfl <| WL.take rfl <| SL.call hS (ZJ (hS.rd (i := 4) rfl) (hS.rd (i := 5) rfl) (hS.rd (i := 6) rfl) (hS.ro hf) (hS.rd (i := 0) rfl) (hS.rd (i := 1) rfl) hv) XF36 rfl XN36 rfl rfl ?_
   rintro _ _ w112 ⟨r113, rfl, rfl, hv⟩ hGw112 hS
   have hS := hS.n0
   refine WL.pick rfl rfl rfl <| Jq rfl rfl ?_
   cases g114 : r113
   .have hv := hv.2 g114
    refine Jc 6 <| W.ret <| ⟨_, rfl, Fin.nil ?_⟩
    exact (hS.pick [] rfl).fin rfl ⟨false, rfl, rfl, hv⟩
   have hv := hv.1 g114
   refine WL.take rfl <| JD 3 JQ J7 hS rfl ⟨rfl, rfl⟩ rfl <| WL.take rfl <| SL.call hS (Yr (hS.rd (i := 4) rfl) (hS.rd (i := 5) rfl) (hS.rd (i := 6) rfl) hv) Joe rfl XN31 rfl rfl ?_
   rintro _ _ w115 ⟨r116, rfl, rfl, hv⟩ hGw115 hS
   have hS := hS.n0
   refine Jc 5 <| W.ret <| ⟨_, rfl, Fin.nil ?_⟩
   exact (hS.pick [] rfl).fin rfl ⟨(decide (r116 = 0)), rfl, rfl, hv⟩
  have hv := hv.2 g111
  rw [decide_eq_false g111]
  refine Jc 11 <| W.ret <| ⟨_, rfl, Fin.nil ?_⟩
  exact (hS.pick [] rfl).fin rfl ⟨false, rfl, rfl, hv⟩
end Go.Proofs.Ytppkigdakobebaa
set_option linter.unusedVariables false
set_option linter.unusedSimpArgs false
namespace Go.Proofs.Ytppkigdakobebaa
open Ks
/-! ### generalized Reed-Solomon codes: the laws -/
section
variable {P M : Int} {mf : List Int} {k k' : Ks} {F : GFv} {K : Int} {da db : List Int}
theorem Jco (P M : Int) (mf : List Int) (n K : Int) : ZD P M mf n K (fun b => b = true) := by
  have z : ∀ {Q : Bool -> Prop}, Q true -> QF 0 0 [] 0 [] [] Q := Je3
  have one : ∀ {A B : Prop} {a : Int}, A -> ((a = a -> A) /\ (¬ (a = a) -> B)) := fun h => ⟨fun _ => h, fun c => absurd rfl c⟩
  refine YG (zT (Jdh (fun hn => ?_) (fun hV hc => ?_) (fun hV h1 h2 hc => ?_) fun k N hF hN h1 h64 hq h0 hK => ?_))
  . exact Yp (Zn (by rw [QX hn]; exact ⟨fun _ => one (z rfl), fun c => absurd (by decide) c⟩))
  . refine Yp (Zn ?_)
    rw [Ja3 hV]
    have h4 : min (Q1 P M) 64 = min 64 (Q1 P M) := by omega
    refine ⟨fun c => absurd rfl c, fun _ => ⟨fun _ => one (z rfl), fun c1 => ?_⟩⟩
    dsimp only
    exact ⟨fun _ => one (z rfl), fun c => by omega⟩
  . refine Yp (Zn ?_)
    rw [Ja3 hV]
    refine ⟨fun c => absurd rfl c, fun _ => ⟨fun c => by omega, fun _ => ?_⟩⟩
    dsimp only
    exact ⟨fun c => by omega, fun _ => ⟨fun _ => one (z rfl), fun c => ⟨fun _ => one (z rfl), fun d => by omega⟩⟩⟩
  . have hV : Qh P M mf := ⟨_, _, _, hF⟩
    have ho := hF.ord
    refine Yp (Zn ?_)
    rw [Ja3 hV, ho]
    dsimp only
    refine ⟨fun c => absurd rfl c, fun _ => ⟨fun c => by omega, fun _ => ⟨fun c => by omega, fun _ => ⟨fun c => by omega, fun _ => ⟨fun c => by omega, fun _ => ?_⟩⟩⟩⟩⟩
    subst hN
    refine ⟨fun x y z => ∃ j : Nat, z = j /\ j <= N /\ x = SA j /\ y = List.replicate j 1, fun _ _ z => ((N : Int) - z).toNat, ⟨0, rfl, Nat.zero_le _, rfl, rfl⟩, ?_⟩
    rintro _ _ _ ⟨j, rfl, hj, rfl, rfl⟩
    have hl := Jcc j
    have hl2 : (List.replicate j (1 : Int)).length = j := List.length_replicate
    refine ⟨fun hlt => ⟨by omega, by omega, Jw (by omega) (by omega), ⟨j + 1, by push_cast; rfl, by omega, Jm1 j, Jmz j⟩, by show ((N : Int) - ((j : Int) + 1)).toNat < ((N : Int) - (j : Int)).toNat; omega⟩, fun hge => ?_⟩
    have : j = N := by omega
    subst this
    have hm := Jkc hF
    refine one (Jan (by omega) (by omega) (by omega) ?_)
    rw [decide_eq_true ⟨rfl, rfl, rfl, rfl, rfl, rfl⟩]
    refine tT (Qz ?_)
    exact decide_eq_true ((Jry h1 h64 hq h0 hK).ck hF)
end
end Go.Proofs.Ytppkigdakobebaa
