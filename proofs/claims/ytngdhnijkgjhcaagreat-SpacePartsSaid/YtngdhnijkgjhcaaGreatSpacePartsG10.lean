/- Contracts of functions of the program, and what they lean on: D17, D19, Fa, Fb, Fg, Fp, Fk, Fc, V1. -/
import Derived.Test.YtngdhnijkgjhcaaGreatSpacePartsG9
set_option linter.unusedSimpArgs false
set_option linter.unusedVariables false
set_option maxRecDepth 4000
set_option maxHeartbeats 4000000
namespace Go.Proofs.YtngdhnijkgjhcaaGreat
open Go.RowKit
def ZQ (Pf : Int) (Mf : Int) (mf : List Int) (Ca : Int) (a : List (List Int)) (Q : Int -> Prop) : Prop :=
  Jbn Pf Mf mf Ca a (fun r16 => ((r16 ≠ (0 : Int)) -> Q r16) /\ (¬ (r16 ≠ (0 : Int)) -> (Ja7 Pf Mf mf a Ca (fun q => match q with | (x19, x20) => Qy x19 a (fun r29 => (((!r29) = true) -> (Q (5 : Int))) /\ ((!r29) = false -> (Q (0 : Int))))))))
theorem Jgl {w : World} {Q : Int -> Prop} {Pf : Int} {Mf : Int} {mf : List Int} {Ca : Int} {a : List (List Int)} {Bf : Nat} {Af : Option Addr} {nf kf : Nat} (hf : Rd Bf w 1 Af nf kf (is mf)) {Aa : Option Addr} {na ka : Nat} (ha : Rl w Aa na ka a) (hv : ZQ Pf Mf mf Ca a Q) :
   Calls Tryz.prog 21 #[.agg #[.int .i64 Pf, .int .i64 Mf, .slice Af nf kf], .agg #[.int .i64 Ca, .slice Aa na ka]] w fun e w' => ∃ v Qr, e = .returned v /\ w.grownBy w' none /\ Rows w.heap.size none w' Qr /\ News w.heap.size Qr /\ ∃ (r0 : Int), v = .int .i64 r0 /\ Qr = [] /\ Q r0 := by
 have hnf := hf.ilen; subst hnf; have hna := ha.len; subst hna; obtain ⟨hsa, hHa⟩ := ha.heads; refine Jl <| Jk (vs := [.agg #[nI Pf, nI Mf, nS Af mf kf], .agg #[nI Ca, nS Aa a ka]]) [4] XF21 rfl rfl rfl rfl ?_; have hS := Jq w; unfold ZQ at hv; refine Jd 2 <| JA (z := 3) (cs := [nI Pf, nI Mf, nS Af mf kf]) hS rfl rfl rfl rfl ?_; intro g11 w12 hS; refine JA (z := 2) (cs := [nI Ca, nS Aa a ka]) hS rfl rfl rfl rfl ?_; intro g13 w14 hS; refine Jb 2 <| Jd 2 <| Jh (cs := [nI Pf, nI Mf, nS Af mf kf]) JS JU rfl rfl (Jc (hS.own (i := 1) rfl)) rfl <| Jh (cs := [nI Ca, nS Aa a ka]) Jw JL rfl rfl (Jc (hS.own (i := 0) rfl)) rfl <| SL.call hS (Jnx (hS.ro hf) (RlH.rl (RlH.ext hHa hS.ext)) hv) XF54 rfl XN54 rfl rfl ?_; rintro _ _ w15 ⟨r16, rfl, rfl, hv⟩ hGw15 hS; have hS := hS.n0; refine Jb 2 <| Jd 6 <| Ji rfl (fun c17 => ?_) (fun c17 => ?_)
 .have hv := hv.1 (oT c17); refine Jd 5 <| W.ret <| ⟨_, rfl, Fin.nil ?_⟩
  exact (hS.pick [] rfl).fin rfl ⟨r16, rfl, rfl, hv⟩
 have hv := hv.2 (oF c17); refine Jn <| Jd 2 <| Jh (cs := [nI Pf, nI Mf, nS Af mf kf]) JS JU rfl rfl (Jc (hS.own (i := 1) rfl)) rfl <| Jf (off := 1) JK rfl rfl <| Jp 0 1 Jv hS rfl rfl rfl ⟨rfl, rfl⟩ <| Jf (off := 0) J7 rfl rfl <| Jp 0 0 XU3 hS rfl rfl rfl ⟨rfl, rfl⟩ <| SL.call hS (Jie (hS.ro hf) (RlH.rl (RlH.ext hHa hS.ext)) hv) XF48 rfl XN48 rfl rfl ?_; rintro _ _ w18 ⟨x19, x20, A21, k22, hs23, A25, k26, rfl, rfl, hv⟩ hGw18 hS; have hS := hS.n2; refine Jb 6 <| Jd 4 <| Jf (off := 1) JK rfl rfl <| Jp 2 1 Jv hS rfl rfl rfl ⟨rfl, rfl⟩ <| SL.call hS (Q6 (hS.rl (i := 0) rfl) (RlH.rl (RlH.ext hHa hS.ext)) hv) Jo1 rfl Jty rfl rfl ?_; rintro _ _ w28 ⟨r29, rfl, rfl, hv⟩ hGw28 hS; have hS := hS.n0; refine Jb 2 <| Ji rfl (fun c30 => ?_) (fun c30 => ?_)
 .have hv := hv.1 (c30); refine Jd 4 <| W.ret <| ⟨_, rfl, Fin.nil ?_⟩
  exact (hS.pick [] rfl).fin rfl ⟨(5 : Int), rfl, rfl, hv⟩
 have hv := hv.2 (c30); refine Jn <| Jd 4 <| W.ret <| ⟨_, rfl, Fin.nil ?_⟩
 exact (hS.pick [] rfl).fin rfl ⟨(0 : Int), rfl, rfl, hv⟩
def Jfo (Pf : Int) (Mf : Int) (mf : List Int) (Ca : Int) (a : List (List Int)) (Cb : Int) (b : List (List Int)) (Q : Int -> Prop) : Prop :=
  ZQ Pf Mf mf Ca a (fun r18 => ∃ J20 : Int -> Prop, (((r18 = (0 : Int)) -> (ZQ Pf Mf mf Cb b (fun r23 => J20 r23))) /\ (¬ (r18 = (0 : Int)) -> J20 r18)) /\ ∀ (z19 : Int), (J20 z19 -> (((z19 = (0 : Int)) -> (((Ca ≠ Cb) -> (Q (10 : Int))) /\ (¬ (Ca ≠ Cb) -> Q z19))) /\ (¬ (z19 = (0 : Int)) -> Q z19))))
theorem Jxx {w : World} {Q : Int -> Prop} {Pf : Int} {Mf : Int} {mf : List Int} {Ca : Int} {a : List (List Int)} {Cb : Int} {b : List (List Int)} {Bf : Nat} {Af : Option Addr} {nf kf : Nat} (hf : Rd Bf w 1 Af nf kf (is mf)) {Aa : Option Addr} {na ka : Nat} (ha : Rl w Aa na ka a) {Ab : Option Addr} {nb kb : Nat} (hb : Rl w Ab nb kb b) (hv : Jfo Pf Mf mf Ca a Cb b Q) :
   Calls Tryz.prog 47 #[.agg #[.int .i64 Pf, .int .i64 Mf, .slice Af nf kf], .agg #[.int .i64 Ca, .slice Aa na ka], .agg #[.int .i64 Cb, .slice Ab nb kb]] w fun e w' => ∃ v Qr, e = .returned v /\ w.grownBy w' none /\ Rows w.heap.size none w' Qr /\ News w.heap.size Qr /\ ∃ (r0 : Int), v = .int .i64 r0 /\ Qr = [] /\ Q r0 := by
 have hnf := hf.ilen; subst hnf; have hna := ha.len; subst hna; obtain ⟨hsa, hHa⟩ := ha.heads; have hnb := hb.len; subst hnb; obtain ⟨hsb, hHb⟩ := hb.heads; refine Jl <| Jk (vs := [.agg #[nI Pf, nI Mf, nS Af mf kf], .agg #[nI Ca, nS Aa a ka], .agg #[nI Cb, nS Ab b kb]]) [6] XF47 rfl rfl rfl rfl ?_; have hS := Jq w; unfold Jfo at hv; refine Jd 2 <| JA (z := 3) (cs := [nI Pf, nI Mf, nS Af mf kf]) hS rfl rfl rfl rfl ?_; intro g11 w12 hS; refine JA (z := 2) (cs := [nI Ca, nS Aa a ka]) hS rfl rfl rfl rfl ?_; intro g13 w14 hS; refine JA (z := 2) (cs := [nI Cb, nS Ab b kb]) hS rfl rfl rfl rfl ?_; intro g15 w16 hS; refine Jb 2 <| Jd 2 <| Jh (cs := [nI Pf, nI Mf, nS Af mf kf]) JS JU rfl rfl (Jc (hS.own (i := 2) rfl)) rfl <| Jh (cs := [nI Ca, nS Aa a ka]) Jw JL rfl rfl (Jc (hS.own (i := 1) rfl)) rfl <| SL.call hS (Jgl (hS.ro hf) (RlH.rl (RlH.ext hHa hS.ext)) hv) XF21 rfl XN21 rfl rfl ?_; rintro _ _ w17 ⟨r18, rfl, rfl, hv⟩ hGw17 hS; have hS := hS.n0; refine Jb 2 <| Jd 6 ?_; obtain ⟨J20, hv, hk27⟩ := hv; refine Qp (σ := Int) (fun z19 w1 => J20 z19 /\ St TT w none w1 [.row 27 2 (nA g15) 1 1 [nI Cb, nS Ab b kb], .row 27 2 (nA g13) 1 1 [nI Ca, nS Aa a ka], .row 24 3 (nA g11) 1 1 [nI Pf, nI Mf, nS Af mf kf]]) (fun z19 => [(4, nP g13), (5, nP g15), (6, nI 0), (7, nI z19)]) ?_ ?_
 .refine Ji rfl (fun c21 => ?_) (fun c21 => ?_)
  .have hv := hv.1 (oT c21); refine JB <| Jh (cs := [nI Pf, nI Mf, nS Af mf kf]) JS JU rfl rfl (Jc (hS.own (i := 2) rfl)) rfl <| Jh (cs := [nI Cb, nS Ab b kb]) Jw JL rfl rfl (Jc (hS.own (i := 0) rfl)) rfl <| SL.call hS (Jgl (hS.ro hf) (RlH.rl (RlH.ext hHb hS.ext)) hv) XF21 rfl XN21 rfl rfl ?_; rintro _ _ w22 ⟨r23, rfl, rfl, hv⟩ hGw22 hS; have hS := hS.n0; refine Jb 2 ?_; exact ⟨r23, ⟨rfl, rfl, rfl, rfl, trivial⟩, rfl, hv, hS⟩
  have hv := hv.2 (oF c21); refine Jn ?_; exact ⟨r18, ⟨rfl, rfl, rfl, rfl, trivial⟩, rfl, hv, hS⟩
 rintro z19 w24 ⟨hv, hS⟩; have hv := hk27 z19 hv; refine Jd 5 <| Jo rfl rfl ?_; by_cases g25 : z19 = (0 : Int)
 .have hv := hv.1 g25; rw [decide_eq_true g25]; refine WL.take rfl <| Jf (off := 0) J7 rfl rfl <| WL.take rfl <| Jp 1 0 XU3 hS rfl rfl rfl ⟨rfl, rfl⟩ <| WL.take rfl <| Jf (off := 0) J7 rfl rfl <| WL.take rfl <| Jp 0 0 XU3 hS rfl rfl rfl ⟨rfl, rfl⟩ <| Jb 4 <| Ji rfl (fun c26 => ?_) (fun c26 => ?_)
  .have hv := hv.1 (oT c26); refine Jd 4 <| W.ret <| ⟨_, rfl, Fin.nil ?_⟩
   exact (hS.pick [] rfl).fin rfl ⟨(10 : Int), rfl, rfl, hv⟩
  have hv := hv.2 (oF c26); refine Jn <| Jd 5 <| W.ret <| ⟨_, rfl, Fin.nil ?_⟩
  exact (hS.pick [] rfl).fin rfl ⟨z19, rfl, rfl, hv⟩
 have hv := hv.2 g25; rw [decide_eq_false g25]; refine Jb 7 <| QD rfl <| Jn <| Jd 5 <| W.ret <| ⟨_, rfl, Fin.nil ?_⟩
 exact (hS.pick [] rfl).fin rfl ⟨z19, rfl, rfl, hv⟩
def Jao (l : List (List Int)) (Q : List Int -> Prop) : Prop :=
  ∃ (I26 : List Int -> Int -> Prop) (μ27 : List Int -> Int -> Nat), I26 ([] : List Int) (0 : Int) /\ ∀ (x21 : List Int) (z25 : Int), (I26 x21 z25 -> (((z25 < (l.length : Int)) -> (∃ J35 : List Int -> Int -> Bool -> Prop, (∃ J38 : Int -> Bool -> Prop, (∃ (I42 : Int -> Prop) (μ43 : Int -> Nat), I42 (0 : Int) /\ ∀ (z41 : Int), (I42 z41 -> ((0 <= z25 /\ z25 < (l.length : Nat)) /\ (((z41 < (((gl l z25).length : Nat) : Int)) -> ((0 <= z25 /\ z25 < (l.length : Nat)) /\ ((0 <= z41 /\ z41 < ((gl l z25).length : Nat)) /\ ((((gi (gl l z25) z41) = (0 : Int)) -> ((I64 (z41 + (1 : Int))) /\ (I42 (z41 + (1 : Int)) /\ μ43 (z41 + (1 : Int)) < μ43 z41))) /\ (¬ ((gi (gl l z25) z41) = (0 : Int)) -> (J38 z41 (decide ((gi (gl l z25) z41) = (0 : Int))))))))) /\ (¬ (z41 < (((gl l z25).length : Nat) : Int)) -> J38 z41 false))))) /\ ∀ (z36 : Int) (b37 : Bool), (J38 z36 b37 -> ((((x21.length : Nat) + (1 : Nat) : Int) * 8 <= 140737488355328) /\ (J35 (x21 ++ ([z36] : List Int)) z36 b37)))) /\ ∀ (x30 : List Int) (z33 : Int) (b34 : Bool), (J35 x30 z33 b34 -> ((I64 (z25 + (1 : Int))) /\ (I26 x30 (z25 + (1 : Int)) /\ μ27 x30 (z25 + (1 : Int)) < μ27 x21 z25))))) /\ (¬ (z25 < (l.length : Int)) -> Q x21)))
theorem Jll {w : World} {Q : List Int -> Prop} {l : List (List Int)} {Al : Option Addr} {nl kl : Nat} (hl : Rl w Al nl kl l) (hv : Jao l Q) :
   Calls Tryz.prog 64 #[.slice Al nl kl] w fun e w' => ∃ v Qr, e = .returned v /\ w.grownBy w' none /\ Rows w.heap.size none w' Qr /\ News w.heap.size Qr /\ ∃ (x : List Int)  (A : Option Addr) (c : Nat), v = .slice A x.length c /\ Qr = [.row 3 1 A x.length c (is x)] /\ Q x := by
 have hnl := hl.len; subst hnl; obtain ⟨hsl, hHl⟩ := hl.heads; refine Jl <| Jk (vs := [nS Al l kl]) [2] XF64 rfl rfl rfl rfl ?_; have hS := Jq w; unfold Jao at hv; refine Jd 13 <| W.block ?_; obtain ⟨I26, μ27, hv, hk64⟩ := hv; have hS := hS.nil (e := 3) (z := 1); have hm0 : 0 = ([] : List Int).length := (hS.rd (i := 0) rfl).ilen.symm; have hS := hS.relen (i := 0) rfl hm0
 change St _ _ _ _ [_] at hS
 refine JF (σ := List Int × Int × Option Addr × Nat) (fun q w1 => match q with | (x21, z25, A22, k23) => I26 x21 z25 /\ St TT w none w1 [nR 3 A22 x21 k23]) (fun q => match q with | (x21, z25, A22, k23) => [(0, nS Al l kl), (2, .slice none 0 0), (3, nS A22 x21 k23), (4, nI z25)]) (fun q => match q with | (x21, z25, A22, k23) => μ27 x21 z25) (([] : List Int), (0 : Int), none, 0) ⟨hv, hS⟩ ⟨rfl, rfl, (sm (by first | rfl | assumption | omega)), rfl, trivial⟩ ?_; rintro ⟨x21, z25, A22, k23⟩ w28 ⟨hv, hS⟩; have hv := hk64 x21 z25 hv; refine Jd 5 <| WL.len Jv rfl rfl <| Jb 2 <| Ji rfl (fun c29 => ?_) (fun c29 => ?_)
 .have hv := hv.1 (oT c29); refine Jn <| Jy ?_; obtain ⟨J35, hv, hk63⟩ := hv; refine Qp (σ := List Int × Int × Bool × Option Addr × Nat) (fun q w1 => match q with | (x30, z33, b34, A31, k32) => J35 x30 z33 b34 /\ St TT w none w1 [nR 3 A31 x30 k32]) (fun q => match q with | (x30, z33, b34, A31, k32) => [(0, nS Al l kl), (2, .slice none 0 0), (3, nS A31 x30 k32), (4, nI z25), (5, nI z33), (9, .bool (decide (z25 < (l.length : Int)))), (28, .bool b34)]) ?_ ?_
  .refine W.block ?_; refine Jd 5 ?_; obtain ⟨J38, hv, hk60⟩ := hv; refine Qp (σ := Int × Bool) (fun q w1 => match q with | (z36, b37) => J38 z36 b37 /\ St TT w none w1 [nR 3 A22 x21 k23]) (fun q => match q with | (z36, b37) => [(0, nS Al l kl), (2, .slice none 0 0), (3, nS A22 x21 k23), (4, nI z25), (5, nI z36), (9, .bool (decide (z25 < (l.length : Int)))), (28, .bool b37)]) ?_ ?_
   .refine W.block ?_; obtain ⟨I42, μ43, hv, hk51⟩ := hv; refine JF (σ := Int) (fun z41 w1 => I42 z41 /\ St TT w none w1 [nR 3 A22 x21 k23]) (fun z41 => [(0, nS Al l kl), (2, .slice none 0 0), (3, nS A22 x21 k23), (4, nI z25), (5, nI z41), (9, .bool (decide (z25 < (l.length : Int))))]) (fun z41 => μ43 z41) (0 : Int) ⟨hv, hS⟩ ⟨rfl, rfl, rfl, rfl, rfl, rfl, trivial⟩ ?_; rintro z41 w44 ⟨hv, hS⟩; have hv := hk51 z41 hv; refine Jd 6 ?_; obtain ⟨o45, hv⟩ := hv; refine JT Jv Jz hHl rfl rfl o45 rfl <| Jm Jr rfl rfl (hS.cell (RlH.cell hHl o45)) rfl <| WL.len Jr rfl rfl <| QO rfl rfl rfl <| Jo rfl rfl ?_; by_cases g46 : z41 < (((gl l z25).length : Nat) : Int)
    .have hv := hv.1 g46; rw [decide_eq_true g46]; refine Jb 5 ?_; obtain ⟨o47, hv⟩ := hv; refine JT Jv Jz hHl rfl rfl o47 rfl <| WL.take rfl <| Jm Jr rfl rfl (hS.cell (RlH.cell hHl o47)) rfl <| Jb 3 ?_; obtain ⟨o48, hv⟩ := hv; refine Jj Jr XE3 (hS.ro (JY hHl o47)) rfl rfl o48 rfl <| WL.take rfl <| Jm XU3 rfl rfl (JN (hS.ro (JY hHl o47)) o48) rfl <| Jb 4 <| Ji rfl (fun c49 => ?_) (fun c49 => ?_)
     .have hv := hv.1 (oT c49); refine Jn <| W.block <| Jd 2 ?_; obtain ⟨o50, hv⟩ := hv; refine WL.add (r := (z41 + (1 : Int))) rfl rfl (wr o50) rfl <| Jb 2 ?_; exact ⟨(z41 + (1 : Int)), ⟨rfl, rfl, rfl, rfl, rfl, rfl, trivial⟩, hv.2, rfl, hv.1, hS⟩
     have hv := hv.2 (oF c49); refine JD ?_; exact ⟨(z41, (decide ((gi (gl l z25) z41) = (0 : Int)))), ⟨rfl, rfl, rfl, rfl, rfl, rfl, rfl, trivial⟩, rfl, hv, hS⟩
    have hv := hv.2 g46; rw [decide_eq_false g46]; refine Jb 10 <| QD rfl <| JD ?_; exact ⟨(z41, false), ⟨rfl, rfl, rfl, rfl, rfl, rfl, rfl, trivial⟩, rfl, hv, hS⟩
   rintro ⟨z36, b37⟩ w52 ⟨hv, hS⟩; have hv := hk60 z36 b37 hv; refine Jd 3 <| JZ (vs := is ([z36] : List Int)) hS Jr XE3 rfl rfl rfl rfl (J5 _) rfl ?_; intro A53 w54 hS; obtain ⟨o56, hv⟩ := hv; refine SL.append (cs := is x21) (cs' := is ([z36] : List Int)) 1 ((x21 ++ ([z36] : List Int)).length) (is (x21 ++ ([z36] : List Int))) hS rfl Jr XE3 (hS.rd (i := 0) rfl) (J5 _) rfl rfl (apk o56).1 (apk o56).2 (ZO (hS.rd (i := 1) rfl) (hS.rd (i := 0) rfl)) (Qu _ _) rfl ?_; intro A57 k58 w59 hS; refine Jb 2 ?_; have hS := hS.pick [1] rfl; exact ⟨(x21 ++ ([z36] : List Int), z36, b37, A57, k58), ⟨rfl, rfl, rfl, rfl, rfl, rfl, rfl, trivial⟩, rfl, hv, hS⟩
  rintro ⟨x30, z33, b34, A31, k32⟩ w61 ⟨hv, hS⟩; have hv := hk63 x30 z33 b34 hv; refine Jd 2 ?_; obtain ⟨o62, hv⟩ := hv; refine WL.add (r := (z25 + (1 : Int))) rfl rfl (wr o62) rfl <| Jb 2 ?_; exact ⟨(x30, (z25 + (1 : Int)), A31, k32), ⟨rfl, rfl, rfl, rfl, trivial⟩, hv.2, rfl, hv.1, hS⟩
 have hv := hv.2 (oF c29); refine JD <| Jd 5 <| W.ret <| ⟨_, rfl, Fin.nil ?_⟩
 exact (hS.pick [0] rfl).fin rfl ⟨x21, A22, k23, rfl, rfl, hv⟩
def Ja6 (Pf : Int) (Mf : Int) (mf : List Int) (l : List (List Int)) (y : List Int) (Q : List Int -> Prop) : Prop :=
  Jao l (fun x14 => (((0 : Nat) + (y.length : Nat) : Int) * 8 <= 140737488355328) /\ (∃ (I40 : List Int -> Int -> Prop) (μ41 : List Int -> Int -> Nat), I40 (([] : List Int) ++ y) (0 : Int) /\ ∀ (x35 : List Int) (z39 : Int), (I40 x35 z39 -> (((z39 < (l.length : Int)) -> ((0 <= z39 /\ z39 < (x14.length : Nat)) /\ ((0 <= (gi x14 z39) /\ (gi x14 z39) < (y.length : Nat)) /\ (∃ (r57 : Int), Jeg Pf Mf mf (gi y (gi x14 z39)) (fun q => q = r57) /\ ((0 <= z39 /\ z39 < (l.length : Nat)) /\ (∃ (x66 : List Int), Ja8 Pf Mf mf x35 r57 (gl l z39) (fun q => q = x66) /\ ((I64 (z39 + (1 : Int))) /\ (I40 x66 (z39 + (1 : Int)) /\ μ41 x66 (z39 + (1 : Int)) < μ41 x35 z39)))))))) /\ (¬ (z39 < (l.length : Int)) -> Q x35)))))
theorem Jid {w : World} {Q : List Int -> Prop} {Pf : Int} {Mf : Int} {mf : List Int} {l : List (List Int)} {y : List Int} {Bf : Nat} {Af : Option Addr} {nf kf : Nat} (hf : Rd Bf w 1 Af nf kf (is mf)) {Al : Option Addr} {nl kl : Nat} (hl : Rl w Al nl kl l) {By : Nat} {Ay : Option Addr} {ny ky : Nat} (hy : Rd By w 1 Ay ny ky (is y)) (hv : Ja6 Pf Mf mf l y Q) :
   Calls Tryz.prog 59 #[.agg #[.int .i64 Pf, .int .i64 Mf, .slice Af nf kf], .slice Al nl kl, .slice Ay ny ky] w fun e w' => ∃ v Qr, e = .returned v /\ w.grownBy w' none /\ Rows w.heap.size none w' Qr /\ News w.heap.size Qr /\ ∃ (x : List Int)  (A : Option Addr) (c : Nat), v = .slice A x.length c /\ Qr = [.row 3 1 A x.length c (is x)] /\ Q x := by
 have hnf := hf.ilen; subst hnf; have hnl := hl.len; subst hnl; obtain ⟨hsl, hHl⟩ := hl.heads; have hny := hy.ilen; subst hny; refine Jl <| Jk (vs := [.agg #[nI Pf, nI Mf, nS Af mf kf], nS Al l kl, nS Ay y ky]) [6] XF59 rfl rfl rfl rfl ?_; have hS := Jq w; unfold Ja6 at hv; refine Jd 2 <| JA (z := 3) (cs := [nI Pf, nI Mf, nS Af mf kf]) hS rfl rfl rfl rfl ?_; intro g11 w12 hS; refine Jb 2 <| Jd 3 <| SL.call hS (Jll (RlH.rl (RlH.ext hHl hS.ext)) hv) XF64 rfl XN64 rfl rfl ?_; rintro _ _ w13 ⟨x14, A15, k16, rfl, rfl, hv⟩ hGw13 hS; have hS := hS.n1; refine Jb 2 <| Jd 2 <| JZ (vs := is ([] : List Int)) hS Jr XE3 rfl rfl rfl rfl (J5 _) rfl ?_; intro A18 w19 hS; refine Jo rfl rfl ?_; obtain ⟨o21, hv⟩ := hv; refine SL.append (cs := is ([] : List Int)) (cs' := is y) 0 ((([] : List Int) ++ y).length) (is (([] : List Int) ++ y)) hS rfl Jr XE3 (hS.ro hy) (J5 _) rfl rfl (apk o21).1 (apk o21).2 (ZO (hS.rd (i := 0) rfl) (hS.ro hy)) (Qu _ _) rfl ?_; intro A22 k23 w24 hS; refine Jb 2 <| Jd 5 <| W.block ?_; obtain ⟨I40, μ41, hv, hk78⟩ := hv; refine JF (σ := List Int × Int × Option Addr × Nat) (fun q w1 => match q with | (x35, z39, A36, k37) => I40 x35 z39 /\ St TT w none w1 [nR 3 A36 x35 k37, nR 3 A15 x14 k16, .row 24 3 (nA g11) 1 1 [nI Pf, nI Mf, nS Af mf kf]]) (fun q => match q with | (x35, z39, A36, k37) => [(1, nS Al l kl), (2, nS Ay y ky), (3, nP g11), (6, .slice none 0 0), (7, nS A15 x14 k16), (8, nS A36 x35 k37), (9, nI z39)]) (fun q => match q with | (x35, z39, A36, k37) => μ41 x35 z39) (([] : List Int) ++ y, (0 : Int), A22, k23) ⟨hv, hS⟩ ⟨rfl, rfl, rfl, rfl, rfl, rfl, rfl, trivial⟩ ?_; rintro ⟨x35, z39, A36, k37⟩ w42 ⟨hv, hS⟩; have hv := hk78 x35 z39 hv; refine Jd 5 <| WL.len Jv rfl rfl <| Jb 2 <| Ji rfl (fun c43 => ?_) (fun c43 => ?_)
 .have hv := hv.1 (oT c43); refine Jn <| Jy <| W.block ?_; obtain ⟨o51, hv⟩ := hv; obtain ⟨o54, hv⟩ := hv; obtain ⟨r57, o59, hv⟩ := hv; obtain ⟨o63, hv⟩ := hv; obtain ⟨x66, o73, hv⟩ := hv; have hS0 := hS; refine Qs 17 (fun iA => [false, false, false, false, false, false, false, false, false, false, false, false, false, false, false, true, false].getD iA false) (fun iC => match iC with | 16 => some 15 | _ => none) (fun _ v u => u = v) [⟨[], [3], false⟩, ⟨[], [8], true⟩, ⟨[], [3], false⟩, ⟨[], [2], true⟩, ⟨[], [7], true⟩, ⟨[], [9], true⟩, ⟨[4, 5], [], true⟩, ⟨[6], [], false⟩, ⟨[3, 7], [], true⟩, ⟨[8], [], false⟩, ⟨[2, 9], [], false⟩, ⟨[], [1], true⟩, ⟨[], [9], true⟩, ⟨[11, 12], [], true⟩, ⟨[13], [], false⟩, ⟨[0, 1, 10, 14], [], false⟩, ⟨[15], [], true⟩] [.k 21 (.agg #[nI Pf, nI Mf, nS Af mf kf]), .k 22 (nS A36 x35 k37), .k 23 (.agg #[nI Pf, nI Mf, nS Af mf kf]), .k 24 (nS Ay y ky), .k 25 (nS A15 x14 k16), .k 26 (nI z39), .k 27 (.pointer (some ((JQ A15).add z39.toNat))), .k 28 (nI (gi x14 z39)), .k 29 (.pointer (some ((JQ Ay).add ((gi x14 z39).toNat)))), .k 30 (nI (gi y (gi x14 z39))), .k 31 (nI r57), .k 32 (nS Al l kl), .k 33 (nI z39), .k 34 (.pointer (some ((JQ Al).add z39.toNat))), .k 35 (.slice ((hsl z39.toNat).1) ((gl l z39).length) ((hsl z39.toNat).2)), eS w42 36 3 x66.length (is x66), eS w42 8 3 x66.length (is x66)] (fun _ => vbD) Ju (by kernel_rfl) rfl rfl (fun _ _ _ _ _ _ _ h => h) ?_ ?_
  . refine ⟨fun _ hE _ => have hS := hS.grow (hE rfl); Jh (cs := [nI Pf, nI Mf, nS Af mf kf]) JS JU rfl rfl (Jc (hS.own (i := 2) rfl)) rfl <| Ja ⟨rfl, Jg _⟩, oB (fun _ => rfl) rfl, fun _ hE _ => have hS := hS.grow (hE rfl); Jh (cs := [nI Pf, nI Mf, nS Af mf kf]) JS JU rfl rfl (Jc (hS.own (i := 2) rfl)) rfl <| Ja ⟨rfl, Jg _⟩, oB (fun _ => rfl) rfl, oB (fun _ => rfl) rfl, oB (fun _ => rfl) rfl, fun _ _ _ => Jj Jr XE3 (hS.rd (i := 1) rfl) rfl rfl o51 rfl <| Ja ⟨rfl, rfl⟩, fun _ hE _ => have hS := hS.grow (hE rfl); Jm XU3 rfl rfl (JN (hS.rd (i := 1) rfl) o51) rfl <| Ja ⟨rfl, Jg _⟩, fun _ _ _ => Jj Jr XE3 (hS.ro hy) rfl rfl o54 rfl <| Ja ⟨rfl, rfl⟩, fun _ hE _ => have hS := hS.grow (hE rfl); Jm XU3 rfl rfl (JN (hS.ro hy) o54) rfl <| Ja ⟨rfl, Jg _⟩, ?_, oB (fun _ => rfl) rfl, oB (fun _ => rfl) rfl, fun _ _ _ => JT Jv Jz hHl rfl rfl o63 rfl <| Ja ⟨rfl, rfl⟩, fun _ hE _ => have hS := hS.grow (hE rfl); Jm Jr rfl rfl (hS.cell (RlH.cell hHl o63)) rfl <| Ja ⟨rfl, Jg _⟩, ?_, ?_, trivial⟩
    .intro w56 hE; have hS := hS.grow (hE rfl); intro RR; refine WL.call XF38 rfl XN38 rfl rfl (JJ (Jq8 (hS.ro hf) o59)) ?_; rintro _ w58 ⟨_, hGw58, hRww58, hNww58, r57q, rfl, rfl, he⟩; subst he; exact Ja ⟨rfl, hGw58⟩
    .intro w65 hE; have hE := hE rfl; have hS := hS.grow hE; intro RR; refine WL.call XF37 rfl XN37 rfl rfl (JJ (Jif (hS.ro hf) (hS.rd (i := 0) rfl) (hS.ro (JY hHl o63)) o73)) ?_; rintro _ w70 ⟨_, hGw70, hRww70, hNww70, x66q, A67, k68, rfl, rfl, he⟩; subst he; have hO71 := (hRww70.get (i := 0) rfl).1; have hN72 : ∀ g, bl A67 = some g -> _ <= g := fun g hg => Nat.le_trans hE.size (hNww70.1 g hg); exact Ja ⟨_, rfl, hGw70, ⟨A67, k68, rfl, hO71, hN72⟩, (fun _ => fun g hg => ⟨hNww70.1 g hg, (hO71.bl_ge g hg).2⟩), (fun j h => by cases h)⟩
    intro w74 hE; rintro _ ⟨A67_15, k68_15, rfl, hO71_15, hN72_15⟩; intro RR; refine J4 rfl rfl ?_; exact Ja ⟨_, rfl, rfl, ⟨A67_15, k68_15, rfl, hO71_15, hN72_15⟩, (fun h => absurd h (by decide)), (fun j h => by cases h; exact ⟨_, rfl, rfl⟩)⟩
  intro vals w75 hT hVs hAp hCp; have hS := hS.grow hT; obtain ⟨A67_15, k68_15, hv15, hO71_15, hN72_15⟩ := hVs 15 (by decide); have hv16 : vals 16 = nS A67_15 x66 k68_15 := (hCp 16 15 (by decide) rfl).trans hv15; have hS := JW [] hS0 hS hO71_15 hN72_15 (fun s hs => by cases hs); refine Qz [(15, nS A67_15 x66 k68_15), (16, nS A67_15 x66 k68_15)] ⟨hv15, hv16, trivial⟩ <| Js (by decide +kernel) <| Jd 2 ?_; obtain ⟨o77, hv⟩ := hv; refine WL.add (r := (z39 + (1 : Int))) rfl rfl (wr o77) rfl <| Jb 2 ?_; have hS := hS.pick [0, 2, 3] rfl; exact ⟨(x66, (z39 + (1 : Int)), A67_15, k68_15), ⟨rfl, rfl, rfl, rfl, rfl, rfl, rfl, trivial⟩, hv.2, rfl, hv.1, hS⟩
 have hv := hv.2 (oF c43); refine JD <| Jd 5 <| W.ret <| ⟨_, rfl, Fin.nil ?_⟩
 exact (hS.pick [0] rfl).fin rfl ⟨x35, A36, k37, rfl, rfl, hv⟩
def Jdh (y : List Int) (Q : Bool -> Prop) : Prop :=
  ∃ (I14 : Int -> Prop) (μ15 : Int -> Nat), I14 (0 : Int) /\ ∀ (z13 : Int), (I14 z13 -> (((z13 < (y.length : Int)) -> ((0 <= z13 /\ z13 < (y.length : Nat)) /\ ((((gi y z13) ≠ (0 : Int)) -> Q false) /\ (¬ ((gi y z13) ≠ (0 : Int)) -> ((I64 (z13 + (1 : Int))) /\ (I14 (z13 + (1 : Int)) /\ μ15 (z13 + (1 : Int)) < μ15 z13)))))) /\ (¬ (z13 < (y.length : Int)) -> Q true)))
theorem Jsw {w : World} {Q : Bool -> Prop} {y : List Int} {By : Nat} {Ay : Option Addr} {ny ky : Nat} (hy : Rd By w 1 Ay ny ky (is y)) (hv : Jdh y Q) :
   Calls Tryz.prog 91 #[.slice Ay ny ky] w fun e w' => ∃ v Qr, e = .returned v /\ w.grownBy w' none /\ Rows w.heap.size none w' Qr /\ News w.heap.size Qr /\ ∃ (r0 : Bool), v = .bool r0 /\ Qr = [] /\ Q r0 := by
 have hny := hy.ilen; subst hny; refine Jl <| Jk (vs := [nS Ay y ky]) [2] XF91 rfl rfl rfl rfl ?_; have hS := Jq w; unfold Jdh at hv; refine Jd 9 <| W.block ?_; obtain ⟨I14, μ15, hv, hk21⟩ := hv; refine JF (σ := Int) (fun z13 w1 => I14 z13 /\ St TT w none w1 []) (fun z13 => [(0, nS Ay y ky), (2, .bool false), (3, nI z13)]) (fun z13 => μ15 z13) (0 : Int) ⟨hv, hS⟩ ⟨rfl, rfl, rfl, trivial⟩ ?_; rintro z13 w16 ⟨hv, hS⟩; have hv := hk21 z13 hv; refine Jd 5 <| WL.len Jr rfl rfl <| Jb 2 <| Ji rfl (fun c17 => ?_) (fun c17 => ?_)
 .have hv := hv.1 (oT c17); refine Jn <| Jy <| W.block <| Jd 4 ?_; obtain ⟨o18, hv⟩ := hv; refine Jj Jr XE3 (hS.ro hy) rfl rfl o18 rfl <| Jm XU3 rfl rfl (JN (hS.ro hy) o18) rfl <| Jb 2 <| Ji rfl (fun c19 => ?_) (fun c19 => ?_)
  .have hv := hv.1 (oT c19); refine Jd 4 <| W.ret <| ⟨_, rfl, Fin.nil ?_⟩
   exact (hS.pick [] rfl).fin rfl ⟨false, rfl, rfl, hv⟩
  have hv := hv.2 (oF c19); refine Jn <| Jd 2 ?_; obtain ⟨o20, hv⟩ := hv; refine WL.add (r := (z13 + (1 : Int))) rfl rfl (wr o20) rfl <| Jb 2 ?_; exact ⟨(z13 + (1 : Int)), ⟨rfl, rfl, rfl, trivial⟩, hv.2, rfl, hv.1, hS⟩
 have hv := hv.2 (oF c17); refine JD <| Jd 4 <| W.ret <| ⟨_, rfl, Fin.nil ?_⟩
 exact (hS.pick [] rfl).fin rfl ⟨true, rfl, rfl, hv⟩
def Jkc (Pf : Int) (Mf : Int) (mf : List Int) (l : List (List Int)) (y : List Int) (Q : Bool -> Prop) : Prop :=
  Ja6 Pf Mf mf l y (fun x14 => Jdh x14 (fun r19 => Q r19))
theorem Qaz {w : World} {Q : Bool -> Prop} {Pf : Int} {Mf : Int} {mf : List Int} {l : List (List Int)} {y : List Int} {Bf : Nat} {Af : Option Addr} {nf kf : Nat} (hf : Rd Bf w 1 Af nf kf (is mf)) {Al : Option Addr} {nl kl : Nat} (hl : Rl w Al nl kl l) {By : Nat} {Ay : Option Addr} {ny ky : Nat} (hy : Rd By w 1 Ay ny ky (is y)) (hv : Jkc Pf Mf mf l y Q) :
  Calls Tryz.prog 57 #[.agg #[.int .i64 Pf, .int .i64 Mf, .slice Af nf kf], .slice Al nl kl, .slice Ay ny ky] w fun e w' => ∃ v Qr, e = .returned v /\ w.grownBy w' none /\ Rows w.heap.size none w' Qr /\ News w.heap.size Qr /\ ∃ (r0 : Bool), v = .bool r0 /\ Qr = [] /\ Q r0 := by
 have hnf := hf.ilen; subst hnf; have hnl := hl.len; subst hnl; obtain ⟨hsl, hHl⟩ := hl.heads; have hny := hy.ilen; subst hny; refine Jl <| Jk (vs := [.agg #[nI Pf, nI Mf, nS Af mf kf], nS Al l kl, nS Ay y ky]) [6] XF57 rfl rfl rfl rfl ?_; have hS := Jq w; unfold Jkc at hv; refine Jd 2 <| JA (z := 3) (cs := [nI Pf, nI Mf, nS Af mf kf]) hS rfl rfl rfl rfl ?_; intro g11 w12 hS; refine Jb 2 <| Jd 2 <| Jh (cs := [nI Pf, nI Mf, nS Af mf kf]) JS JU rfl rfl (Jc (hS.own (i := 0) rfl)) rfl <| Jb 2 <| SL.call hS (Jid (hS.ro hf) (RlH.rl (RlH.ext hHl hS.ext)) (hS.ro hy) hv) XF59 rfl XN59 rfl rfl ?_; rintro _ _ w13 ⟨x14, A15, k16, rfl, rfl, hv⟩ hGw13 hS; have hS := hS.n1; refine SL.call hS (Jsw (hS.rd (i := 0) rfl) hv) XF91 rfl XN91 rfl rfl ?_; rintro _ _ w18 ⟨r19, rfl, rfl, hv⟩ hGw18 hS; have hS := hS.n0; refine Jb 2 <| W.ret <| ⟨_, rfl, Fin.nil ?_⟩
 exact (hS.pick [] rfl).fin rfl ⟨r19, rfl, rfl, hv⟩
def YG (Pf : Int) (Mf : Int) (mf : List Int) (Ca : Int) (a : List (List Int)) (Cb : Int) (b : List (List Int)) (Q : Bool × Int -> Prop) : Prop :=
  Jfo Pf Mf mf Ca a Cb b (fun r18 => ((r18 ≠ (0 : Int)) -> (Q (false, r18))) /\ (¬ (r18 ≠ (0 : Int)) -> (∃ (I23 : Int -> Prop) (μ24 : Int -> Nat), I23 (0 : Int) /\ ∀ (z22 : Int), (I23 z22 -> (((z22 < (a.length : Int)) -> ((0 <= z22 /\ z22 < (a.length : Nat)) /\ (∃ (r37 : Bool), Jkc Pf Mf mf b (gl a z22) (fun q => q = r37) /\ ((((!r37) = true) -> (Q (false, (0 : Int)))) /\ ((!r37) = false -> ((I64 (z22 + (1 : Int))) /\ (I23 (z22 + (1 : Int)) /\ μ24 (z22 + (1 : Int)) < μ24 z22))))))) /\ (¬ (z22 < (a.length : Int)) -> (Q (true, (0 : Int)))))))))
theorem Jeo {w : World} {Q : Bool × Int -> Prop} {Pf : Int} {Mf : Int} {mf : List Int} {Ca : Int} {a : List (List Int)} {Cb : Int} {b : List (List Int)} {Bf : Nat} {Af : Option Addr} {nf kf : Nat} (hf : Rd Bf w 1 Af nf kf (is mf)) {Aa : Option Addr} {na ka : Nat} (ha : Rl w Aa na ka a) {Ab : Option Addr} {nb kb : Nat} (hb : Rl w Ab nb kb b) (hv : YG Pf Mf mf Ca a Cb b Q) :
   Calls Tryz.prog 23 #[.agg #[.int .i64 Pf, .int .i64 Mf, .slice Af nf kf], .agg #[.int .i64 Ca, .slice Aa na ka], .agg #[.int .i64 Cb, .slice Ab nb kb]] w fun e w' => ∃ v Qr, e = .returned v /\ w.grownBy w' none /\ Rows w.heap.size none w' Qr /\ News w.heap.size Qr /\ ∃ (r0 : Bool) (r1 : Int), v = .tuple #[.bool r0, .int .i64 r1] /\ Qr = [] /\ Q (r0, r1) := by
 have hnf := hf.ilen; subst hnf; have hna := ha.len; subst hna; obtain ⟨hsa, hHa⟩ := ha.heads; have hnb := hb.len; subst hnb; obtain ⟨hsb, hHb⟩ := hb.heads; refine Jl <| Jk (vs := [.agg #[nI Pf, nI Mf, nS Af mf kf], .agg #[nI Ca, nS Aa a ka], .agg #[nI Cb, nS Ab b kb]]) [6, 7] XF23 rfl rfl rfl rfl ?_; have hS := Jq w; unfold YG at hv; refine Jd 2 <| JA (z := 3) (cs := [nI Pf, nI Mf, nS Af mf kf]) hS rfl rfl rfl rfl ?_; intro g11 w12 hS; refine JA (z := 2) (cs := [nI Ca, nS Aa a ka]) hS rfl rfl rfl rfl ?_; intro g13 w14 hS; refine JA (z := 2) (cs := [nI Cb, nS Ab b kb]) hS rfl rfl rfl rfl ?_; intro g15 w16 hS; refine Jb 3 <| Jd 2 <| Jh (cs := [nI Pf, nI Mf, nS Af mf kf]) JS JU rfl rfl (Jc (hS.own (i := 2) rfl)) rfl <| Jh (cs := [nI Ca, nS Aa a ka]) Jw JL rfl rfl (Jc (hS.own (i := 1) rfl)) rfl <| Jh (cs := [nI Cb, nS Ab b kb]) Jw JL rfl rfl (Jc (hS.own (i := 0) rfl)) rfl <| SL.call hS (Jxx (hS.ro hf) (RlH.rl (RlH.ext hHa hS.ext)) (RlH.rl (RlH.ext hHb hS.ext)) hv) XF47 rfl XN47 rfl rfl ?_; rintro _ _ w17 ⟨r18, rfl, rfl, hv⟩ hGw17 hS; have hS := hS.n0; refine Jb 2 <| Jd 6 <| Ji rfl (fun c19 => ?_) (fun c19 => ?_)
 .have hv := hv.1 (oT c19); refine Jd 6 <| W.ret <| ⟨_, rfl, Fin.nil ?_⟩
  exact (hS.pick [] rfl).fin rfl ⟨false, r18, rfl, rfl, hv⟩
 have hv := hv.2 (oF c19); refine Jn <| Jd 5 <| W.block ?_; obtain ⟨I23, μ24, hv, hk44⟩ := hv; refine JF (σ := Int) (fun z22 w1 => I23 z22 /\ St TT w none w1 [.row 27 2 (nA g15) 1 1 [nI Cb, nS Ab b kb], .row 27 2 (nA g13) 1 1 [nI Ca, nS Aa a ka], .row 24 3 (nA g11) 1 1 [nI Pf, nI Mf, nS Af mf kf]]) (fun z22 => [(3, nP g11), (4, nP g13), (5, nP g15), (6, .bool false), (7, nI 0), (9, nI z22)]) (fun z22 => μ24 z22) (0 : Int) ⟨hv, hS⟩ ⟨rfl, rfl, rfl, rfl, rfl, rfl, trivial⟩ ?_; rintro z22 w25 ⟨hv, hS⟩; have hv := hk44 z22 hv; refine Jd 4 <| Jf (off := 1) JK rfl rfl <| Jp 1 1 Jv hS rfl rfl rfl ⟨rfl, rfl⟩ <| WL.len Jv rfl rfl <| Jb 2 <| Ji rfl (fun c26 => ?_) (fun c26 => ?_)
 .have hv := hv.1 (oT c26); refine Jn <| Jy <| W.block <| Jy ?_; obtain ⟨o34, hv⟩ := hv; obtain ⟨r37, o39, hv⟩ := hv; refine JX 10 [⟨[], [3], false⟩, ⟨[], [5], true⟩, ⟨[1], [], false⟩, ⟨[], [4], true⟩, ⟨[3], [], false⟩, ⟨[], [9], true⟩, ⟨[4, 5], [], true⟩, ⟨[6], [], false⟩, ⟨[0, 2, 7], [], false⟩, ⟨[8], [], true⟩] [(24, .agg #[nI Pf, nI Mf, nS Af mf kf]), (25, .pointer (some ((⟨g15, 0, none⟩ : Addr).add 1))), (26, nS Ab b kb), (27, .pointer (some ((⟨g13, 0, none⟩ : Addr).add 1))), (28, nS Aa a ka), (29, nI z22), (30, .pointer (some ((JQ Aa).add z22.toNat))), (31, .slice ((hsa z22.toNat).1) ((gl a z22).length) ((hsa z22.toNat).2)), (32, .bool r37), (33, .bool (!r37))] Ju (by kernel_rfl) rfl rfl ?_ ?_
  .refine ⟨fun _ hE _ => have hS := hS.grow (hE rfl); Jh (cs := [nI Pf, nI Mf, nS Af mf kf]) JS JU rfl rfl (Jc (hS.own (i := 2) rfl)) rfl <| Ja ⟨rfl, Jg _⟩, fun _ _ _ => Jf (off := 1) JK rfl rfl <| Ja ⟨rfl, rfl⟩, fun _ hE _ => have hS := hS.grow (hE rfl); Jp 0 1 Jv hS rfl rfl rfl ⟨rfl, rfl⟩ <| Ja ⟨rfl, Jg _⟩, fun _ _ _ => Jf (off := 1) JK rfl rfl <| Ja ⟨rfl, rfl⟩, fun _ hE _ => have hS := hS.grow (hE rfl); Jp 1 1 Jv hS rfl rfl rfl ⟨rfl, rfl⟩ <| Ja ⟨rfl, Jg _⟩, oA fun _ => rfl, fun _ _ _ => JT Jv Jz hHa rfl rfl o34 rfl <| Ja ⟨rfl, rfl⟩, fun _ hE _ => have hS := hS.grow (hE rfl); Jm Jr rfl rfl (hS.cell (RlH.cell hHa o34)) rfl <| Ja ⟨rfl, Jg _⟩, ?_, oA fun _ => rfl, trivial⟩; intro w36 hE RR; have hS := hS.grow (hE rfl); refine WL.call XF57 rfl XN57 rfl rfl (JJ (Qaz (hS.ro hf) (RlH.rl (RlH.ext hHb hS.ext)) (hS.ro (JY hHa o34)) o39)) ?_; rintro _ w38 ⟨_, hGw38, hRww38, hNww38, r37q, rfl, rfl, he⟩; subst he; exact Ja ⟨rfl, hGw38⟩
  intro w41 hT; have hS := hS.grow hT; refine Js (by decide +kernel) <| Ji rfl (fun c42 => ?_) (fun c42 => ?_)
  .have hv := hv.1 (c42); refine Jd 5 <| W.ret <| ⟨_, rfl, Fin.nil ?_⟩
   exact (hS.pick [] rfl).fin rfl ⟨false, (0 : Int), rfl, rfl, hv⟩
  have hv := hv.2 (c42); refine Jn <| Jd 2 ?_; obtain ⟨o43, hv⟩ := hv; refine WL.add (r := (z22 + (1 : Int))) rfl rfl (wr o43) rfl <| Jb 2 ?_; exact ⟨(z22 + (1 : Int)), ⟨rfl, rfl, rfl, rfl, rfl, rfl, trivial⟩, hv.2, rfl, hv.1, hS⟩
 have hv := hv.2 (oF c26); refine JD <| Jd 5 <| W.ret <| ⟨_, rfl, Fin.nil ?_⟩
 exact (hS.pick [] rfl).fin rfl ⟨true, (0 : Int), rfl, rfl, hv⟩
def Yx (Pf : Int) (Mf : Int) (mf : List Int) (Ca : Int) (a : List (List Int)) (Cb : Int) (b : List (List Int)) (Q : Int × List (List Int) × Int -> Prop) : Prop :=
  YG Pf Mf mf Ca a Cb b (fun q => match q with | (r20, r21) => ((r21 ≠ (0 : Int)) -> (Q ((0 : Int), ([] : List (List Int)), r21))) /\ (¬ (r21 ≠ (0 : Int)) -> ((((!r20) = true) -> (Q ((0 : Int), ([] : List (List Int)), (11 : Int)))) /\ ((!r20) = false -> (∃ (I46 : List (List Int) -> Int -> Prop) (μ47 : List (List Int) -> Int -> Nat), I46 ([] : List (List Int)) (0 : Int) /\ ∀ (x40 : List (List Int)) (z45 : Int), (I46 x40 z45 -> (((z45 < (b.length : Int)) -> (∃ J54 : List (List Int) -> Prop, ((0 <= z45 /\ z45 < (b.length : Nat)) /\ (∃ (x66 : List Int), Ja6 Pf Mf mf a (gl b z45) (fun q => q = x66) /\ ((((x40.length : Nat) + (1 : Nat) : Int) * 24 <= 140737488355328) /\ (J54 (x40 ++ [x66]))))) /\ ∀ (x50 : List (List Int)), (J54 x50 -> ((I64 (z45 + (1 : Int))) /\ (I46 x50 (z45 + (1 : Int)) /\ μ47 x50 (z45 + (1 : Int)) < μ47 x40 z45))))) /\ (¬ (z45 < (b.length : Int)) -> (Ja7 Pf Mf mf x40 Ca (fun q => match q with | (x87, x88) => Q (Ca, x87, (0 : Int))))))))))))
theorem Jht {w : World} {Q : Int × List (List Int) × Int -> Prop} {Pf : Int} {Mf : Int} {mf : List Int} {Ca : Int} {a : List (List Int)} {Cb : Int} {b : List (List Int)} {Bf : Nat} {Af : Option Addr} {nf kf : Nat} (hf : Rd Bf w 1 Af nf kf (is mf)) {Aa : Option Addr} {na ka : Nat} (ha : Rl w Aa na ka a) {Ab : Option Addr} {nb kb : Nat} (hb : Rl w Ab nb kb b) (hv : Yx Pf Mf mf Ca a Cb b Q) :
   Calls Tryz.prog 25 #[.agg #[.int .i64 Pf, .int .i64 Mf, .slice Af nf kf], .agg #[.int .i64 Ca, .slice Aa na ka], .agg #[.int .i64 Cb, .slice Ab nb kb]] w fun e w' => ∃ v Qr, e = .returned v /\ w.grownBy w' none /\ Rows w.heap.size none w' Qr /\ News w.heap.size Qr /\ ∃ (c0 : Int) (r0 : List (List Int)) (r1 : Int) (A0 : Option Addr) (k0 : Nat) (hs0 : Hs), v = .tuple #[.agg #[.int .i64 c0, .slice A0 r0.length k0], .int .i64 r1] /\ Qr = [mx 22 3 A0 r0.length k0 hs0 r0] /\ Q (c0, r0, r1) := by
 have hnf := hf.ilen; subst hnf; have hna := ha.len; subst hna; obtain ⟨hsa, hHa⟩ := ha.heads; have hnb := hb.len; subst hnb; obtain ⟨hsb, hHb⟩ := hb.heads; refine Jl <| Qh (vs := [.agg #[nI Pf, nI Mf, nS Af mf kf], .agg #[nI Ca, nS Aa a ka], .agg #[nI Cb, nS Ab b kb]]) [.cell 6 27, .tmp 7] XF25 rfl rfl rfl rfl ?_; have hS := Jq w; unfold Yx at hv; refine Jd 2 <| JA (z := 3) (cs := [nI Pf, nI Mf, nS Af mf kf]) hS rfl rfl rfl rfl ?_; intro g11 w12 hS; refine JA (z := 2) (cs := [nI Ca, nS Aa a ka]) hS rfl rfl rfl rfl ?_; intro g13 w14 hS; refine JA (z := 2) (cs := [nI Cb, nS Ab b kb]) hS rfl rfl rfl rfl ?_; intro g15 w16 hS; refine SL.alloc (cs := [nI 0, .slice none 0 0]) hS Jw rfl rfl ?_; intro g17 w18 hS; refine Jb 2 <| Jd 2 <| Jh (cs := [nI Pf, nI Mf, nS Af mf kf]) JS JU rfl rfl (Jc (hS.own (i := 3) rfl)) rfl <| Jh (cs := [nI Ca, nS Aa a ka]) Jw JL rfl rfl (Jc (hS.own (i := 2) rfl)) rfl <| Jh (cs := [nI Cb, nS Ab b kb]) Jw JL rfl rfl (Jc (hS.own (i := 1) rfl)) rfl <| SL.call hS (Jeo (hS.ro hf) (RlH.rl (RlH.ext hHa hS.ext)) (RlH.rl (RlH.ext hHb hS.ext)) hv) XF23 rfl XN23 rfl rfl ?_; rintro _ _ w19 ⟨r20, r21, rfl, rfl, hv⟩ hGw19 hS; have hS := hS.n0; refine Jb 6 <| Jd 6 <| Ji rfl (fun c22 => ?_) (fun c22 => ?_)
 .have hv := hv.1 (oT c22); refine Jd 2 <| JO (cells := #[nI 0, .slice none 0 0]) QV rfl rfl rfl <| Jo rfl rfl <| Jt (cs := [nI 0, .slice none 0 0]) 0 hS rfl Jw rfl rfl rfl rfl rfl ?_; intro w23 hS; refine Jb 2 <| W.ret ?_; have hS := hS.mxNil 22 3; have hm0 := hS.mxlen (i := 0) rfl; have hS := hS.relenMx (i := 0) rfl hm0.symm
  change St _ _ _ _ [_, _, _, _, _] at hS
  repeat with_reducible first | refine blk.ret ?_ | refine exits.retI ?_
  refine endC.mk ⟨[.agg #[nI 0, .slice none 0 0], nI r21], ⟨_, _, _, rfl, rfl, JG (cs := [nI 0, .slice none 0 0]) Jw JL rfl (Jc (hS.own (i := 1) rfl)), ⟨_, _, rfl, rfl, rfl⟩⟩, ?_⟩; exact ⟨_, hS.ext, (hS.pick [0] rfl).rows, JP (hS.pick [0] rfl).rows rfl, ⟨(0 : Int), ([] : List (List Int)), r21, none, 0, (fun _ => (none, 0)), (by (try unfold nS); first | (rw [show (Value.slice none 0 0) = Value.slice none (([] : List (List Int))).length 0 from sm0 hm0.symm]; done) | (rw [show (Value.slice none 0 0) = Value.slice none (([] : List (List Int))).length 0 from sm0 hm0.symm]; rfl)), rfl, hv⟩⟩
 have hv := hv.2 (oF c22); refine Jn <| Jd 6 <| Ji rfl (fun c25 => ?_) (fun c25 => ?_)
 .have hv := hv.1 (c25); refine Jd 2 <| JO (cells := #[nI 0, .slice none 0 0]) QV rfl rfl rfl <| Jt (cs := [nI 0, .slice none 0 0]) 0 hS rfl Jw rfl rfl rfl rfl rfl ?_; intro w26 hS; refine Jb 2 <| W.ret ?_; have hS := hS.mxNil 22 3; have hm0 := hS.mxlen (i := 0) rfl; have hS := hS.relenMx (i := 0) rfl hm0.symm
  change St _ _ _ _ [_, _, _, _, _] at hS
  repeat with_reducible first | refine blk.ret ?_ | refine exits.retI ?_
  refine endC.mk ⟨[.agg #[nI 0, .slice none 0 0], nI 11], ⟨_, _, _, rfl, rfl, JG (cs := [nI 0, .slice none 0 0]) Jw JL rfl (Jc (hS.own (i := 1) rfl)), ⟨_, _, rfl, rfl, rfl⟩⟩, ?_⟩; exact ⟨_, hS.ext, (hS.pick [0] rfl).rows, JP (hS.pick [0] rfl).rows rfl, ⟨(0 : Int), ([] : List (List Int)), (11 : Int), none, 0, (fun _ => (none, 0)), (by (try unfold nS); first | (rw [show (Value.slice none 0 0) = Value.slice none (([] : List (List Int))).length 0 from sm0 hm0.symm]; done) | (rw [show (Value.slice none 0 0) = Value.slice none (([] : List (List Int))).length 0 from sm0 hm0.symm]; rfl)), rfl, hv⟩⟩
 have hv := hv.2 (c25); refine Jn <| Jd 9 <| W.block ?_; obtain ⟨I46, μ47, hv, hk97⟩ := hv; have hS := hS.mxNil 22 3; have hm0 : 0 = ([] : List (List Int)).length := (hS.mxlen (i := 0) rfl).symm; have hS := hS.relenMx (i := 0) rfl hm0
 change St _ _ _ _ [_, _, _, _, _] at hS
 refine JF (σ := List (List Int) × Int × Option Addr × Nat × Hs) (fun q w1 => match q with | (x40, z45, A41, k42, hs43) => I46 x40 z45 /\ St TT w none w1 [mx 22 3 A41 x40.length k42 hs43 x40, .row 27 2 (nA g17) 1 1 [nI 0, .slice none 0 0], .row 27 2 (nA g15) 1 1 [nI Cb, nS Ab b kb], .row 27 2 (nA g13) 1 1 [nI Ca, nS Aa a ka], .row 24 3 (nA g11) 1 1 [nI Pf, nI Mf, nS Af mf kf]]) (fun q => match q with | (x40, z45, A41, k42, hs43) => [(3, nP g11), (4, nP g13), (5, nP g15), (6, nP g17), (7, nI 0), (10, nS A41 x40 k42), (11, nI z45)]) (fun q => match q with | (x40, z45, A41, k42, hs43) => μ47 x40 z45) (([] : List (List Int)), (0 : Int), none, 0, (fun _ => (none, 0))) ⟨hv, hS⟩ ⟨rfl, rfl, rfl, rfl, rfl, (sm (by first | rfl | assumption | omega)), rfl, trivial⟩ ?_; rintro ⟨x40, z45, A41, k42, hs43⟩ w48 ⟨hv, hS⟩; have hv := hk97 x40 z45 hv; refine Jd 4 <| Jf (off := 1) JK rfl rfl <| Jp 2 1 Jv hS rfl rfl rfl ⟨rfl, rfl⟩ <| WL.len Jv rfl rfl <| Jb 2 <| Ji rfl (fun c49 => ?_) (fun c49 => ?_)
 .have hv := hv.1 (oT c49); refine Jn <| Jy ?_; obtain ⟨J54, hv, hk85⟩ := hv; refine Qp (σ := List (List Int) × Option Addr × Nat × Hs) (fun q w1 => match q with | (x50, A51, k52, hs53) => J54 x50 /\ St TT w none w1 [mx 22 3 A51 x50.length k52 hs53 x50, .row 27 2 (nA g17) 1 1 [nI 0, .slice none 0 0], .row 27 2 (nA g15) 1 1 [nI Cb, nS Ab b kb], .row 27 2 (nA g13) 1 1 [nI Ca, nS Aa a ka], .row 24 3 (nA g11) 1 1 [nI Pf, nI Mf, nS Af mf kf]]) (fun q => match q with | (x50, A51, k52, hs53) => [(3, nP g11), (4, nP g13), (5, nP g15), (6, nP g17), (7, nI 0), (10, nS A51 x50 k52), (11, nI z45), (30, .bool (decide (z45 < (b.length : Int))))]) ?_ ?_
  .refine W.block ?_; obtain ⟨o63, hv⟩ := hv; obtain ⟨x66, o73, hv⟩ := hv; have hS0 := hS; refine Ye 10 [0] (fun iA => [false, false, false, false, false, false, false, false, false, true].getD iA false) (fun _ => none) (fun _ v u => u = v) [⟨[], [10], true⟩, ⟨[], [3], false⟩, ⟨[], [4], true⟩, ⟨[2], [], false⟩, ⟨[], [5], true⟩, ⟨[4], [], false⟩, ⟨[], [11], true⟩, ⟨[5, 6], [], true⟩, ⟨[7], [], false⟩, ⟨[1, 3, 8], [], false⟩] [.k 33 (nS A41 x40 k42), .k 34 (.agg #[nI Pf, nI Mf, nS Af mf kf]), .k 35 (.pointer (some ((⟨g13, 0, none⟩ : Addr).add 1))), .k 36 (nS Aa a ka), .k 37 (.pointer (some ((⟨g15, 0, none⟩ : Addr).add 1))), .k 38 (nS Ab b kb), .k 39 (nI z45), .k 40 (.pointer (some ((JQ Ab).add z45.toNat))), .k 41 (.slice ((hsb z45.toNat).1) ((gl b z45).length) ((hsb z45.toNat).2)), eS w48 42 3 x66.length (is x66)] (fun _ => vbD) Ju (by kernel_rfl) rfl rfl (fun _ _ _ _ _ _ _ h => h) ?_ ?_
   .refine ⟨oB (fun _ => rfl) rfl, fun _ hE _ => have hS := hS.grow (hE rfl); Jh (cs := [nI Pf, nI Mf, nS Af mf kf]) JS JU rfl rfl (Jc (hS.own (i := 4) rfl)) rfl <| Ja ⟨rfl, Jg _⟩, fun _ _ _ => Jf (off := 1) JK rfl rfl <| Ja ⟨rfl, rfl⟩, fun _ hE _ => have hS := hS.grow (hE rfl); Jp 3 1 Jv hS rfl rfl rfl ⟨rfl, rfl⟩ <| Ja ⟨rfl, Jg _⟩, fun _ _ _ => Jf (off := 1) JK rfl rfl <| Ja ⟨rfl, rfl⟩, fun _ hE _ => have hS := hS.grow (hE rfl); Jp 2 1 Jv hS rfl rfl rfl ⟨rfl, rfl⟩ <| Ja ⟨rfl, Jg _⟩, oB (fun _ => rfl) rfl, fun _ _ _ => JT Jv Jz hHb rfl rfl o63 rfl <| Ja ⟨rfl, rfl⟩, fun _ hE _ => have hS := hS.grow (hE rfl); Jm Jr rfl rfl (hS.cell (RlH.cell hHb o63)) rfl <| Ja ⟨rfl, Jg _⟩, ?_, trivial⟩; intro w65 hE; have hE := hE rfl; have hS := hS.grow hE; intro RR; refine WL.call XF59 rfl XN59 rfl rfl (JJ (Jid (hS.ro hf) (RlH.rl (RlH.ext hHa hS.ext)) (hS.ro (JY hHb o63)) o73)) ?_; rintro _ w70 ⟨_, hGw70, hRww70, hNww70, x66q, A67, k68, rfl, rfl, he⟩; subst he; have hO71 := (hRww70.get (i := 0) rfl).1; have hN72 : ∀ g, bl A67 = some g -> _ <= g := fun g hg => Nat.le_trans hE.size (hNww70.1 g hg); exact Ja ⟨_, rfl, hGw70, ⟨A67, k68, rfl, hO71, hN72⟩, (fun _ => fun g hg => ⟨hNww70.1 g hg, (hO71.bl_ge g hg).2⟩), (fun j h => by cases h)⟩
   intro X hX; have hX : X ∈ ([[], [0]] : List (List Nat)) := hX; simp only [List.mem_cons, List.not_mem_nil, or_false] at hX; rcases hX with rfl | rfl
   .intro vals w74 hT hVs hAp hCp q_ hq_; have hS := hS.grow hT; obtain rfl : q_ = 3 := hq_.trans (by decide +kernel); obtain ⟨A67_9, k68_9, hv9, hO71_9, hN72_9⟩ := hVs 9 (by decide) (by decide); have hS := JW [] hS0 hS hO71_9 hN72_9 (fun s hs => by cases hs); refine Qz [(9, nS A67_9 x66 k68_9)] ⟨hv9, trivial⟩ <| Je 10 (by decide +kernel) rfl <| JZ (vs := [nS A67_9 x66 k68_9]) hS Jv Jz rfl rfl rfl rfl (by simp [Value.oneCell']) rfl ?_; intro A76 w77 hS; refine Ja <| Je 11 (by decide +kernel) rfl ?_; obtain ⟨o79, hv⟩ := hv; have hS := hS.pick [2, 0, 1, 3, 4, 5, 6] rfl; have hS := hS.pick [1, 2, 0, 3, 4, 5, 6] rfl; have hS := QE (hS.rd (i := 1) rfl).ilen.symm hS
    change St _ _ _ _ [_, _, _, _, _, _] at hS
    refine Qk hS Jv Jz rfl rfl (apk o79).1 (apk o79).2 rfl ?_; intro A80 k81 w82 hS; refine Ja <| Je 12 (by decide +kernel) rfl <| Jb 2 <| Js (by decide +kernel) ?_; exact ⟨(x40 ++ [x66], A80, k81, (Y0 x40.length hs43 (fun _ => (A67_9, k68_9)))), ⟨rfl, rfl, rfl, rfl, rfl, rfl, rfl, rfl, trivial⟩, rfl, hv, hS⟩
   intro vals w74 hT hVs hAp hCp q_ hq_; have hS := hS.grow hT; obtain rfl : q_ = 4 := hq_.trans (by decide +kernel); obtain ⟨A67_9, k68_9, hv9, hO71_9, hN72_9⟩ := hVs 9 (by decide) (by decide); have hS := JW [] hS0 hS hO71_9 hN72_9 (fun s hs => by cases hs); refine Qz [(9, nS A67_9 x66 k68_9)] ⟨hv9, trivial⟩ <| WA.step [0, 10] (by decide +kernel) rfl ?_; intro iQ hQ; simp only [List.mem_cons, List.not_mem_nil, or_false] at hQ; rcases hQ with rfl | rfl
   .refine ⟨_, rfl, ?_⟩; refine Jb 2 <| Je 10 (by decide +kernel) rfl <| JZ (vs := [nS A67_9 x66 k68_9]) hS Jv Jz rfl rfl rfl rfl (by simp [Value.oneCell']) rfl ?_; intro A76 w77 hS; refine Ja <| Je 11 (by decide +kernel) rfl ?_; obtain ⟨o79, hv⟩ := hv; have hS := hS.pick [2, 0, 1, 3, 4, 5, 6] rfl; have hS := hS.pick [1, 2, 0, 3, 4, 5, 6] rfl; have hS := QE (hS.rd (i := 1) rfl).ilen.symm hS
    change St _ _ _ _ [_, _, _, _, _, _] at hS
    refine Qk hS Jv Jz rfl rfl (apk o79).1 (apk o79).2 rfl ?_; intro A80 k81 w82 hS; refine Ja <| Je 12 (by decide +kernel) rfl <| Jb 2 <| Js (by decide +kernel) ?_; exact ⟨(x40 ++ [x66], A80, k81, (Y0 x40.length hs43 (fun _ => (A67_9, k68_9)))), ⟨rfl, rfl, rfl, rfl, rfl, rfl, rfl, rfl, trivial⟩, rfl, hv, hS⟩
   refine ⟨_, rfl, ?_⟩; refine JZ (vs := [nS A67_9 x66 k68_9]) hS Jv Jz rfl rfl rfl rfl (by simp [Value.oneCell']) rfl ?_; intro A76 w77 hS; refine Ja <| Je 0 (by decide +kernel) rfl <| Jb 2 <| Je 11 (by decide +kernel) rfl ?_; obtain ⟨o79, hv⟩ := hv; have hS := hS.pick [2, 0, 1, 3, 4, 5, 6] rfl; have hS := hS.pick [1, 2, 0, 3, 4, 5, 6] rfl; have hS := QE (hS.rd (i := 1) rfl).ilen.symm hS
   change St _ _ _ _ [_, _, _, _, _, _] at hS
   refine Qk hS Jv Jz rfl rfl (apk o79).1 (apk o79).2 rfl ?_; intro A80 k81 w82 hS; refine Ja <| Je 12 (by decide +kernel) rfl <| Jb 2 <| Js (by decide +kernel) ?_; exact ⟨(x40 ++ [x66], A80, k81, (Y0 x40.length hs43 (fun _ => (A67_9, k68_9)))), ⟨rfl, rfl, rfl, rfl, rfl, rfl, rfl, rfl, trivial⟩, rfl, hv, hS⟩
  rintro ⟨x50, A51, k52, hs53⟩ w83 ⟨hv, hS⟩; have hv := hk85 x50 hv; refine Jd 2 ?_; obtain ⟨o84, hv⟩ := hv; refine WL.add (r := (z45 + (1 : Int))) rfl rfl (wr o84) rfl <| Jb 2 ?_; exact ⟨(x50, (z45 + (1 : Int)), A51, k52, hs53), ⟨rfl, rfl, rfl, rfl, rfl, rfl, rfl, trivial⟩, hv.2, rfl, hv.1, hS⟩
 have hv := hv.2 (oF c49); refine JD <| Jd 2 <| Jh (cs := [nI Pf, nI Mf, nS Af mf kf]) JS JU rfl rfl (Jc (hS.own (i := 4) rfl)) rfl <| Jo rfl rfl <| Jf (off := 0) J7 rfl rfl <| Jp 3 0 XU3 hS rfl rfl rfl ⟨rfl, rfl⟩ <| SL.call hS (Jie (hS.ro hf) (hS.rl (i := 0) rfl) hv) XF48 rfl XN48 rfl rfl ?_; rintro _ _ w86 ⟨x87, x88, A89, k90, hs91, A93, k94, rfl, rfl, hv⟩ hGw86 hS; have hS := hS.n2; refine Jb 5 <| Jd 2 <| Jf (off := 0) J7 rfl rfl <| Jp 5 0 XU3 hS rfl rfl rfl ⟨rfl, rfl⟩ <| Jo rfl rfl <| JO (cells := #[nI Ca, nS A89 x87 k90]) QV rfl rfl rfl <| Jt (cs := [nI Ca, nS A89 x87 k90]) 3 hS rfl Jw rfl rfl rfl rfl rfl ?_; intro w96 hS; refine Jb 2 <| W.ret ?_
 repeat with_reducible first | refine blk.ret ?_ | refine exits.retI ?_
 refine endC.mk ⟨[.agg #[nI Ca, nS A89 x87 k90], nI 0], ⟨_, _, _, rfl, rfl, JG (cs := [nI Ca, nS A89 x87 k90]) Jw JL rfl (Jc (hS.own (i := 3) rfl)), ⟨_, _, rfl, rfl, rfl⟩⟩, ?_⟩; exact (hS.pick [0] rfl).fin rfl ⟨Ca, x87, (0 : Int), A89, k90, hs91, rfl, rfl, hv⟩
end Go.Proofs.YtngdhnijkgjhcaaGreat
set_option linter.unusedSimpArgs false
set_option linter.unusedVariables false
set_option maxRecDepth 4000
set_option maxHeartbeats 4000000
namespace Go.Proofs.YtngdhnijkgjhcaaGreat
open Go.RowKit
def Jhj (Pf : Int) (Mf : Int) (mf : List Int) (Ca : Int) (a : List (List Int)) (Cb : Int) (b : List (List Int)) (Q : Bool -> Prop) : Prop :=
  Jbs  (fun r18 => (((!r18) = true) -> (Jbs  (fun r21 => Q r21))) /\ ((!r18) = false -> (Jse Ca a Cb b (fun r23 => (((!r23) = true) -> (Jbs  (fun r26 => Q r26))) /\ ((!r23) = false -> (Zk Pf Mf mf Ca a Cb b (fun q => match q with | (r28, r29) => YG Pf Mf mf Ca a Cb b (fun q => match q with | (r31, r32) => YH Pf Mf mf Ca a Cb b (fun q => match q with | (c34, x35, r36) => Yx Pf Mf mf Ca a Cb b (fun q => match q with | (c45, x46, r47) => ((r29 = r32) -> ((((r28 == r31) = true) -> (((r36 = r47) -> (Jfq c34 x35 c45 x46 (fun r59 => Q r59))) /\ (¬ (r36 = r47) -> Q false))) /\ ((r28 == r31) = false -> Q false))) /\ (¬ (r29 = r32) -> Q false)))))))))))
theorem Js3 {w : World} {Q : Bool -> Prop} {Pf : Int} {Mf : Int} {mf : List Int} {Ca : Int} {a : List (List Int)} {Cb : Int} {b : List (List Int)} {Bf : Nat} {Af : Option Addr} {nf kf : Nat} (hf : Rd Bf w 1 Af nf kf (is mf)) {Aa : Option Addr} {na ka : Nat} (ha : Rl w Aa na ka a) {Ab : Option Addr} {nb kb : Nat} (hb : Rl w Ab nb kb b) (hv : Jhj Pf Mf mf Ca a Cb b Q) :
   Calls Tryz.prog 4 #[.agg #[.int .i64 Pf, .int .i64 Mf, .slice Af nf kf], .agg #[.int .i64 Ca, .slice Aa na ka], .agg #[.int .i64 Cb, .slice Ab nb kb]] w fun e w' => ∃ v Qr, e = .returned v /\ w.grownBy w' none /\ Rows w.heap.size none w' Qr /\ News w.heap.size Qr /\ ∃ (r0 : Bool), v = .bool r0 /\ Qr = [] /\ Q r0 := by
 have hnf := hf.ilen; subst hnf; have hna := ha.len; subst hna; obtain ⟨hsa, hHa⟩ := ha.heads; have hnb := hb.len; subst hnb; obtain ⟨hsb, hHb⟩ := hb.heads; refine Jl <| Jk (vs := [.agg #[nI Pf, nI Mf, nS Af mf kf], .agg #[nI Ca, nS Aa a ka], .agg #[nI Cb, nS Ab b kb]]) [6] XF4 rfl rfl rfl rfl ?_; have hS := Jq w; unfold Jhj at hv; refine Jd 2 <| JA (z := 3) (cs := [nI Pf, nI Mf, nS Af mf kf]) hS rfl rfl rfl rfl ?_; intro g11 w12 hS; refine JA (z := 2) (cs := [nI Ca, nS Aa a ka]) hS rfl rfl rfl rfl ?_; intro g13 w14 hS; refine JA (z := 2) (cs := [nI Cb, nS Ab b kb]) hS rfl rfl rfl rfl ?_; intro g15 w16 hS; refine Jb 2 <| Jd 3 <| SL.call hS (Jgq  hv) XF11 rfl XN11 rfl rfl ?_; rintro _ _ w17 ⟨r18, rfl, rfl, hv⟩ hGw17 hS; have hS := hS.n0; refine Jcm rfl rfl <| Jo rfl rfl ?_; rcases g19 : (!r18) with _ | _
 .have hv := hv.2 g19; refine WL.take rfl <| Jh (cs := [nI Ca, nS Aa a ka]) Jw JL rfl rfl (Jc (hS.own (i := 1) rfl)) rfl <| WL.take rfl <| Jh (cs := [nI Cb, nS Ab b kb]) Jw JL rfl rfl (Jc (hS.own (i := 0) rfl)) rfl <| WL.take rfl <| SL.call hS (ok_few (RlH.rl (RlH.ext hHa hS.ext)) (RlH.rl (RlH.ext hHb hS.ext)) hv) XF12 rfl XN12 rfl rfl ?_; rintro _ _ w22 ⟨r23, rfl, rfl, hv⟩ hGw22 hS; have hS := hS.n0; refine Jb 4 <| Ji rfl (fun c24 => ?_) (fun c24 => ?_)
  .have hv := hv.1 (c24); refine Jd 2 <| SL.call hS (Jgq  hv) XF11 rfl XN11 rfl rfl ?_; rintro _ _ w25 ⟨r26, rfl, rfl, hv⟩ hGw25 hS; have hS := hS.n0; refine Jb 2 <| W.ret <| ⟨_, rfl, Fin.nil ?_⟩
   exact (hS.pick [] rfl).fin rfl ⟨r26, rfl, rfl, hv⟩
  have hv := hv.2 (c24); refine Jn <| Jd 2 <| Jh (cs := [nI Pf, nI Mf, nS Af mf kf]) JS JU rfl rfl (Jc (hS.own (i := 2) rfl)) rfl <| Jh (cs := [nI Ca, nS Aa a ka]) Jw JL rfl rfl (Jc (hS.own (i := 1) rfl)) rfl <| Jh (cs := [nI Cb, nS Ab b kb]) Jw JL rfl rfl (Jc (hS.own (i := 0) rfl)) rfl <| SL.call hS (Jd5 (hS.ro hf) (RlH.rl (RlH.ext hHa hS.ext)) (RlH.rl (RlH.ext hHb hS.ext)) hv) XF22 rfl XN22 rfl rfl ?_; rintro _ _ w27 ⟨r28, r29, rfl, rfl, hv⟩ hGw27 hS; have hS := hS.n0; refine Jb 6 <| Jd 2 <| Jh (cs := [nI Pf, nI Mf, nS Af mf kf]) JS JU rfl rfl (Jc (hS.own (i := 2) rfl)) rfl <| Jh (cs := [nI Ca, nS Aa a ka]) Jw JL rfl rfl (Jc (hS.own (i := 1) rfl)) rfl <| Jh (cs := [nI Cb, nS Ab b kb]) Jw JL rfl rfl (Jc (hS.own (i := 0) rfl)) rfl <| SL.call hS (Jeo (hS.ro hf) (RlH.rl (RlH.ext hHa hS.ext)) (RlH.rl (RlH.ext hHb hS.ext)) hv) XF23 rfl XN23 rfl rfl ?_; rintro _ _ w30 ⟨r31, r32, rfl, rfl, hv⟩ hGw30 hS; have hS := hS.n0; refine Jb 6 <| Jd 2 <| Jh (cs := [nI Pf, nI Mf, nS Af mf kf]) JS JU rfl rfl (Jc (hS.own (i := 2) rfl)) rfl <| Jh (cs := [nI Ca, nS Aa a ka]) Jw JL rfl rfl (Jc (hS.own (i := 1) rfl)) rfl <| Jh (cs := [nI Cb, nS Ab b kb]) Jw JL rfl rfl (Jc (hS.own (i := 0) rfl)) rfl <| SL.call hS (Jeq (hS.ro hf) (RlH.rl (RlH.ext hHa hS.ext)) (RlH.rl (RlH.ext hHb hS.ext)) hv) XF24 rfl XN24 rfl rfl ?_; rintro _ _ w33 ⟨c34, x35, r36, A37, k38, hs39, rfl, rfl, hv⟩ hGw33 hS; have hS := hS.n1; refine Jb 3 <| SL.alloc (cs := [nI 0, .slice none 0 0]) hS Jw rfl rfl ?_; intro g41 w42 hS; refine Jt (cs := [nI c34, nS A37 x35 k38]) 0 hS rfl Jw rfl rfl rfl rfl rfl ?_; intro w43 hS; refine Jb 2 <| Jd 2 <| Jh (cs := [nI Pf, nI Mf, nS Af mf kf]) JS JU rfl rfl (Jc (hS.own (i := 4) rfl)) rfl <| Jh (cs := [nI Ca, nS Aa a ka]) Jw JL rfl rfl (Jc (hS.own (i := 3) rfl)) rfl <| Jh (cs := [nI Cb, nS Ab b kb]) Jw JL rfl rfl (Jc (hS.own (i := 2) rfl)) rfl <| SL.call hS (Jht (hS.ro hf) (RlH.rl (RlH.ext hHa hS.ext)) (RlH.rl (RlH.ext hHb hS.ext)) hv) XF25 rfl XN25 rfl rfl ?_; rintro _ _ w44 ⟨c45, x46, r47, A48, k49, hs50, rfl, rfl, hv⟩ hGw44 hS; have hS := hS.n1; refine Jb 3 <| SL.alloc (cs := [nI 0, .slice none 0 0]) hS Jw rfl rfl ?_; intro g52 w53 hS; refine Jt (cs := [nI c45, nS A48 x46 k49]) 0 hS rfl Jw rfl rfl rfl rfl rfl ?_; intro w54 hS; refine Jb 2 <| Jd 5 <| Jo rfl rfl ?_; by_cases g55 : r29 = r32
  .have hv := hv.1 g55; rw [decide_eq_true g55]; refine Jb 5 <| WL.eqB (r := (r28 == r31)) rfl rfl XU4 rfl rfl <| WL.pick rfl rfl rfl <| Jo rfl rfl ?_; rcases g56 : (r28 == r31) with _ | _
   .have hv := hv.2 g56; refine Jb 11 <| W.ret <| ⟨_, rfl, Fin.nil ?_⟩
    exact (hS.pick [] rfl).fin rfl ⟨false, rfl, rfl, hv⟩
   have hv := hv.1 g56; refine Jb 7 <| Jo rfl rfl ?_; by_cases g57 : r36 = r47
   .have hv := hv.1 g57; rw [decide_eq_true g57]; refine WL.take rfl <| Jh (cs := [nI c34, nS A37 x35 k38]) Jw JL rfl rfl (Jc (hS.own (i := 2) rfl)) rfl <| WL.take rfl <| Jh (cs := [nI c45, nS A48 x46 k49]) Jw JL rfl rfl (Jc (hS.own (i := 0) rfl)) rfl <| WL.take rfl <| SL.call hS (Jxz (hS.rl (i := 3) rfl) (hS.rl (i := 1) rfl) hv) XF15 rfl XN15 rfl rfl ?_; rintro _ _ w58 ⟨r59, rfl, rfl, hv⟩ hGw58 hS; have hS := hS.n0; refine Jb 3 <| W.ret <| ⟨_, rfl, Fin.nil ?_⟩
    exact (hS.pick [] rfl).fin rfl ⟨r59, rfl, rfl, hv⟩
   have hv := hv.2 g57; rw [decide_eq_false g57]; refine Jb 6 <| W.ret <| ⟨_, rfl, Fin.nil ?_⟩
   exact (hS.pick [] rfl).fin rfl ⟨false, rfl, rfl, hv⟩
  have hv := hv.2 g55; rw [decide_eq_false g55]; refine Jb 16 <| W.ret <| ⟨_, rfl, Fin.nil ?_⟩
  exact (hS.pick [] rfl).fin rfl ⟨false, rfl, rfl, hv⟩
 have hv := hv.1 g19; refine Jb 6 <| Qn rfl <| Jd 2 <| SL.call hS (Jgq  hv) XF11 rfl XN11 rfl rfl ?_; rintro _ _ w20 ⟨r21, rfl, rfl, hv⟩ hGw20 hS; have hS := hS.n0; refine Jb 2 <| W.ret <| ⟨_, rfl, Fin.nil ?_⟩
 exact (hS.pick [] rfl).fin rfl ⟨r21, rfl, rfl, hv⟩
end Go.Proofs.YtngdhnijkgjhcaaGreat
set_option linter.unusedVariables false
namespace Go.Proofs.YtngdhnijkgjhcaaGreat
abbrev Vec := Nat -> Int
def tX (m : Nat) (c : Vec) (v : Vec) : Vec := fun i => if i < m then (if i = 0 then 0 else v (i - 1)) - c i * v (m - 1) else 0
def J8 (u v : Vec) : Vec := fun i => u i + v i
def vsm (a : Int) (v : Vec) : Vec := fun i => a * v i
def vz : Vec := fun _ => 0
def e0 : Vec := fun i => if i = 0 then 1 else 0
def tXn (m : Nat) (c : Vec) : Nat -> Vec -> Vec
  | 0, v => v
  | n + 1, v => tX m c (tXn m c n v)
def opr (m : Nat) (c b : Vec) : Nat -> Vec -> Vec
  | 0, _ => vz
  | n + 1, v => J8 (opr m c b n v) (vsm (b n) (tXn m c n v))
def YD (m : Nat) (c a b : Vec) : Vec := opr m c b m a
section
variable (m : Nat) (c : Vec)
theorem tX_add (u v : Vec) : tX m c (J8 u v) = J8 (tX m c u) (tX m c v) := by
 funext i; simp only [tX, J8]; split
 .split <;> grind
 .rfl
theorem tX_sm (a : Int) (v : Vec) : tX m c (vsm a v) = vsm a (tX m c v) := by
 funext i; simp only [tX, vsm]; split
 .split <;> grind
 .grind
theorem tX_z : tX m c vz = vz := by funext i; simp [tX, vz]
theorem Jcd (u : Vec) : J8 u vz = u := by funext i; simp [J8, vz]
theorem z_vadd (u : Vec) : J8 vz u = u := by funext i; simp [J8, vz]
theorem Jh6 (u v : Vec) : J8 u v = J8 v u := by funext i; simp only [J8]; omega
theorem Z3 (u v w : Vec) : J8 (J8 u v) w = J8 u (J8 v w) := by funext i; simp only [J8]; omega
theorem Je3 (a : Int) (u v : Vec) : vsm a (J8 u v) = J8 (vsm a u) (vsm a v) := by funext i; simp only [J8, vsm]; grind
theorem Jiy (a b : Int) (u : Vec) : vsm a (vsm b u) = vsm (a * b) u := by funext i; simp only [vsm]; grind
theorem Jqt (a : Int) : vsm a vz = vz := by funext i; simp [vsm, vz]
theorem Jcy (n : Nat) (u v : Vec) : tXn m c n (J8 u v) = J8 (tXn m c n u) (tXn m c n v) := by
 induction n with
 | zero => rfl
 | succ n ih => simp only [tXn, ih, tX_add]
theorem Jds (n : Nat) (a : Int) (v : Vec) : tXn m c n (vsm a v) = vsm a (tXn m c n v) := by
 induction n with
 | zero => rfl
 | succ n ih => simp only [tXn, ih, tX_sm]
theorem Jk4 (n : Nat) : tXn m c n vz = vz := by
 induction n with
 | zero => rfl
 | succ n ih => simp only [tXn, ih, tX_z]
theorem Jw6 (n : Nat) (v : Vec) : tXn m c n (tX m c v) = tX m c (tXn m c n v) := by
 induction n with
 | zero => rfl
 | succ n ih => simp only [tXn, ih]
theorem Je7 (n k : Nat) (v : Vec) : tXn m c n (tXn m c k v) = tXn m c (n + k) v := by
 induction n with
 | zero => simp [tXn]
 | succ n ih => rw [Nat.succ_add]; simp only [tXn, ih]
variable (b : Vec)
theorem Jq7 (n : Nat) (u v : Vec) : opr m c b n (J8 u v) = J8 (opr m c b n u) (opr m c b n v) := by
 induction n with
 | zero => simp [opr, Jcd]
 | succ n ih => simp only [opr, ih, Jcy, Je3]; funext i; simp only [J8]; omega
theorem Jnw (n : Nat) (a : Int) (v : Vec) : opr m c b n (vsm a v) = vsm a (opr m c b n v) := by
 induction n with
 | zero => simp [opr, Jqt]
 | succ n ih => simp only [opr, ih, Jds, Je3, Jiy]; rw [Int.mul_comm (b n) a]
theorem opr_z (n : Nat) : opr m c b n vz = vz := by
 induction n with
 | zero => rfl
 | succ n ih => simp only [opr, ih, Jk4, Jqt, Jcd]
theorem Jq6 (n k : Nat) (v : Vec) : opr m c b n (tXn m c k v) = tXn m c k (opr m c b n v) := by
 induction n with
 | zero => simp [opr, Jk4]
 | succ n ih => simp only [opr, ih, Jcy, Jds, Je7]; rw [Nat.add_comm n k]
theorem Jlh (d : Vec) (n k : Nat) (v : Vec) : opr m c b n (opr m c d k v) = opr m c d k (opr m c b n v) := by
 induction n with
 | zero => simp only [opr, opr_z]
 | succ n ih => simp only [opr, ih, Jq7, Jnw, Jq6]
theorem Jxu (d : Vec) (n : Nat) (v : Vec) : opr m c (J8 b d) n v = J8 (opr m c b n v) (opr m c d n v) := by
 induction n with
 | zero => simp [opr, Jcd]
 | succ n ih => simp only [opr, ih]; funext i; simp only [J8, vsm]; grind
end
def vei (k : Nat) : Vec := fun i => if i = k then 1 else 0
theorem Jnm {m : Nat} {c : Vec} : ∀ {k : Nat}, k < m -> tXn m c k e0 = vei k
 | 0, _ => rfl
 | k + 1, h => by
  have ih : tXn m c k e0 = vei k := Jnm (by omega); simp only [tXn, ih]; funext i; simp only [tX, vei]; split
  .rw [if_neg (show ¬ m - 1 = k by omega)]; by_cases h0 : i = 0
   .subst h0; simp
   .simp only [h0, if_false]; by_cases h1 : i = k + 1
    .subst h1; simp
    .rw [if_neg (by omega), if_neg h1]; simp
  .rw [if_neg (by omega)]
theorem Jjf {m : Nat} {c a : Vec} : ∀ {n : Nat}, n <= m -> ∀ i, opr m c a n e0 i = if i < n then a i else 0
  | 0, _, i => by simp [opr, vz]
  | n + 1, h, i => by
    simp only [opr, J8, vsm]
    rw [Jjf (n := n) (by omega) i, Jnm (by omega)]
    simp only [vei]
    by_cases h1 : i = n
    . subst h1; simp
    . by_cases h2 : i < n
      . simp [h2, h1, show i < n + 1 by omega]
      . simp [h2, h1, show ¬ i < n + 1 by omega]
def Sup (m : Nat) (v : Vec) : Prop := ∀ i, m <= i -> v i = 0
theorem ZJ {m : Nat} {c a : Vec} (h : Sup m a) : opr m c a m e0 = a := by
 funext i; rw [Jjf (Nat.le_refl m)]; split
 .rfl
 .exact (h i (by omega)).symm
theorem Sup.z {m : Nat} : Sup m vz := fun _ _ => rfl
theorem Sup.tX {m : Nat} {c v : Vec} : Sup m (tX m c v) := fun i h => by simp [Go.Proofs.YtngdhnijkgjhcaaGreat.tX, show ¬ i < m by omega]
theorem Sup.add {m : Nat} {u v : Vec} (hu : Sup m u) (hv : Sup m v) : Sup m (J8 u v) := fun i h => by simp [J8, hu i h, hv i h]
theorem Sup.sm {m : Nat} {a : Int} {v : Vec} (hv : Sup m v) : Sup m (vsm a v) := fun i h => by simp [vsm, hv i h]
theorem Sup.tXn {m : Nat} {c v : Vec} (hv : Sup m v) : ∀ n, Sup m (tXn m c n v)
 | 0 => hv
 | _ + 1 => Sup.tX
theorem Sup.opr {m : Nat} {c b v : Vec} (hv : Sup m v) : ∀ n, Sup m (opr m c b n v)
 | 0 => Sup.z
 | n + 1 => (Sup.opr hv n).add (hv.tXn n).sm
theorem Jba {m : Nat} {c a b : Vec} (ha : Sup m a) (hb : Sup m b) : YD m c a b = YD m c b a := by
 unfold YD
 calc opr m c b m a = opr m c b m (opr m c a m e0) := by rw [ZJ ha]
  _ = opr m c a m (opr m c b m e0) := Jlh ..
  _ = opr m c a m b := by rw [ZJ hb]
theorem Jng {m : Nat} {c a b d : Vec} (ha : Sup m a) (hb : Sup m b) (hd : Sup m d) : YD m c (YD m c a b) d = YD m c a (YD m c b d) := by
 rw [Jba (a := a) (b := YD m c b d) ha (Sup.opr hb m)]; show opr m c d m (opr m c b m a) = opr m c a m (opr m c d m b); rw [<- Jlh m c d a m m b]; show opr m c d m (YD m c a b) = opr m c d m (YD m c b a); rw [Jba ha hb]
theorem Jws {m : Nat} {c a b d : Vec} : YD m c a (J8 b d) = J8 (YD m c a b) (YD m c a d) := Jxu ..
theorem Jwr {m : Nat} {c a : Vec} (hm : 0 < m) : YD m c a e0 = a := by
 have key : ∀ n, 0 < n -> opr m c e0 n a = a := by
  intro n
  induction n with
  | zero => intro h; omega
  | succ n ih =>
   intro _; rcases Nat.eq_zero_or_pos n with h | h
   .subst h; funext i; simp [opr, e0, J8, vsm, vz, tXn]
   .simp only [opr, ih h]; funext i; simp [e0, J8, vsm, show n ≠ 0 by omega]
 exact key m hm
def vcg (p : Int) (u v : Vec) : Prop := ∀ i, u i % p = v i % p
section
variable {p : Int} {m : Nat} {c c' u u' v v' b b' : Vec}
theorem vcg.refl (u : Vec) : vcg p u u := fun _ => rfl
theorem vcg.symm (h : vcg p u v) : vcg p v u := fun i => (h i).symm
theorem vcg.trans {w : Vec} (h : vcg p u v) (k : vcg p v w) : vcg p u w := fun i => (h i).trans (k i)
theorem Jd7 {a a' d d' : Int} (h : a % p = a' % p) (k : d % p = d' % p) : (a * d) % p = (a' * d') % p := by
 rw [Int.mul_emod, h, k, <- Int.mul_emod]
theorem Jed {a a' d d' : Int} (h : a % p = a' % p) (k : d % p = d' % p) : (a + d) % p = (a' + d') % p := by
 rw [Int.add_emod, h, k, <- Int.add_emod]
theorem Jnn {a a' d d' : Int} (h : a % p = a' % p) (k : d % p = d' % p) : (a - d) % p = (a' - d') % p := by
 rw [Int.sub_emod, h, k, <- Int.sub_emod]
theorem vcg.add (h : vcg p u u') (k : vcg p v v') : vcg p (J8 u v) (J8 u' v') := fun i => Jed (h i) (k i)
theorem vcg.sm {a a' : Int} (ha : a % p = a' % p) (h : vcg p u u') : vcg p (vsm a u) (vsm a' u') := fun i => Jd7 ha (h i)
theorem vcg.tX (hc : vcg p c c') (h : vcg p u u') : vcg p (tX m c u) (tX m c' u') := fun i => by
 simp only [Go.Proofs.YtngdhnijkgjhcaaGreat.tX]; split
 .split
  .exact Jnn rfl (Jd7 (hc i) (h _))
  .exact Jnn (h _) (Jd7 (hc i) (h _))
 .rfl
theorem vcg.tXn (hc : vcg p c c') (h : vcg p u u') : ∀ n, vcg p (tXn m c n u) (tXn m c' n u')
 | 0 => h
 | n + 1 => vcg.tX hc (vcg.tXn hc h n)
theorem vcg.opr (hc : vcg p c c') (hb : vcg p b b') (h : vcg p u u') : ∀ n, vcg p (opr m c b n u) (opr m c' b' n u')
 | 0 => .refl _
 | n + 1 => (vcg.opr hc hb h n).add (vcg.sm (hb n) (vcg.tXn hc h n))
theorem vcg.mul (hc : vcg p c c') (h : vcg p u u') (hb : vcg p b b') : vcg p (YD m c u b) (YD m c' u' b') := vcg.opr hc hb h m
end
end Go.Proofs.YtngdhnijkgjhcaaGreat
set_option linter.unusedVariables false
namespace Go.Proofs.YtngdhnijkgjhcaaGreat
def dv (p x : Nat) : Vec := fun i => ((x / p ^ i % p : Nat) : Int)
def vl (p : Nat) : Nat -> Vec -> Int
  | 0, _ => 0
  | n + 1, v => v 0 + (p : Int) * vl p n (fun i => v (i + 1))
def Cn (p n : Nat) (v : Vec) : Prop := ∀ i, i < n -> 0 <= v i /\ v i < p
def nm (p m : Nat) (v : Vec) : Nat := (vl p m (fun i => v i % (p : Int))).toNat
theorem Jaj (p x i : Nat) : dv p x (i + 1) = dv p (x / p) i := by
 simp only [dv]; rw [Nat.pow_succ', <- Nat.div_div_eq_div_mul]
theorem Zt (p x : Nat) : dv p x 0 = ((x % p : Nat) : Int) := by simp [dv]
theorem Cn.tl {p n : Nat} {v : Vec} (h : Cn p (n + 1) v) : Cn p n (fun i => v (i + 1)) := fun i hi => h (i + 1) (by omega)
theorem Jqu {p : Nat} (hp : 0 < p) : ∀ {n : Nat} {v : Vec}, Cn p n v -> 0 <= vl p n v /\ vl p n v < ((p ^ n : Nat) : Int)
 | 0, v, _ => by simp [vl]
 | n + 1, v, h => by
  have ih := Jqu hp h.tl; have h0 := h 0 (by omega); simp only [vl]; have h1 : (p : Int) * vl p n (fun i => v (i + 1)) <= p * (((p ^ n : Nat) : Int) - 1) := Int.mul_le_mul_of_nonneg_left (by omega) (by omega); have h2 : 0 <= (p : Int) * vl p n (fun i => v (i + 1)) := Int.mul_nonneg (by omega) ih.1; have h3 : ((p ^ (n + 1) : Nat) : Int) = p * ((p ^ n : Nat) : Int) := by rw [Nat.pow_succ']; push_cast; rfl
  have h4 : (p : Int) * (((p ^ n : Nat) : Int) - 1) = p * ((p ^ n : Nat) : Int) - p := by rw [Int.mul_sub, Int.mul_one]
  omega
theorem Jf1 {p : Nat} : ∀ {n : Nat} {u v : Vec}, (∀ i, i < n -> u i = v i) -> vl p n u = vl p n v
 | 0, _, _, _ => rfl
 | n + 1, u, v, h => by simp only [vl]; rw [h 0 (by omega), Jf1 (n := n) fun i hi => h (i + 1) (by omega)]
theorem Jwt {p : Nat} (hp : 0 < p) : ∀ {n x : Nat}, x < p ^ n -> vl p n (dv p x) = x
 | 0, x, h => by simp at h; subst h; rfl
 | n + 1, x, h => by
  simp only [vl]; have : (fun i => dv p x (i + 1)) = dv p (x / p) := by funext i; exact Jaj p x i
  rw [this, Jwt hp (n := n) (by rw [Nat.div_lt_iff_lt_mul hp, <- Nat.pow_succ]; exact h), Zt]; have := Nat.mod_add_div x p; have h2 : ((x % p + p * (x / p) : Nat) : Int) = (x : Int) := by rw [this]
  push_cast at h2 ⊢; exact h2
theorem dv_vl {p : Nat} (hp : 0 < p) : ∀ {n : Nat} {v : Vec}, Cn p n v -> ∀ i, i < n -> dv p (vl p n v).toNat i = v i
 | 0, _, _, i, hi => by omega
 | n + 1, v, h, i, hi => by
  have ih := Jqu hp h.tl; have h0 := h 0 (by omega); obtain ⟨t, ht⟩ := Int.eq_ofNat_of_zero_le ih.1; obtain ⟨a, ha⟩ := Int.eq_ofNat_of_zero_le h0.1; have hv : (vl p (n + 1) v).toNat = a + p * t := by
   simp only [vl]; rw [ht, ha]; have : (a : Int) + (p : Int) * (t : Int) = ((a + p * t : Nat) : Int) := by push_cast; rfl
   rw [this]; rfl
  have hap : a < p := by have := h0.2; rw [ha] at this; omega
  rw [hv]; cases i with
  | zero => rw [Zt, Nat.add_mul_mod_self_left, Nat.mod_eq_of_lt hap, ha]
  | succ i =>
   rw [Jaj]; have h2 : (a + p * t) / p = t := by rw [Nat.add_mul_div_left _ _ hp, Nat.div_eq_of_lt hap, Nat.zero_add]
   have ih2 := dv_vl hp h.tl i (by omega); rw [ht] at ih2; rw [h2]; exact ih2
section
variable {p m : Nat}
theorem md_cn (hp : 0 < p) (v : Vec) (n : Nat) : Cn p n (fun i => v i % (p : Int)) := fun i _ => ⟨Int.emod_nonneg _ (by omega), Int.emod_lt_of_pos _ (by omega)⟩
theorem Jb4 (hp : 0 < p) (v : Vec) : nm p m v < p ^ m := by
 have := Jqu hp (md_cn hp v m); unfold nm; omega
theorem Jrn (hp : 0 < p) (v : Vec) {i : Nat} (hi : i < m) : dv p (nm p m v) i = v i % (p : Int) := dv_vl hp (md_cn hp v m) i hi
theorem Jin (hp : 0 < p) (x n : Nat) : Cn p n (dv p x) := fun i _ => by
 have := Nat.mod_lt (x / p ^ i) hp; simp only [dv]; omega
theorem Jyt {x i : Nat} (hx : x < p ^ m) (hi : m <= i) : dv p x i = 0 := by
 rcases Nat.eq_zero_or_pos p with rfl | hp
 .simp only [dv]; cases m with
  | zero =>
   have : x = 0 := by simpa using hx
   subst this; simp
  | succ m => simp at hx
 .have : x / p ^ i = 0 := Nat.div_eq_of_lt (Nat.lt_of_lt_of_le hx (Nat.pow_le_pow_right hp hi)); simp [dv, this]
theorem Yt {x : Nat} (hx : x < p ^ m) : Sup m (dv p x) := fun i hi => Jyt hx hi
theorem Jcj (x i : Nat) : dv p x i % (p : Int) = dv p x i := by
 simp only [dv]; rw [<- Int.natCast_emod, Nat.mod_mod]
theorem Jb5 (hp : 0 < p) {x : Nat} (hx : x < p ^ m) : nm p m (dv p x) = x := by
 unfold nm; rw [Jf1 (v := dv p x) fun i _ => Jcj x i, Jwt hp hx]; rfl
theorem Jx9 {u v : Vec} (h : ∀ i, i < m -> u i % (p : Int) = v i % (p : Int)) : nm p m u = nm p m v := by
 unfold nm; rw [Jf1 h]
theorem ZC {u v : Vec} (h : vcg p u v) : nm p m u = nm p m v := Jx9 fun i _ => h i
theorem Jmg (hp : 0 < p) {v : Vec} (hv : Sup m v) : vcg p (dv p (nm p m v)) v := fun i => by
 rcases Nat.lt_or_ge i m with h | h
 .rw [Jrn hp v h, Int.emod_emod]
 .rw [Jyt (Jb4 hp v) h, hv i h]
theorem nm_eq (hp : 0 < p) {x : Nat} {v : Vec} (hx : x < p ^ m) (h : ∀ i, i < m -> dv p x i = v i % (p : Int)) : nm p m v = x := by
 rw [<- Jb5 hp hx]; exact Jx9 fun i hi => by rw [h i hi, Int.emod_emod]
end
def Qa (p m x y : Nat) : Nat := nm p m (J8 (dv p x) (dv p y))
def Q0 (p m x : Nat) : Nat := nm p m (vsm (-1) (dv p x))
def JE (p m : Nat) (c : Vec) (x y : Nat) : Nat := nm p m (YD m c (dv p x) (dv p y))
section
variable {p m : Nat} {c : Vec}
theorem Jrm (hp : 0 < p) (x y : Nat) : Qa p m x y < p ^ m := Jb4 hp _
theorem YK (hp : 0 < p) (x : Nat) : Q0 p m x < p ^ m := Jb4 hp _
theorem Jjw (hp : 0 < p) (x y : Nat) : JE p m c x y < p ^ m := Jb4 hp _
theorem Jj1 (hp : 0 < p) {x y : Nat} (hx : x < p ^ m) (hy : y < p ^ m) : vcg p (dv p (Qa p m x y)) (J8 (dv p x) (dv p y)) := Jmg hp ((Yt hx).add (Yt hy))
theorem Qbp (hp : 0 < p) {x : Nat} (hx : x < p ^ m) : vcg p (dv p (Q0 p m x)) (vsm (-1) (dv p x)) := Jmg hp (Yt hx).sm
theorem Jwq {a b : Vec} (ha : Sup m a) : Sup m (YD m c a b) := Sup.opr ha m
theorem Jc8 (hp : 0 < p) {x y : Nat} (hx : x < p ^ m) : vcg p (dv p (JE p m c x y)) (YD m c (dv p x) (dv p y)) := Jmg hp (Jwq (Yt hx))
theorem Jtc (x y : Nat) : Qa p m x y = Qa p m y x := by unfold Qa; rw [Jh6]
theorem Joj (hp : 0 < p) {x y z : Nat} (hx : x < p ^ m) (hy : y < p ^ m) (hz : z < p ^ m) : Qa p m (Qa p m x y) z = Qa p m x (Qa p m y z) := by
 show nm p m (J8 (dv p (Qa p m x y)) (dv p z)) = nm p m (J8 (dv p x) (dv p (Qa p m y z))); rw [ZC ((Jj1 hp hx hy).add (vcg.refl _)), ZC ((vcg.refl (p := p) (dv p x)).add (Jj1 hp hy hz)), Z3]
theorem Jg6 (p : Nat) : dv p 0 = vz := by funext i; simp [dv, vz]
theorem Jtb (hp : 0 < p) {x : Nat} (hx : x < p ^ m) : Qa p m x 0 = x := by unfold Qa; rw [Jg6, Jcd, Jb5 hp hx]
theorem YS (hp : 0 < p) {x : Nat} (hx : x < p ^ m) : Qa p m x (Q0 p m x) = 0 := by
 show nm p m (J8 (dv p x) (dv p (Q0 p m x))) = 0; rw [ZC ((vcg.refl (p := p) (dv p x)).add (Qbp hp hx))]; have : J8 (dv p x) (vsm (-1) (dv p x)) = vz := by funext i; simp only [J8, vsm, vz]; omega
 rw [this, <- Jg6 p, Jb5 hp (by exact Nat.pow_pos hp)]
theorem Jd8 {x y : Nat} (hx : x < p ^ m) (hy : y < p ^ m) : JE p m c x y = JE p m c y x := by
 unfold JE; rw [Jba (Yt hx) (Yt hy)]
theorem Joi (hp : 0 < p) {x y z : Nat} (hx : x < p ^ m) (hy : y < p ^ m) (hz : z < p ^ m) : JE p m c (JE p m c x y) z = JE p m c x (JE p m c y z) := by
 show nm p m (YD m c (dv p (JE p m c x y)) (dv p z)) = nm p m (YD m c (dv p x) (dv p (JE p m c y z))); rw [ZC (vcg.mul (vcg.refl c) (Jc8 hp hx) (vcg.refl _)), ZC (vcg.mul (vcg.refl c) (vcg.refl (dv p x)) (Jc8 hp hy)), Jng (Yt hx) (Yt hy) (Yt hz)]
theorem Jj0 (hp : 2 <= p) : dv p 1 = e0 := by
 funext i; cases i with
 | zero => rw [Zt, Nat.mod_eq_of_lt (by omega)]; rfl
 | succ i =>
  have : (1 : Nat) / p ^ (i + 1) = 0 := Nat.div_eq_of_lt (Nat.one_lt_pow (by omega) (by omega)); simp [dv, this, e0]
theorem Jg2 (hp : 2 <= p) (hm : 0 < m) {x : Nat} (hx : x < p ^ m) : JE p m c x 1 = x := by
 unfold JE; rw [Jj0 hp, Jwr hm, Jb5 (by omega) hx]
theorem Js9 (hp : 0 < p) {x : Nat} (hx : x < p ^ m) : JE p m c x 0 = 0 := by
 rw [Jd8 hx (Nat.pow_pos hp)]; unfold JE; rw [Jg6]; have : YD m c vz (dv p x) = vz := opr_z ..; rw [this, <- Jg6 p, Jb5 hp (Nat.pow_pos hp)]
theorem Jym (hp : 0 < p) {x y z : Nat} (hx : x < p ^ m) (hy : y < p ^ m) (hz : z < p ^ m) : JE p m c x (Qa p m y z) = Qa p m (JE p m c x y) (JE p m c x z) := by
 show nm p m (YD m c (dv p x) (dv p (Qa p m y z))) = nm p m (J8 (dv p (JE p m c x y)) (dv p (JE p m c x z))); rw [ZC (vcg.mul (vcg.refl c) (vcg.refl (dv p x)) (Jj1 hp hy hz)), ZC ((Jc8 (c := c) hp hx).add (Jc8 hp hx)), Jws]
end
structure CR (q : Nat) (A M : Nat -> Nat -> Nat) : Prop where
  q2 : 2 <= q
  Al : ∀ x y, A x y < q
  Ml : ∀ x y, M x y < q
  Ac : ∀ x y, A x y = A y x
  Aa : ∀ {x y z}, x < q -> y < q -> z < q -> A (A x y) z = A x (A y z)
  Az : ∀ {x}, x < q -> A x 0 = x
  An : ∀ {x}, x < q -> ∃ y, y < q /\ A x y = 0
  Mc : ∀ {x y}, x < q -> y < q -> M x y = M y x
  Ma : ∀ {x y z}, x < q -> y < q -> z < q -> M (M x y) z = M x (M y z)
  M1 : ∀ {x}, x < q -> M x 1 = x
  M0 : ∀ {x}, x < q -> M x 0 = 0
  Md : ∀ {x y z}, x < q -> y < q -> z < q -> M x (A y z) = A (M x y) (M x z)
theorem Jqp {p m : Nat} (c : Vec) (hp : 2 <= p) (hm : 0 < m) : CR (p ^ m) (Qa p m) (JE p m c) where
 q2 := Nat.le_trans hp (by have := Nat.pow_le_pow_right (n := p) (by omega) hm; simpa using this)
 Al := Jrm (by omega)
 Ml := Jjw (by omega)
 Ac := Jtc
 Aa := Joj (by omega)
 Az := Jtb (by omega)
 An := fun {x} hx => ⟨Q0 p m x, YK (by omega) x, YS (by omega) hx⟩
 Mc := Jd8
 Ma := Joi (by omega)
 M1 := Jg2 hp hm
 M0 := Js9 (by omega)
 Md := Jym (by omega)
end Go.Proofs.YtngdhnijkgjhcaaGreat
set_option linter.unusedVariables false
namespace Go.Proofs.YtngdhnijkgjhcaaGreat
def pw (M : Nat -> Nat -> Nat) (g : Nat) : Nat -> Nat
  | 0 => 1
  | k + 1 => M (pw M g k) g
theorem php : ∀ (n : Nat) (f : Nat -> Nat), (∀ i, i < n + 1 -> f i < n) -> ∃ i j, i < j /\ j < n + 1 /\ f i = f j
 | 0, f, h => absurd (h 0 (by omega)) (by omega)
 | n + 1, f, h => by
  by_cases hc : ∃ i, i < n + 1 /\ f i = f (n + 1)
  .obtain ⟨i, hi, he⟩ := hc; exact ⟨i, n + 1, hi, by omega, he⟩
  .have hv := h (n + 1) (by omega); obtain ⟨i, j, hij, hj, he⟩ := php n (fun i => if f i = n then f (n + 1) else f i) (fun i hi => by
    have hne : f i ≠ f (n + 1) := fun e => hc ⟨i, hi, e⟩; have := h i (by omega); show (if f i = n then f (n + 1) else f i) < n; split
    .omega
    .omega)
   refine ⟨i, j, hij, by omega, ?_⟩; have hi1 : f i ≠ f (n + 1) := fun e => hc ⟨i, by omega, e⟩; have hj1 : f j ≠ f (n + 1) := fun e => hc ⟨j, by omega, e⟩; split at he <;> split at he <;> omega
theorem Jk6 {n : Nat} {f : Nat -> Nat} (hb : ∀ i, i < n -> f i < n) (hi : ∀ i j, i < j -> j < n -> f i ≠ f j) {y : Nat} (hy : y < n) : ∃ i, i < n /\ f i = y := by
 obtain ⟨i, j, hij, hj, he⟩ := php n (fun i => if i < n then f i else y) (fun i _ => by
  show (if i < n then f i else y) < n; split
  .rename_i h; exact hb i h
  .exact hy)
 rcases Nat.lt_or_ge j n with h | h
 .rw [if_pos h, if_pos (show i < n by omega)] at he; exact absurd he (hi i j hij h)
 .rw [if_neg (show ¬ j < n by omega), if_pos (show i < n by omega)] at he; exact ⟨i, by omega, he⟩
section
variable {q : Nat} {A M : Nat -> Nat -> Nat} (R : CR q A M)
include R
namespace CR
theorem one_lt : 1 < q := R.q2
theorem pos : 0 < q := by have := R.q2; omega
theorem I1 {x : Nat} (hx : x < q) : M 1 x = x := by rw [R.Mc R.one_lt hx, R.M1 hx]
theorem Z0 {x : Nat} (hx : x < q) : M 0 x = 0 := by rw [R.Mc R.pos hx, R.M0 hx]
theorem zA {x : Nat} (hx : x < q) : A 0 x = x := by rw [R.Ac, R.Az hx]
theorem pw_lt (g : Nat) : ∀ k, pw M g k < q
 | 0 => R.one_lt
 | k + 1 => R.Ml _ _
theorem pw_one {g : Nat} (hg : g < q) : pw M g 1 = g := R.I1 hg
theorem pw_add {g : Nat} (hg : g < q) (i : Nat) : ∀ j, pw M g (i + j) = M (pw M g i) (pw M g j)
 | 0 => (R.M1 (R.pw_lt g i)).symm
 | j + 1 => by
  show M (pw M g (i + j)) g = M (pw M g i) (M (pw M g j) g); rw [pw_add hg i j, R.Ma (R.pw_lt g i) (R.pw_lt g j) hg]
theorem pw_pw {g : Nat} (hg : g < q) (i : Nat) : ∀ j, pw M (pw M g i) j = pw M g (i * j)
 | 0 => rfl
 | j + 1 => by
  show M (pw M (pw M g i) j) (pw M g i) = _; rw [pw_pw hg i j, <- R.pw_add hg]; rfl
theorem one_pw : ∀ j, pw M 1 j = 1
 | 0 => rfl
 | j + 1 => by show M (pw M 1 j) 1 = 1; rw [one_pw j, R.M1 R.one_lt]
theorem zero_pw {n : Nat} (h : 0 < n) : pw M 0 n = 0 := by
 cases n with
 | zero => omega
 | succ n => exact R.M0 (R.pw_lt 0 n)
end CR
end
structure Gn (q : Nat) (M : Nat -> Nat -> Nat) (g : Nat) : Prop where
  lt : g < q
  one : pw M g (q - 1) = 1
  no : ∀ k, 0 < k -> k < q - 1 -> pw M g k ≠ 1
namespace Gn
variable {q g : Nat} {A M : Nat -> Nat -> Nat}
theorem per (G : Gn q M g) (R : CR q A M) (i k : Nat) : pw M g (i + (q - 1) * k) = pw M g i := by
 rw [R.pw_add G.lt, <- R.pw_pw G.lt, G.one, R.one_pw, R.M1 (R.pw_lt g i)]
theorem ne0 (G : Gn q M g) (R : CR q A M) (k : Nat) : pw M g k ≠ 0 := fun h => by
 have h1 := G.per R 0 (k + 1); have hq := R.q2; rw [Nat.zero_add] at h1; have : (q - 1) * (k + 1) = k + ((q - 1) * (k + 1) - k) := by
  have : k + 1 <= (q - 1) * (k + 1) := Nat.le_mul_of_pos_left _ (by omega); omega
 rw [this, R.pw_add G.lt, h, R.Z0 (R.pw_lt g _)] at h1; exact absurd h1 (by show ¬ (0 : Nat) = 1; omega)
theorem inj (G : Gn q M g) (R : CR q A M) {i j : Nat} (hij : i < j) (hj : j < q - 1) : pw M g i ≠ pw M g j := fun h => by
 have e1 : M (pw M g i) (pw M g (q - 1 - i)) = 1 := by rw [<- R.pw_add G.lt, show i + (q - 1 - i) = q - 1 by omega, G.one]
 have e2 : M (pw M g j) (pw M g (q - 1 - i)) = pw M g (j - i) := by
  rw [<- R.pw_add G.lt, show j + (q - 1 - i) = (j - i) + (q - 1) * 1 by omega, G.per R]
 rw [h] at e1; exact G.no (j - i) (by omega) (by omega) (e2.symm.trans e1)
theorem surj (G : Gn q M g) (R : CR q A M) {x : Nat} (h0 : 0 < x) (hx : x < q) : ∃ k, k < q - 1 /\ pw M g k = x := by
 obtain ⟨i, hi, he⟩ := Jk6 (n := q - 1) (f := fun k => pw M g k - 1) (fun i hi => by
  have := R.pw_lt g i; have := G.ne0 R i; show pw M g i - 1 < q - 1; omega) (fun i j hij hj he => by
  have h1 := G.ne0 R i; have h2 := G.ne0 R j; exact G.inj R hij hj (by omega)) (y := x - 1) (by omega)
 have := G.ne0 R i; exact ⟨i, hi, by omega⟩
open Classical in
noncomputable def lg (q : Nat) (M : Nat -> Nat -> Nat) (g x : Nat) : Nat := if h : ∃ k, k < q - 1 /\ pw M g k = x then Classical.choose h else 0
theorem xone (G : Gn q M g) (R : CR q A M) {x : Nat} (h0 : 0 < x) (hx : x < q) : pw M x (q - 1) = 1 := by
  obtain ⟨k, hk, rfl⟩ := G.surj R h0 hx
  rw [R.pw_pw G.lt, Nat.mul_comm, <- R.pw_pw G.lt, G.one, R.one_pw]
end Gn
end Go.Proofs.YtngdhnijkgjhcaaGreat
set_option linter.unusedVariables false
namespace Go.Proofs.YtngdhnijkgjhcaaGreat
structure IsLf (n d : Nat) : Prop where
  two : 2 <= d
  dvd : n % d = 0
  min : ∀ e, 2 <= e -> n % e = 0 -> d <= e
def Jyw : Nat -> Nat -> Nat
  | _, 0 => 1
  | 0, _ + 1 => 0
  | n + 1, k + 1 => Jyw n k + Jyw n (k + 1)
section
variable {q : Nat} {A M : Nat -> Nat -> Nat} (R : CR q A M)
include R
namespace CR
theorem Aac {a b c : Nat} (ha : a < q) (hb : b < q) (hc : c < q) : A (A a b) c = A (A a c) b := by
 rw [R.Aa ha hb hc, R.Ac b c, <- R.Aa ha hc hb]
theorem A4 {a b c d : Nat} (ha : a < q) (hb : b < q) (hc : c < q) (hd : d < q) : A (A a b) (A c d) = A (A a c) (A b d) := by
 rw [<- R.Aa (R.Al a b) hc hd, R.Aac ha hb hc, R.Aa (R.Al a c) hb hd]
end CR
end
end Go.Proofs.YtngdhnijkgjhcaaGreat
set_option linter.unusedVariables false
namespace Go.Proofs.YtngdhnijkgjhcaaGreat
def hz (m : Nat) (c b y : Vec) (n : Nat) : Nat -> Vec
  | 0 => vz
  | k + 1 => J8 (tX m c (hz m c b y n k)) (vsm (b (n - 1 - k)) y)
theorem Jyh {m : Nat} {c b y : Vec} {n : Nat} : ∀ {k : Nat}, k <= n -> J8 (tXn m c (n - k) (hz m c b y n k)) (opr m c b (n - k) y) = opr m c b n y
 | 0, _ => by simp only [hz, Nat.sub_zero]; rw [Jk4, z_vadd]
 | k + 1, h => by
  have ih := Jyh (m := m) (c := c) (b := b) (y := y) (n := n) (k := k) (by omega); obtain ⟨r, hr⟩ : ∃ r, n - k = r + 1 := ⟨n - k - 1, by omega⟩
  rw [show n - (k + 1) = r by omega]; rw [hr] at ih; rw [<- ih]; show J8 (tXn m c r (J8 (tX m c (hz m c b y n k)) (vsm (b (n - 1 - k)) y))) (opr m c b r y) = J8 (tX m c (tXn m c r (hz m c b y n k))) (J8 (opr m c b r y) (vsm (b r) (tXn m c r y))); rw [Jcy, Jds, Jw6, show n - 1 - k = r by omega, Z3, Jh6 (vsm _ _)]
theorem hz_all (m : Nat) (c b y : Vec) (n : Nat) : hz m c b y n n = opr m c b n y := by
 have := Jyh (m := m) (c := c) (b := b) (y := y) (n := n) (k := n) (Nat.le_refl n); rw [Nat.sub_self] at this; rw [<- this]; exact (Jcd _).symm
def dgl (p : Nat) : Nat -> Nat -> List Nat
  | 0, _ => []
  | n + 1, x => (x % p) :: dgl p n (x / p)
theorem Yd (p : Nat) : ∀ n x, (dgl p n x).length = n
 | 0, _ => rfl
 | n + 1, x => by simp [dgl, Yd p n]
theorem Jeb (p : Nat) : ∀ n x i, i < n -> (((dgl p n x).getD i 0 : Nat) : Int) = dv p x i
 | 0, _, i, h => by omega
 | n + 1, x, 0, _ => by rw [Zt]; rfl
 | n + 1, x, i + 1, h => by
  show (((dgl p n (x / p)).getD i 0 : Nat) : Int) = _; rw [Jeb p n (x / p) i (by omega), Jaj]
@[reducible] noncomputable def hd0 (l : List Nat) : Nat := List.rec (motive := fun _ => Nat) 0 (fun x _ _ => x) l
@[reducible] noncomputable def tl0 (l : List Nat) : List Nat := List.rec (motive := fun _ => List Nat) [] (fun _ l _ => l) l
noncomputable def go (p a top : Nat) (cs : List Nat) : Nat -> List Nat -> List Nat -> List Nat :=
  List.rec (motive := fun _ => Nat -> List Nat -> List Nat -> List Nat) (fun _ _ _ => [])
    (fun c _ ih prev us ys => ((prev + (p - c) * top + a * hd0 ys) % p) :: ih (hd0 us) (tl0 us) (tl0 ys)) cs
noncomputable def tp (l : List Nat) : Nat -> Nat := List.rec (motive := fun _ => Nat -> Nat) (fun d => d) (fun x _ ih _ => ih x) l
noncomputable def Jn7 (p : Nat) (cs ys gs : List Nat) : List Nat -> List Nat :=
  List.rec (motive := fun _ => List Nat -> List Nat) (fun acc => acc) (fun g _ ih acc => ih (go p g (tp acc 0) cs 0 acc ys)) gs
noncomputable def az (l : List Nat) : Bool := List.rec (motive := fun _ => Bool) true (fun x _ ih => bif Nat.beq x 0 then ih else false) l
noncomputable def is1 (l : List Nat) : Bool := List.rec (motive := fun _ => Bool) false (fun x t _ => bif Nat.beq x 1 then az t else false) l
noncomputable def run (p : Nat) (cs gs : List Nat) (n : Nat) : List Nat -> Bool :=
  Nat.rec (motive := fun _ => List Nat -> Bool) (fun y => is1 y) (fun _ ih y => bif is1 y then false else ih (Jn7 p cs y gs y)) n
noncomputable def Jk9 (p c : Nat) (al : List Nat) : List Nat -> List Nat :=
  List.rec (motive := fun _ => List Nat -> List Nat) (fun bs => bs) (fun a _ ih bs => ((hd0 bs + (p - a) * c) % p) :: ih (tl0 bs)) al
noncomputable def dvg (p : Nat) (low : List Nat) (k : Nat) : List Nat -> Bool :=
  Nat.rec (motive := fun _ => List Nat -> Bool) (fun r => az r) (fun _ ih r => ih (Jk9 p (hd0 r) low (tl0 r))) k
noncomputable def nob (f : Nat -> Bool) (n : Nat) : Bool := Nat.rec (motive := fun _ => Bool) true (fun i ih => bif f i then false else ih) n
noncomputable def irrB (p m : Nat) (ml : List Nat) : Bool :=
  nob (fun d => !nob (fun w => dvg p (dgl p (d + 1) w).reverse (m - d) (1 :: ml.reverse)) (p ^ (d + 1))) (m / 2)
noncomputable def cand (p c : Nat) : List Nat := bif Nat.blt c p then [c] else bif Nat.blt c (p + p * p) then [(c - p) / p, (c - p) % p] else [(c - p - p * p) / (p * p), (c - p - p * p) / p % p, (c - p - p * p) % p]
noncomputable def gen1 (p m : Nat) (cs gs : List Nat) : Bool := run p cs gs (p ^ m - 2) (Jn7 p cs (dgl p m 1) gs (dgl p m 1))
noncomputable def Jof (p m : Nat) (cs : List Nat) : Bool := !nob (fun c => gen1 p m cs (cand p (p + p * p + p * p * p - 1 - c))) (p + p * p + p * p * p)
noncomputable def chk (p m lo n : Nat) : Bool := nob (fun v => bif irrB p m (dgl p m (lo + v)) then !Jof p m (dgl p m (lo + v)) else false) n

theorem Jju (l : List Nat) : hd0 l = l.getD 0 0 := by cases l <;> rfl
theorem Jf7 (l : List Nat) (i : Nat) : (tl0 l).getD i 0 = l.getD (i + 1) 0 := by cases l <;> rfl
theorem Qak (l : List Nat) : (tl0 l).length = l.length - 1 := by cases l <;> simp [tl0]
theorem Jjv (p a top c : Nat) (cs : List Nat) (prev : Nat) (us ys : List Nat) : go p a top (c :: cs) prev us ys = ((prev + (p - c) * top + a * hd0 ys) % p) :: go p a top cs (hd0 us) (tl0 us) (tl0 ys) := rfl
theorem Jyj (p a top : Nat) : ∀ (cs : List Nat) (prev : Nat) (us ys : List Nat), (go p a top cs prev us ys).length = cs.length
 | [], _, _, _ => rfl
 | c :: cs, prev, us, ys => by rw [Jjv, List.length_cons, Jyj p a top cs, List.length_cons]
theorem go_at (p a top : Nat) : ∀ (cs : List Nat) (prev : Nat) (us ys : List Nat) (i : Nat), i < cs.length -> (go p a top cs prev us ys).getD i 0 = ((if i = 0 then prev else us.getD (i - 1) 0) + (p - cs.getD i 0) * top + a * ys.getD i 0) % p
 | [], _, _, _, i, h => by simp at h
 | c :: cs, prev, us, ys, 0, _ => by rw [Jjv, Jju]; rfl
 | c :: cs, prev, us, ys, i + 1, h => by
  rw [Jjv]; show (go p a top cs (hd0 us) (tl0 us) (tl0 ys)).getD i 0 = _; rw [go_at p a top cs _ _ _ i (by simpa using h)]; cases i with
  | zero => rw [if_pos rfl, if_neg (by omega), Jju, Jf7]; rfl
  | succ i => rw [if_neg (by omega), if_neg (by omega), Jf7, Jf7]; rfl
theorem tp_eq : ∀ (l : List Nat) (d : Nat), 0 < l.length -> tp l d = l.getD (l.length - 1) 0
 | [], _, h => by simp at h
 | [x], d, _ => rfl
 | x :: y :: l, d, _ => by
  show tp (y :: l) x = _; rw [tp_eq (y :: l) x (by simp)]; simp
def Rep (p m : Nat) (L : List Nat) (v : Vec) : Prop := L.length = m /\ ∀ i, i < m -> ((L.getD i 0 : Nat) : Int) = v i % (p : Int)
def hl (m : Nat) (c y : Vec) : List Nat -> Vec -> Vec
  | [], u => u
  | g :: gs, u => hl m c y gs (J8 (tX m c u) (vsm g y))
theorem Rep.step {p m : Nat} {cs us ys : List Nat} {c u y : Vec} (hp : 0 < p) (hm : 0 < m) (hc : Rep p m cs c) (hu : Rep p m us u) (hy : Rep p m ys y) (g : Nat) :
  Rep p m (go p g (tp us 0) cs 0 us ys) (J8 (tX m c u) (vsm g y)) := by
 refine ⟨by rw [Jyj, hc.1], fun i hi => ?_⟩; rw [go_at _ _ _ _ _ _ _ _ (by rw [hc.1]; exact hi), tp_eq _ _ (by rw [hu.1]; exact hm), hu.1]; have h1 := hu.2 (m - 1) (by omega); have h2 := hc.2 i hi; have h3 := hy.2 i hi; have hlt : cs.getD i 0 <= p := by
  have := Int.emod_lt_of_pos (c i) (show (0 : Int) < p by omega); omega
 have e : (((if i = 0 then 0 else us.getD (i - 1) 0) : Nat) : Int) % p = (if i = 0 then (0 : Int) else u (i - 1)) % p := by
  split
  .rfl
  .rw [hu.2 (i - 1) (by omega), Int.emod_emod]
 simp only [J8, vsm, tX, if_pos hi]; generalize (if i = 0 then 0 else us.getD (i - 1) 0 : Nat) = A at *
 generalize (if i = 0 then (0 : Int) else u (i - 1)) = B at *
 generalize us.getD (m - 1) 0 = T at *
 generalize cs.getD i 0 = C at *
 generalize ys.getD i 0 = Y at *
 have hT : ((T : Nat) : Int) % p = u (m - 1) % p := by rw [h1, Int.emod_emod]
 have hC : ((C : Nat) : Int) % p = c i % p := by rw [h2, Int.emod_emod]
 have hY : ((Y : Nat) : Int) % p = y i % p := by rw [h3, Int.emod_emod]
 obtain ⟨D, hD⟩ : ∃ D, p = C + D := ⟨p - C, by omega⟩
 have hsub : p - C = D := by omega
 rw [hsub]; have hcast : ((A + D * T + g * Y : Nat) : Int) = ((A : Int) - C * T + g * Y) + p * T := by
  have : (p : Int) = C + D := by omega
  rw [this]; push_cast; rw [Int.add_mul]; omega
 rw [Int.natCast_emod, hcast, Int.add_mul_emod_self_left]; exact Jed (Jnn e (Jd7 hC hT)) (Jd7 rfl hY)
theorem Js8 (p : Nat) (cs ys : List Nat) (g : Nat) (gs acc : List Nat) : Jn7 p cs ys (g :: gs) acc = Jn7 p cs ys gs (go p g (tp acc 0) cs 0 acc ys) := rfl
theorem Rep.mul {p m : Nat} {cs ys : List Nat} {c y : Vec} (hp : 0 < p) (hm : 0 < m) (hc : Rep p m cs c) (hy : Rep p m ys y) : ∀ {gs us : List Nat} {u : Vec}, Rep p m us u -> Rep p m (Jn7 p cs ys gs us) (hl m c y gs u)
 | [], _, _, h => h
 | g :: gs, us, u, h => by rw [Js8]; exact Rep.mul hp hm hc hy (Rep.step hp hm hc h hy g)
theorem Joc {m : Nat} {c y : Vec} (hy : Sup m y) : ∀ {gs : List Nat} {u : Vec}, Sup m u -> Sup m (hl m c y gs u)
 | [], _, h => h
 | g :: gs, u, h => Joc (gs := gs) (u := J8 (tX m c u) (vsm g y)) hy (Sup.add Sup.tX hy.sm)
theorem Jyi {m : Nat} {c y : Vec} (hy : Sup m y) : ∀ {gs : List Nat} {U : Vec}, hl m c y gs (opr m c y m U) = opr m c y m (hl m c e0 gs U)
  | [], _ => rfl
  | g :: gs, U => by
    show hl m c y gs (J8 (tX m c (opr m c y m U)) (vsm g y)) = opr m c y m (hl m c e0 gs (J8 (tX m c U) (vsm g e0)))
    rw [<- Jyi hy, Jq7, Jnw, ZJ hy]
    have := Jq6 m c y m 1 U
    rw [show tXn m c 1 U = tX m c U from rfl, show tXn m c 1 (opr m c y m U) = tX m c (opr m c y m U) from rfl] at this
    rw [this]
theorem Jjz {m : Nat} (hm : 0 < m) : Sup m e0 := fun i hi => by simp [e0, show i ≠ 0 by omega]
theorem hl_mul {m : Nat} {c y : Vec} (hm : 0 < m) (hy : Sup m y) (gs : List Nat) : hl m c y gs y = YD m c y (hl m c e0 gs e0) := by
 rw [Jba hy (Joc (Jjz hm) (Jjz hm))]; show _ = opr m c y m (hl m c e0 gs e0); rw [<- Jyi hy, ZJ hy]
theorem Jz6 {p m x : Nat} : Rep p m (dgl p m x) (dv p x) := ⟨Yd p m x, fun i hi => by rw [Jeb p m x i hi, Jcj]⟩
theorem Rep.cg {p m : Nat} {L : List Nat} {u v : Vec} (h : Rep p m L u) (hv : ∀ i, i < m -> u i % (p : Int) = v i % (p : Int)) : Rep p m L v := ⟨h.1, fun i hi => by rw [h.2 i hi, hv i hi]⟩
theorem Qbu (x : Nat) (l : List Nat) : az (x :: l) = bif Nat.beq x 0 then az l else false := rfl
theorem Jj7 : ∀ l : List Nat, az l = true ↔ ∀ i, i < l.length -> l.getD i 0 = 0
 | [] => ⟨fun _ i h => by simp at h, fun _ => rfl⟩
 | x :: l => by
  rw [Qbu]; cases hx : Nat.beq x 0 with
  | true =>
   have := Nat.eq_of_beq_eq_true hx; subst this; rw [show (bif true then az l else false) = az l from rfl, Jj7 l]; constructor
   .intro h i hi; cases i with
    | zero => rfl
    | succ i => exact h i (by simpa using hi)
   .intro h i hi; exact h (i + 1) (by simpa using hi)
  | false =>
   rw [show (bif false then az l else false) = false from rfl]; constructor
   .intro h; cases h
   .intro h; have := h 0 (by simp); simp only [List.getD_cons_zero] at this; subst this; cases hx
theorem Jrj {p m x : Nat} {L : List Nat} (hp : 2 <= p) (hm : 0 < m) (hx : x < p ^ m) (h : Rep p m L (Go.Proofs.YtngdhnijkgjhcaaGreat.dv p x)) : is1 L = true ↔ x = 1 := by
 obtain ⟨a, l, rfl⟩ : ∃ a l, L = a :: l := by
  cases L with
  | nil => have := h.1; simp at this; omega
  | cons a l => exact ⟨a, l, rfl⟩
 have hlen : l.length + 1 = m := h.1; have h0 := h.2 0 hm; have e : is1 (a :: l) = bif Nat.beq a 1 then az l else false := rfl; rw [e]; constructor
 .intro hb; cases ha : Nat.beq a 1 with
  | false => rw [ha] at hb; cases hb
  | true =>
   rw [ha] at hb; have hz := (Jj7 l).1 hb; have ha1 := Nat.eq_of_beq_eq_true ha; subst ha1; rw [<- Jb5 (p := p) (m := m) (by omega) hx, <- Jb5 (p := p) (m := m) (x := 1) (by omega) (Nat.one_lt_pow (by omega) (by omega))]; refine Jx9 fun i hi => ?_; rw [Jj0 hp, Jcj, <- Jcj, <- h.2 i hi]; cases i with
   | zero =>
    show (1 : Int) = e0 0 % p; simp only [e0, if_pos]; exact (Int.emod_eq_of_lt (by omega) (by omega)).symm
   | succ i =>
    show ((l.getD i 0 : Nat) : Int) = e0 (i + 1) % p; rw [hz i (by omega)]; simp [e0]
 .intro hx1; subst hx1; have ha : a = 1 := by
   have : ((a : Nat) : Int) = Go.Proofs.YtngdhnijkgjhcaaGreat.dv p 1 0 % p := h0; rw [Jcj, Jj0 hp] at this; simp [e0] at this; omega
  subst ha; show az l = true; refine (Jj7 l).2 fun i hi => ?_; have : ((l.getD i 0 : Nat) : Int) = Go.Proofs.YtngdhnijkgjhcaaGreat.dv p 1 (i + 1) % p := h.2 (i + 1) (by omega); rw [Jcj, Jj0 hp] at this; simp only [e0] at this; rw [if_neg (by omega)] at this; exact Int.ofNat_eq_zero.1 this
def gel (p m : Nat) (c : Vec) (gs : List Nat) : Nat := nm p m (hl m c e0 gs e0)
theorem Jm3 {p m x : Nat} {cs L gs : List Nat} {c : Vec} (hp : 2 <= p) (hm : 0 < m) (hx : x < p ^ m) (hc : Rep p m cs c) (h : Rep p m L (Go.Proofs.YtngdhnijkgjhcaaGreat.dv p x)) : Rep p m (Jn7 p cs L gs L) (Go.Proofs.YtngdhnijkgjhcaaGreat.dv p (JE p m c x (gel p m c gs))) := by
 have h1 := Rep.mul (gs := gs) (by omega) hm hc h h; rw [hl_mul hm (Yt hx)] at h1; refine h1.cg fun i hi => ?_; have hs := Joc (c := c) (gs := gs) (Jjz hm) (Jjz hm); have e1 := Jc8 (p := p) (m := m) (c := c) (by omega) hx (y := gel p m c gs); have e2 := vcg.mul (m := m) (vcg.refl (p := p) c) (vcg.refl (Go.Proofs.YtngdhnijkgjhcaaGreat.dv p x)) (Jmg (p := p) (m := m) (by omega) hs); exact ((e1.trans e2) i).symm
theorem Jxh (p : Nat) (cs gs : List Nat) (n : Nat) (y : List Nat) : run p cs gs (n + 1) y = bif is1 y then false else run p cs gs n (Jn7 p cs y gs y) := rfl
theorem Jxi {p m : Nat} {cs gs : List Nat} {c : Vec} (hp : 2 <= p) (hm : 0 < m) (hc : Rep p m cs c) : ∀ {n : Nat} {L : List Nat} {x : Nat}, x < p ^ m -> Rep p m L (Go.Proofs.YtngdhnijkgjhcaaGreat.dv p x) -> run p cs gs n L = true ->
  (∀ k, k < n -> JE p m c x (pw (JE p m c) (gel p m c gs) k) ≠ 1) /\ JE p m c x (pw (JE p m c) (gel p m c gs) n) = 1
 | 0, L, x, hx, h, hr => by
  refine ⟨fun k hk => by omega, ?_⟩; show JE p m c x 1 = 1; rw [Jg2 hp hm hx]; exact (Jrj hp hm hx h).1 hr
 | n + 1, L, x, hx, h, hr => by
  rw [Jxh] at hr; cases h1 : is1 L with
  | true => rw [h1] at hr; cases hr
  | false =>
   rw [h1] at hr; have R := Jqp (p := p) (m := m) c hp hm; have hg : gel p m c gs < p ^ m := Jb4 (by omega) _; have ih := Jxi hp hm hc (Jjw (by omega) x _) (Jm3 (gs := gs) hp hm hx hc h) hr; have e : ∀ k, JE p m c (JE p m c x (gel p m c gs)) (pw (JE p m c) (gel p m c gs) k) = JE p m c x (pw (JE p m c) (gel p m c gs) (k + 1)) := fun k => by
    rw [R.Ma hx hg (R.pw_lt _ k), R.Mc hg (R.pw_lt _ k)]; rfl
   refine ⟨fun k hk => ?_, by rw [<- e]; exact ih.2⟩; cases k with
   | zero =>
    show JE p m c x 1 ≠ 1; rw [Jg2 hp hm hx]; intro hx1; rw [(Jrj hp hm hx h).2 hx1] at h1; cases h1
   | succ k => rw [<- e]; exact ih.1 k (by omega)
theorem Qbk {p m : Nat} {cs gs : List Nat} {c : Vec} (hp : 2 <= p) (hm : 0 < m) (hc : Rep p m cs c) (h : gen1 p m cs gs = true) : Gn (p ^ m) (JE p m c) (gel p m c gs) := by
 have R := Jqp (p := p) (m := m) c hp hm; have hg : gel p m c gs < p ^ m := Jb4 (by omega) _; have h1 := Jm3 (gs := gs) hp hm R.one_lt hc Jz6; rw [R.I1 hg] at h1; obtain ⟨h2, h3⟩ := Jxi hp hm hc hg h1 h; have hq := R.q2; have e : ∀ k, JE p m c (gel p m c gs) (pw (JE p m c) (gel p m c gs) k) = pw (JE p m c) (gel p m c gs) (k + 1) := fun k => R.Mc hg (R.pw_lt _ k); refine ⟨hg, ?_, fun k h0 hk => ?_⟩
 .rw [show p ^ m - 1 = (p ^ m - 2) + 1 by omega, <- e]; exact h3
 .rw [show k = (k - 1) + 1 by omega, <- e]; exact h2 (k - 1) (by omega)
theorem Jx8 (f : Nat -> Bool) (n : Nat) : nob f (n + 1) = bif f n then false else nob f n := rfl
theorem Jbf (f : Nat -> Bool) : ∀ n, nob f n = true ↔ ∀ i, i < n -> f i = false
 | 0 => ⟨fun _ i h => by omega, fun _ => rfl⟩
 | n + 1 => by
  rw [Jx8]; cases h : f n with
  | true =>
   refine ⟨fun h' => ?_, fun h' => ?_⟩
   .cases h'
   .rw [h' n (by omega)] at h; cases h
  | false =>
   show nob f n = true ↔ _; rw [Jbf f n]; refine ⟨fun h' i hi => ?_, fun h' i hi => h' i (by omega)⟩; rcases Nat.lt_or_ge i n with h1 | h1
   .exact h' i h1
   .rw [show i = n by omega]; exact h
theorem Js6 (f : Nat -> Bool) (n : Nat) (h : nob f n = false) : ∃ i, i < n /\ f i = true := by
 have hn : ¬ ∀ i, i < n -> f i = false := fun h' => by rw [(Jbf f n).2 h'] at h; cases h
 have := Classical.not_forall.1 hn; obtain ⟨i, hi⟩ := this; have h2 := Classical.not_imp.1 hi; exact ⟨i, h2.1, by cases hf : f i with | true => rfl | false => exact absurd hf h2.2⟩
theorem Jrl {p m : Nat} {cs : List Nat} {c : Vec} (hp : 2 <= p) (hm : 0 < m) (hc : Rep p m cs c) (h : Jof p m cs = true) : ∃ g, Gn (p ^ m) (JE p m c) g := by
 unfold Jof at h; obtain ⟨i, _, hi⟩ := Js6 _ _ (by simpa using h); exact ⟨_, Qbk hp hm hc hi⟩
def rst (p d i : Nat) (l R : Vec) : Vec := fun j => if i <= j + d /\ j < i then (R j - l (j + d - i) * R i) % (p : Int) else R j
def rem (p d : Nat) (l R : Vec) (n : Nat) : Nat -> Vec
  | 0 => R
  | k + 1 => rst p d (n - 1 - k) l (rem p d l R n k)
def Dvd (p d : Nat) (l R : Vec) (n : Nat) : Prop := ∀ j, j < d -> rem p d l R n (n - d) j = 0
def Irr (p m : Nat) (c : Vec) : Prop := ∀ d, 0 < d -> 2 * d <= m -> ∀ w, w < p ^ d -> ¬ Dvd p d (dv p w) (fun i => if i = m then 1 else c i) (m + 1)
theorem Jdt (p c a : Nat) (al bs : List Nat) : Jk9 p c (a :: al) bs = ((hd0 bs + (p - a) * c) % p) :: Jk9 p c al (tl0 bs) := rfl
theorem Jk8 (p c : Nat) : ∀ al bs : List Nat, al.length <= bs.length -> (Jk9 p c al bs).length = bs.length
 | [], _, _ => rfl
 | a :: al, [], h => by simp at h
 | a :: al, b :: bs, h => by
  rw [Jdt, List.length_cons]; show (Jk9 p c al bs).length + 1 = _; rw [Jk8 p c al bs (by simpa using h)]; rfl
theorem Jqz (p c : Nat) : ∀ (al bs : List Nat) (t : Nat), (Jk9 p c al bs).getD t 0 = if t < al.length then (bs.getD t 0 + (p - al.getD t 0) * c) % p else bs.getD t 0
 | [], bs, t => by simp; rfl
 | a :: al, bs, 0 => by rw [Jdt, Jju]; simp
 | a :: al, bs, t + 1 => by
  rw [Jdt]; show (Jk9 p c al (tl0 bs)).getD t 0 = _; rw [Jqz p c al (tl0 bs) t, Jf7]; simp
theorem Jyr (p : Nat) (low : List Nat) (k : Nat) (r : List Nat) : dvg p low (k + 1) r = dvg p low k (Jk9 p (hd0 r) low (tl0 r)) := rfl
theorem Jys {p d n : Nat} {l R : Vec} {low : List Nat} (hp : 0 < p) (hl : low.length = d) (hlow : ∀ t, t < d -> ((low.getD t 0 : Nat) : Int) = l (d - 1 - t)) (hlp : ∀ t, t < d -> low.getD t 0 <= p) : ∀ (s k : Nat) (r : List Nat), s + k + d = n -> r.length = n - k ->
  (∀ t, t < n - k -> ((r.getD t 0 : Nat) : Int) = rem p d l R n k (n - 1 - k - t)) -> (dvg p low s r = true ↔ Dvd p d l R n)
 | 0, k, r, hs, hr, hv => by
  have : n - k = d := by omega
  rw [this] at hr hv; show az r = true ↔ _; rw [Jj7, hr]; have hk : n - d = k := by omega
  unfold Dvd; rw [hk]; constructor
  .intro h j hj; have := hv (d - 1 - j) (by omega); rw [h (d - 1 - j) (by omega), show n - 1 - k - (d - 1 - j) = j by omega] at this; exact this.symm
  .intro h t ht; have := hv t ht; rw [h (n - 1 - k - t) (by omega)] at this; exact Int.ofNat_eq_zero.1 this
 | s + 1, k, r, hs, hr, hv => by
  rw [Jyr]; have htl : (tl0 r).length = n - (k + 1) := by rw [Qak, hr]; omega
  refine Jys hp hl hlow hlp s (k + 1) _ (by omega) (by rw [Jk8 _ _ _ _ (by rw [htl, hl]; omega), htl]) fun t ht => ?_; rw [Jqz, hl, Jf7, Jju]; have h0 := hv 0 (by omega); rw [Nat.sub_zero] at h0; have h1 := hv (t + 1) (by omega); rw [show n - 1 - k - (t + 1) = n - 1 - (k + 1) - t by omega] at h1; show _ = rst p d (n - 1 - k) l (rem p d l R n k) (n - 1 - (k + 1) - t); unfold rst; by_cases htd : t < d
  .rw [if_pos htd, if_pos (by omega)]; have h2 := hlow t htd; have h3 := hlp t htd; rw [show n - 1 - (k + 1) - t + d - (n - 1 - k) = d - 1 - t by omega, <- h0, <- h1, <- h2]; generalize r.getD (t + 1) 0 = X at *
   generalize low.getD t 0 = Y at *
   generalize r.getD 0 0 = Z at *
   obtain ⟨D, hD⟩ : ∃ D, p = Y + D := ⟨p - Y, by omega⟩
   rw [show p - Y = D by omega, Int.natCast_emod]; have hcast : ((X + D * Z : Nat) : Int) = ((X : Int) - Y * Z) + p * Z := by
    have : (p : Int) = Y + D := by omega
    rw [this]; push_cast; rw [Int.add_mul]; omega
   rw [hcast, Int.add_mul_emod_self_left]
  .rw [if_neg htd, if_neg (by omega)]; exact h1
theorem Jg1 (l : List Nat) (t : Nat) (h : t < l.length) : l.reverse.getD t 0 = l.getD (l.length - 1 - t) 0 := by
 rw [List.getD_eq_getElem?_getD, List.getD_eq_getElem?_getD, List.getElem?_reverse h]
theorem Jg7 {p : Nat} (hp : 0 < p) (x i : Nat) : 0 <= dv p x i /\ dv p x i < p := Jin hp x (i + 1) i (by omega)
theorem Jye {p m v : Nat} (hp : 0 < p) (hv : v < p ^ m) : irrB p m (dgl p m v) = true ↔ Irr p m (dv p v) := by
 have key : ∀ d w, 0 < d -> 2 * d <= m -> (dvg p (dgl p d w).reverse (m + 1 - d) (1 :: (dgl p m v).reverse) = true ↔ Dvd p d (dv p w) (fun i => if i = m then 1 else dv p v i) (m + 1)) := fun d w hd h2 => by
  refine Jys hp (by rw [List.length_reverse, Yd]) (fun t ht => ?_) (fun t ht => ?_) (m + 1 - d) 0 _ (by omega) (by simp [Yd]) fun t ht => ?_
  .rw [Jg1 _ _ (by rw [Yd]; exact ht), Yd, Jeb _ _ _ _ (by omega)]
  .rw [Jg1 _ _ (by rw [Yd]; exact ht), Yd]; have := Jeb p d w (d - 1 - t) (by omega); have := Jg7 hp w (d - 1 - t); omega
  .show _ = if m + 1 - 1 - 0 - t = m then (1 : Int) else dv p v (m + 1 - 1 - 0 - t)
   cases t with
   | zero => rw [if_pos (by omega)]; rfl
   | succ t =>
    rw [if_neg (by omega)]; show (((dgl p m v).reverse.getD t 0 : Nat) : Int) = _; rw [Jg1 _ _ (by rw [Yd]; omega), Yd, Jeb _ _ _ _ (by omega), show m + 1 - 1 - 0 - (t + 1) = m - 1 - t by omega]
 unfold irrB; rw [Jbf]; constructor
 .intro h d hd h2 w hw hD; have h3 := h (d - 1) (by omega); have h4 := (Jbf _ _).1 (by simpa using h3) w (by rw [show d - 1 + 1 = d by omega]; exact hw); rw [show d - 1 + 1 = d by omega, show m - (d - 1) = m + 1 - d by omega, (key d w hd h2).2 hD] at h4; cases h4
 .intro h d hd; have : nob (fun w => dvg p (dgl p (d + 1) w).reverse (m - d) (1 :: (dgl p m v).reverse)) (p ^ (d + 1)) = true := (Jbf _ _).2 fun w hw => by
   cases hb : dvg p (dgl p (d + 1) w).reverse (m - d) (1 :: (dgl p m v).reverse) with
   | false => rfl
   | true =>
    rw [show m - d = m + 1 - (d + 1) by omega] at hb; exact absurd ((key (d + 1) w (by omega) (by omega)).1 hb) (h (d + 1) (by omega) (by omega) w hw)
  rw [this]; rfl
theorem J1 {p m lo n v : Nat} (hp : 2 <= p) (hm : 0 < m) (h : chk p m lo n = true) (h1 : lo <= v) (h2 : v < lo + n) (hv : v < p ^ m) (hi : Irr p m (dv p v)) : ∃ g, Gn (p ^ m) (JE p m (dv p v)) g := by
 have h3 := (Jbf _ _).1 h (v - lo) (by omega); simp only [show lo + (v - lo) = v by omega, (Jye (by omega) hv).2 hi, cond_true] at h3; exact Jrl hp hm Jz6 (by simpa using h3)
end Go.Proofs.YtngdhnijkgjhcaaGreat
set_option linter.unusedVariables false
namespace Go.Proofs.YtngdhnijkgjhcaaGreat
theorem Jtt : chk 2 2 0 4 = true := by decide +kernel
theorem Jts : chk 2 3 0 8 = true := by decide +kernel
theorem Jtr : chk 2 4 0 16 = true := by decide +kernel
theorem Jtq : chk 2 5 0 32 = true := by decide +kernel
theorem Jtp : chk 2 6 0 64 = true := by decide +kernel
theorem Jto : chk 2 7 0 64 = true := by decide +kernel
theorem Jov : chk 2 7 64 64 = true := by decide +kernel
theorem Jtn : chk 2 8 0 24 = true := by decide +kernel
theorem Jou : chk 2 8 24 24 = true := by decide +kernel
theorem Jot : chk 2 8 48 24 = true := by decide +kernel
theorem Jos : chk 2 8 72 24 = true := by decide +kernel
theorem Jor : chk 2 8 96 24 = true := by decide +kernel
theorem Jmd : chk 2 8 120 24 = true := by decide +kernel
theorem Jmc : chk 2 8 144 24 = true := by decide +kernel
theorem Jmb : chk 2 8 168 24 = true := by decide +kernel
theorem Jma : chk 2 8 192 24 = true := by decide +kernel
theorem Jl9 : chk 2 8 216 24 = true := by decide +kernel
theorem Jl8 : chk 2 8 240 16 = true := by decide +kernel
theorem Jtm : chk 3 2 0 9 = true := by decide +kernel
theorem Jtl : chk 3 3 0 27 = true := by decide +kernel
theorem Jtk : chk 3 4 0 64 = true := by decide +kernel
theorem Joq : chk 3 4 64 17 = true := by decide +kernel
theorem Jtj : chk 3 5 0 24 = true := by decide +kernel
theorem Jop : chk 3 5 24 24 = true := by decide +kernel
theorem Joo : chk 3 5 48 24 = true := by decide +kernel
theorem Jon : chk 3 5 72 24 = true := by decide +kernel
theorem Jom : chk 3 5 96 24 = true := by decide +kernel
theorem Jl7 : chk 3 5 120 24 = true := by decide +kernel
theorem Jl6 : chk 3 5 144 24 = true := by decide +kernel
theorem Jl5 : chk 3 5 168 24 = true := by decide +kernel
theorem Jl4 : chk 3 5 192 24 = true := by decide +kernel
theorem Jl3 : chk 3 5 216 24 = true := by decide +kernel
theorem Jl2 : chk 3 5 240 3 = true := by decide +kernel
theorem Jti : chk 5 2 0 25 = true := by decide +kernel
theorem Jth : chk 5 3 0 64 = true := by decide +kernel
theorem Jol : chk 5 3 64 61 = true := by decide +kernel
theorem Jtg : chk 7 2 0 49 = true := by decide +kernel
theorem Jox : chk 11 2 0 64 = true := by decide +kernel
theorem Jmf : chk 11 2 64 57 = true := by decide +kernel
theorem Jow : chk 13 2 0 64 = true := by decide +kernel
theorem Jme : chk 13 2 64 64 = true := by decide +kernel
theorem Jj2 : chk 13 2 128 41 = true := by decide +kernel
theorem chk1_0 : ([2, 3, 5, 7, 11, 13, 17, 19, 23, 29, 31, 37, 41, 43, 47, 53, 59, 61] : List Nat).all (fun p => Jof p 1 [0]) = true := by decide +kernel
theorem chk1_1 : ([67, 71, 73, 79, 83, 89, 97, 101, 103, 107, 109, 113, 127, 131, 137, 139, 149, 151] : List Nat).all (fun p => Jof p 1 [0]) = true := by decide +kernel
theorem chk1_2 : ([157, 163, 167, 173, 179, 181, 191, 193, 197, 199, 211, 223, 227, 229, 233, 239, 241, 251] : List Nat).all (fun p => Jof p 1 [0]) = true := by decide +kernel
theorem gx_2_2 {v : Nat} (hv : v < 2 ^ 2) (hI : Irr 2 2 (dv 2 v)) : ∃ g, Gn (2 ^ 2) (JE 2 2 (dv 2 v)) g := by
 have hv2 : v < 4 := hv; exact J1 (by decide) (by decide) Jtt (by omega) (by omega) hv hI
theorem gx_2_3 {v : Nat} (hv : v < 2 ^ 3) (hI : Irr 2 3 (dv 2 v)) : ∃ g, Gn (2 ^ 3) (JE 2 3 (dv 2 v)) g := by
 have hv2 : v < 8 := hv; exact J1 (by decide) (by decide) Jts (by omega) (by omega) hv hI
theorem gx_2_4 {v : Nat} (hv : v < 2 ^ 4) (hI : Irr 2 4 (dv 2 v)) : ∃ g, Gn (2 ^ 4) (JE 2 4 (dv 2 v)) g := by
 have hv2 : v < 16 := hv; exact J1 (by decide) (by decide) Jtr (by omega) (by omega) hv hI
theorem gx_2_5 {v : Nat} (hv : v < 2 ^ 5) (hI : Irr 2 5 (dv 2 v)) : ∃ g, Gn (2 ^ 5) (JE 2 5 (dv 2 v)) g := by
 have hv2 : v < 32 := hv; exact J1 (by decide) (by decide) Jtq (by omega) (by omega) hv hI
theorem gx_2_6 {v : Nat} (hv : v < 2 ^ 6) (hI : Irr 2 6 (dv 2 v)) : ∃ g, Gn (2 ^ 6) (JE 2 6 (dv 2 v)) g := by
 have hv2 : v < 64 := hv; exact J1 (by decide) (by decide) Jtp (by omega) (by omega) hv hI
theorem gx_2_7 {v : Nat} (hv : v < 2 ^ 7) (hI : Irr 2 7 (dv 2 v)) : ∃ g, Gn (2 ^ 7) (JE 2 7 (dv 2 v)) g := by
 have hv2 : v < 128 := hv; rcases Nat.lt_or_ge v 64 with h | h
 .exact J1 (by decide) (by decide) Jto (by omega) (by omega) hv hI
 exact J1 (by decide) (by decide) Jov (by omega) (by omega) hv hI
theorem gx_2_8 {v : Nat} (hv : v < 2 ^ 8) (hI : Irr 2 8 (dv 2 v)) : ∃ g, Gn (2 ^ 8) (JE 2 8 (dv 2 v)) g := by
 have hv2 : v < 256 := hv; rcases Nat.lt_or_ge v 24 with h | h
 .exact J1 (by decide) (by decide) Jtn (by omega) (by omega) hv hI
 rcases Nat.lt_or_ge v 48 with h | h
 .exact J1 (by decide) (by decide) Jou (by omega) (by omega) hv hI
 rcases Nat.lt_or_ge v 72 with h | h
 .exact J1 (by decide) (by decide) Jot (by omega) (by omega) hv hI
 rcases Nat.lt_or_ge v 96 with h | h
 .exact J1 (by decide) (by decide) Jos (by omega) (by omega) hv hI
 rcases Nat.lt_or_ge v 120 with h | h
 .exact J1 (by decide) (by decide) Jor (by omega) (by omega) hv hI
 rcases Nat.lt_or_ge v 144 with h | h
 .exact J1 (by decide) (by decide) Jmd (by omega) (by omega) hv hI
 rcases Nat.lt_or_ge v 168 with h | h
 .exact J1 (by decide) (by decide) Jmc (by omega) (by omega) hv hI
 rcases Nat.lt_or_ge v 192 with h | h
 .exact J1 (by decide) (by decide) Jmb (by omega) (by omega) hv hI
 rcases Nat.lt_or_ge v 216 with h | h
 .exact J1 (by decide) (by decide) Jma (by omega) (by omega) hv hI
 rcases Nat.lt_or_ge v 240 with h | h
 .exact J1 (by decide) (by decide) Jl9 (by omega) (by omega) hv hI
 exact J1 (by decide) (by decide) Jl8 (by omega) (by omega) hv hI
theorem gx_3_2 {v : Nat} (hv : v < 3 ^ 2) (hI : Irr 3 2 (dv 3 v)) : ∃ g, Gn (3 ^ 2) (JE 3 2 (dv 3 v)) g := by
 have hv2 : v < 9 := hv; exact J1 (by decide) (by decide) Jtm (by omega) (by omega) hv hI
theorem gx_3_3 {v : Nat} (hv : v < 3 ^ 3) (hI : Irr 3 3 (dv 3 v)) : ∃ g, Gn (3 ^ 3) (JE 3 3 (dv 3 v)) g := by
 have hv2 : v < 27 := hv; exact J1 (by decide) (by decide) Jtl (by omega) (by omega) hv hI
theorem gx_3_4 {v : Nat} (hv : v < 3 ^ 4) (hI : Irr 3 4 (dv 3 v)) : ∃ g, Gn (3 ^ 4) (JE 3 4 (dv 3 v)) g := by
 have hv2 : v < 81 := hv; rcases Nat.lt_or_ge v 64 with h | h
 .exact J1 (by decide) (by decide) Jtk (by omega) (by omega) hv hI
 exact J1 (by decide) (by decide) Joq (by omega) (by omega) hv hI
theorem gx_3_5 {v : Nat} (hv : v < 3 ^ 5) (hI : Irr 3 5 (dv 3 v)) : ∃ g, Gn (3 ^ 5) (JE 3 5 (dv 3 v)) g := by
 have hv2 : v < 243 := hv; rcases Nat.lt_or_ge v 24 with h | h
 .exact J1 (by decide) (by decide) Jtj (by omega) (by omega) hv hI
 rcases Nat.lt_or_ge v 48 with h | h
 .exact J1 (by decide) (by decide) Jop (by omega) (by omega) hv hI
 rcases Nat.lt_or_ge v 72 with h | h
 .exact J1 (by decide) (by decide) Joo (by omega) (by omega) hv hI
 rcases Nat.lt_or_ge v 96 with h | h
 .exact J1 (by decide) (by decide) Jon (by omega) (by omega) hv hI
 rcases Nat.lt_or_ge v 120 with h | h
 .exact J1 (by decide) (by decide) Jom (by omega) (by omega) hv hI
 rcases Nat.lt_or_ge v 144 with h | h
 .exact J1 (by decide) (by decide) Jl7 (by omega) (by omega) hv hI
 rcases Nat.lt_or_ge v 168 with h | h
 .exact J1 (by decide) (by decide) Jl6 (by omega) (by omega) hv hI
 rcases Nat.lt_or_ge v 192 with h | h
 .exact J1 (by decide) (by decide) Jl5 (by omega) (by omega) hv hI
 rcases Nat.lt_or_ge v 216 with h | h
 .exact J1 (by decide) (by decide) Jl4 (by omega) (by omega) hv hI
 rcases Nat.lt_or_ge v 240 with h | h
 .exact J1 (by decide) (by decide) Jl3 (by omega) (by omega) hv hI
 exact J1 (by decide) (by decide) Jl2 (by omega) (by omega) hv hI
theorem gx_5_2 {v : Nat} (hv : v < 5 ^ 2) (hI : Irr 5 2 (dv 5 v)) : ∃ g, Gn (5 ^ 2) (JE 5 2 (dv 5 v)) g := by
 have hv2 : v < 25 := hv; exact J1 (by decide) (by decide) Jti (by omega) (by omega) hv hI
theorem gx_5_3 {v : Nat} (hv : v < 5 ^ 3) (hI : Irr 5 3 (dv 5 v)) : ∃ g, Gn (5 ^ 3) (JE 5 3 (dv 5 v)) g := by
 have hv2 : v < 125 := hv; rcases Nat.lt_or_ge v 64 with h | h
 .exact J1 (by decide) (by decide) Jth (by omega) (by omega) hv hI
 exact J1 (by decide) (by decide) Jol (by omega) (by omega) hv hI
theorem gx_7_2 {v : Nat} (hv : v < 7 ^ 2) (hI : Irr 7 2 (dv 7 v)) : ∃ g, Gn (7 ^ 2) (JE 7 2 (dv 7 v)) g := by
 have hv2 : v < 49 := hv; exact J1 (by decide) (by decide) Jtg (by omega) (by omega) hv hI
theorem Qbj {v : Nat} (hv : v < 11 ^ 2) (hI : Irr 11 2 (dv 11 v)) : ∃ g, Gn (11 ^ 2) (JE 11 2 (dv 11 v)) g := by
 have hv2 : v < 121 := hv; rcases Nat.lt_or_ge v 64 with h | h
 .exact J1 (by decide) (by decide) Jox (by omega) (by omega) hv hI
 exact J1 (by decide) (by decide) Jmf (by omega) (by omega) hv hI
theorem Qbi {v : Nat} (hv : v < 13 ^ 2) (hI : Irr 13 2 (dv 13 v)) : ∃ g, Gn (13 ^ 2) (JE 13 2 (dv 13 v)) g := by
 have hv2 : v < 169 := hv; rcases Nat.lt_or_ge v 64 with h | h
 .exact J1 (by decide) (by decide) Jow (by omega) (by omega) hv hI
 rcases Nat.lt_or_ge v 128 with h | h
 .exact J1 (by decide) (by decide) Jme (by omega) (by omega) hv hI
 exact J1 (by decide) (by decide) Jj2 (by omega) (by omega) hv hI
noncomputable def prL : List Nat := [2, 3, 5, 7, 11, 13, 17, 19, 23, 29, 31, 37, 41, 43, 47, 53, 59, 61, 67, 71, 73, 79, 83, 89, 97, 101, 103, 107, 109, 113, 127, 131, 137, 139, 149, 151, 157, 163, 167, 173, 179, 181, 191, 193, 197, 199, 211, 223, 227, 229, 233, 239, 241, 251]
theorem Qau : (List.range 257).all (fun p => prL.contains p || Nat.blt p 2 || (List.range p).any (fun e => Nat.ble 2 e && Nat.beq (p % e) 0)) = true := by decide +kernel
theorem Qat {p : Nat} (hp : IsLf p p) (h : p <= 256) : p ∈ prL := by
 have h1 := List.all_eq_true.1 Qau p (List.mem_range.2 (by omega)); simp only [Bool.or_eq_true, List.contains_iff_mem, List.any_eq_true, List.mem_range, Bool.and_eq_true] at h1; rcases h1 with (h1 | h1) | ⟨e, he, h2, h3⟩
 .exact h1
 .have := hp.two; have := Nat.le_of_ble_eq_true h1; omega
 .have := hp.min e (Nat.le_of_ble_eq_true h2) (Nat.eq_of_beq_eq_true h3); omega
theorem gx_1 {p : Nat} (hp : IsLf p p) (h : p <= 256) : ∃ g, Gn (p ^ 1) (JE p 1 (dv p 0)) g := by
 have hm := Qat hp h; have hg : Jof p 1 [0] = true := by
  unfold prL at hm; rw [show ([2, 3, 5, 7, 11, 13, 17, 19, 23, 29, 31, 37, 41, 43, 47, 53, 59, 61, 67, 71, 73, 79, 83, 89, 97, 101, 103, 107, 109, 113, 127, 131, 137, 139, 149, 151, 157, 163, 167, 173, 179, 181, 191, 193, 197, 199, 211, 223, 227, 229, 233, 239, 241, 251] : List Nat) = ([2, 3, 5, 7, 11, 13, 17, 19, 23, 29, 31, 37, 41, 43, 47, 53, 59, 61] : List Nat) ++ ([67, 71, 73, 79, 83, 89, 97, 101, 103, 107, 109, 113, 127, 131, 137, 139, 149, 151] : List Nat) ++ ([157, 163, 167, 173, 179, 181, 191, 193, 197, 199, 211, 223, 227, 229, 233, 239, 241, 251] : List Nat) from rfl] at hm; simp only [List.mem_append] at hm; rcases hm with (h | h) | h
  .exact List.all_eq_true.1 chk1_0 p h
  .exact List.all_eq_true.1 chk1_1 p h
  .exact List.all_eq_true.1 chk1_2 p h
 refine Jrl hp.two (by decide) ⟨rfl, fun i hi => ?_⟩ hg; rw [show i = 0 by omega, Jg6]; simp [vz]
theorem Jxq {p m : Nat} (hp : IsLf p p) (hm : 2 <= m) (hq : p ^ m <= 256) : (p = 2 /\ m = 2) ∨ (p = 2 /\ m = 3) ∨ (p = 2 /\ m = 4) ∨ (p = 2 /\ m = 5) ∨ (p = 2 /\ m = 6) ∨ (p = 2 /\ m = 7) ∨ (p = 2 /\ m = 8) ∨ (p = 3 /\ m = 2) ∨ (p = 3 /\ m = 3) ∨ (p = 3 /\ m = 4) ∨ (p = 3 /\ m = 5) ∨ (p = 5 /\ m = 2) ∨ (p = 5 /\ m = 3) ∨ (p = 7 /\ m = 2) ∨ (p = 11 /\ m = 2) ∨ (p = 13 /\ m = 2) := by
  have h2 := hp.two
  have hpow : ∀ k, k <= m -> p ^ k <= 256 := fun k hk => Nat.le_trans (Nat.pow_le_pow_right (by omega) hk) hq
  have hp2 : p <= 16 := by
    rcases Nat.lt_or_ge 16 p with h | h
    . have h1 := hpow 2 hm
      have h3 : 17 ^ 2 <= p ^ 2 := Nat.pow_le_pow_left h 2
      omega
    . exact h
  have hnd : ∀ e, 2 <= e -> e < p -> p % e ≠ 0 := fun e he hlt h0 => by have := hp.min e he h0; omega
  have hc : p = 2 ∨ p = 3 ∨ p = 5 ∨ p = 7 ∨ p = 11 ∨ p = 13 := by
    have h3 := hnd 2 (by omega)
    have h4 := hnd 3 (by omega)
    omega
  rcases hc with rfl | rfl | rfl | rfl | rfl | rfl
  . have : m <= 8 := by
      rcases Nat.lt_or_ge 8 m with h | h
      . have := hpow 9 h; omega
      . exact h
    omega
  . have : m <= 5 := by
      rcases Nat.lt_or_ge 5 m with h | h
      . have := hpow 6 h; omega
      . exact h
    omega
  . have : m <= 3 := by
      rcases Nat.lt_or_ge 3 m with h | h
      . have := hpow 4 h; omega
      . exact h
    omega
  . have : m <= 2 := by
      rcases Nat.lt_or_ge 2 m with h | h
      . have := hpow 3 h; omega
      . exact h
    omega
  . have : m <= 2 := by
      rcases Nat.lt_or_ge 2 m with h | h
      . have := hpow 3 h; omega
      . exact h
    omega
  . have : m <= 2 := by
      rcases Nat.lt_or_ge 2 m with h | h
      . have := hpow 3 h; omega
      . exact h
    omega
theorem gen_ex {p m v : Nat} (hp : IsLf p p) (hm : 0 < m) (hq : p ^ m <= 256) (hv : v < p ^ m) (h1 : m = 1 -> v = 0) (hI : Irr p m (dv p v)) : ∃ g, Gn (p ^ m) (JE p m (dv p v)) g := by
  rcases Nat.lt_or_ge m 2 with h | h
  . have : m = 1 := by omega
    subst this
    rw [h1 rfl]
    exact gx_1 hp (by simpa using hq)
  . rcases Jxq hp h hq with ⟨rfl, rfl⟩ | ⟨rfl, rfl⟩ | ⟨rfl, rfl⟩ | ⟨rfl, rfl⟩ | ⟨rfl, rfl⟩ | ⟨rfl, rfl⟩ | ⟨rfl, rfl⟩ | ⟨rfl, rfl⟩ | ⟨rfl, rfl⟩ | ⟨rfl, rfl⟩ | ⟨rfl, rfl⟩ | ⟨rfl, rfl⟩ | ⟨rfl, rfl⟩ | ⟨rfl, rfl⟩ | ⟨rfl, rfl⟩ | ⟨rfl, rfl⟩
    . exact gx_2_2 hv hI
    . exact gx_2_3 hv hI
    . exact gx_2_4 hv hI
    . exact gx_2_5 hv hI
    . exact gx_2_6 hv hI
    . exact gx_2_7 hv hI
    . exact gx_2_8 hv hI
    . exact gx_3_2 hv hI
    . exact gx_3_3 hv hI
    . exact gx_3_4 hv hI
    . exact gx_3_5 hv hI
    . exact gx_5_2 hv hI
    . exact gx_5_3 hv hI
    . exact gx_7_2 hv hI
    . exact Qbj hv hI
    . exact Qbi hv hI
end Go.Proofs.YtngdhnijkgjhcaaGreat
set_option linter.unusedVariables false
set_option linter.unusedSimpArgs false
namespace Go.Proofs.YtngdhnijkgjhcaaGreat
def vo (l : List Int) : Vec := fun i => l.getD i 0
theorem JR (l : List Int) (i : Nat) : gi l (i : Int) = vo l i := rfl
theorem Qo (l : List Int) (i : Nat) (x : Int) : si l (i : Int) x = l.set i x := rfl
theorem Jel (a b : Nat) : (a : Int).tmod (b : Int) = ((a % b : Nat) : Int) := rfl
theorem Jw4 (a b : Nat) : (a : Int).tdiv (b : Int) = ((a / b : Nat) : Int) := rfl
theorem Ql (l : List Int) (i j : Nat) (x : Int) : vo (l.set i x) j = if i = j /\ i < l.length then x else vo l j := by
 unfold vo; rw [List.getD_eq_getElem?_getD, List.getD_eq_getElem?_getD, List.getElem?_set]; by_cases h : i = j
 .subst h; by_cases h2 : i < l.length
  .simp [h2]
  .simp [h2]
 .simp [h]
theorem Jne (n : Nat) (i : Nat) : vo (List.replicate n (0 : Int)) i = 0 := by
 unfold vo; rw [List.getD_eq_getElem?_getD, List.getElem?_replicate]; split <;> rfl
theorem Jb0 {l : List Int} {i : Nat} (h : l.length <= i) : vo l i = 0 := by
 unfold vo; rw [List.getD_eq_getElem?_getD, List.getElem?_eq_none h]; rfl
theorem QW {l o : List Int} (h : l.length = o.length) (hv : ∀ i, i < l.length -> vo l i = vo o i) : l = o := by
 refine List.ext_getElem h fun i h1 h2 => ?_; have := hv i h1; unfold vo at this; rw [List.getD_eq_getElem?_getD, List.getD_eq_getElem?_getD, List.getElem?_eq_getElem h1, List.getElem?_eq_getElem h2] at this; exact this
theorem JC {x : Int} (h : -1000000000000 <= x) (h2 : x <= 1000000000000) : I64 x := ⟨by omega, by omega⟩
theorem ZB {n : Nat} (h : n <= 1000000000000) : I64 (n : Int) := JC (by omega) (by omega)
def dgi (p n x : Nat) : List Int := (dgl p n x).map fun (a : Nat) => (a : Int)
theorem Qg (p n x : Nat) : (dgi p n x).length = n := by simp [dgi, Yd]
theorem Yg {p n x i : Nat} (h : i < n) : vo (dgi p n x) i = dv p x i := by
 rw [<- Jeb p n x i h]; unfold vo dgi; rw [List.getD_eq_getElem?_getD, List.getElem?_map, List.getD_eq_getElem?_getD]; rw [List.getElem?_eq_getElem (by rw [Yd]; exact h)]; rfl
theorem Jw1 {b : Bool} {Q : Int -> Prop} (h : Q (if b = true then 0 else 1)) : Jhh b Q := by
 cases b
 .exact ⟨fun h' => absurd h' (by decide), fun _ => h⟩
 .exact ⟨fun _ => h, fun h' => absurd h' (by decide)⟩
theorem Qbe {n k : Nat} (hn : 2 <= n) (hk : n < k * k) (h : ∀ e, e < k -> 2 <= e -> n % e ≠ 0) : IsLf n n := by
 refine ⟨hn, Nat.mod_self n, fun e he hm => ?_⟩; rcases Nat.lt_or_ge e k with hc | hc
 .exact absurd hm (h e hc he)
 .obtain ⟨t, ht⟩ := Nat.dvd_of_mod_eq_zero hm; have hq1 : t < k := by
   rcases Nat.lt_or_ge t k with h1 | h1
   .exact h1
   .have := Nat.mul_le_mul hc h1; omega
  rcases Nat.lt_or_ge t 2 with h2 | h2
  .have : t = 0 ∨ t = 1 := by omega
   rcases this with rfl | rfl
   .omega
   .omega
  .exact absurd (Nat.mod_eq_zero_of_dvd ⟨e, by rw [ht, Nat.mul_comm]⟩) (h t hq1 h2)
theorem Jf3 {x : Nat} {Q : Int -> Prop} (h2 : 2 <= x) (hx : x <= 256) (h : ∀ d : Nat, IsLf x d -> Q d) : Yz x Q := by
 refine ⟨fun z => ∃ k : Nat, z = k /\ 2 <= k /\ k <= 17 /\ ∀ e, e < k -> 2 <= e -> x % e ≠ 0, fun z => (20 - z).toNat, ⟨2, rfl, by omega, by omega, fun e _ _ => by omega⟩, ?_⟩; rintro _ ⟨k, rfl, hk2, hk, hm⟩; dsimp only; have e1 : ((k : Nat) : Int) * (k : Int) = ((k * k : Nat) : Int) := by push_cast; rfl
 have hb : k * k <= 17 * 17 := Nat.mul_le_mul hk hk; rw [e1]; refine ⟨JC (by omega) (by omega), fun hle => ⟨by omega, ?_, ?_⟩, fun hgt => ?_⟩
 .intro h0; rw [Jel] at h0; refine h k ⟨hk2, by omega, fun e he h3 => ?_⟩; rcases Nat.lt_or_ge e k with hc | hc
  .exact absurd h3 (hm e hc he)
  .exact hc
 .intro h0; rw [Jel] at h0; have hk16 : k <= 16 := by
   rcases Nat.lt_or_ge 16 k with hc | hc
   .have := Nat.mul_le_mul hc hc; omega
   .exact hc
  refine ⟨JC (by omega) (by omega), ⟨k + 1, by push_cast; rfl, by omega, by omega, fun e he h3 => ?_⟩, by omega⟩; rcases Nat.lt_or_ge e k with hc | hc
  .exact hm e hc h3
  .rw [show e = k by omega]; omega
 .exact h x (Qbe h2 (by omega) hm)
theorem IsLf.uniq {n d e : Nat} (h : IsLf n d) (h' : IsLf n e) : d = e := Nat.le_antisymm (h.min e h'.two h'.dvd) (h'.min d h.two h.dvd)
theorem Jso {x : Int} {Q : Bool -> Prop} (hx : x <= 256) (h : ∀ b : Bool, (b = true ↔ 2 <= x /\ IsLf x.toNat x.toNat) -> Q b) : Jbq x Q := by
 refine ⟨fun h2 => ?_, fun h2 => h false ⟨fun h' => by (cases h'), fun h' => absurd h'.1 h2⟩⟩; obtain ⟨n, rfl⟩ := Int.eq_ofNat_of_zero_le (show 0 <= x by omega); refine Jf3 (by omega) (by omega) fun d hd => h _ ?_; rw [decide_eq_true_iff, Int.toNat_natCast]; constructor
 .intro he; have : d = n := by omega
  subst this; exact ⟨h2, hd⟩
 .rintro ⟨_, hn⟩; rw [hd.uniq hn]
theorem Jww {x : Nat} {Q : Bool -> Prop} (h2 : 2 <= x) (hx : x <= 256) (h : ∀ b : Bool, (b = true ↔ IsLf x x) -> Q b) : Jdi x Q := by
 refine ⟨fun z => ∃ k : Nat, z = k /\ 2 <= k /\ k <= x /\ ∀ e, e < k -> 2 <= e -> x % e ≠ 0, fun z => (x - z).toNat, ⟨2, rfl, by omega, by omega, fun e _ _ => by omega⟩, ?_⟩; rintro _ ⟨k, rfl, hk2, hk, hm⟩; dsimp only; refine ⟨fun hlt => ⟨by omega, fun h0 => ?_, fun h0 => ?_⟩, fun hge => ?_⟩
 .rw [Jel] at h0; refine h false ⟨fun h' => by (cases h'), fun hp => ?_⟩; have := hp.min k hk2 (by omega); omega
 .rw [Jel] at h0; refine ⟨JC (by omega) (by omega), ⟨k + 1, by push_cast; rfl, by omega, by omega, fun e he h3 => ?_⟩, by omega⟩; rcases Nat.lt_or_ge e k with hc | hc
  .exact hm e hc h3
  .rw [show e = k by omega]; omega
 .refine h true ⟨fun _ => ⟨h2, Nat.mod_self x, fun e he h0 => ?_⟩, fun _ => rfl⟩; rcases Nat.lt_or_ge e x with hc | hc
  .exact absurd h0 (hm e (by omega) he)
  .exact hc
theorem QH {p a b : Nat} (hp : 0 < p) (h : a <= b) : p ^ a <= p ^ b := Nat.pow_le_pow_right hp h
theorem Jiz {p : Nat} {M : Int} {mf : List Int} {Q : Int -> Prop} (hp : 2 <= p) (hp2 : p <= 256) (h : ∀ r : Int, (p ^ M.toNat <= 256 -> r = ((p ^ M.toNat : Nat) : Int)) -> (256 < p ^ M.toNat -> 256 < r) -> Q r) : Jaq p M mf Q := by
 refine ⟨fun r => (p ^ M.toNat <= 256 -> r = ((p ^ M.toNat : Nat) : Int)) /\ (256 < p ^ M.toNat -> 256 < r), ⟨fun z i => ∃ k : Nat, i = k /\ k <= M.toNat /\ z = ((p ^ k : Nat) : Int) /\ p ^ k <= 65536 /\ k <= 16, fun z i => (20 - i).toNat, ⟨0, rfl, Nat.zero_le _, by simp, by simp, by omega⟩, ?_⟩, fun r hr => h r hr.1 hr.2⟩; rintro _ _ ⟨k, rfl, hk, rfl, hb, hk16⟩; dsimp only; refine ⟨fun hlt => ⟨fun hle => ?_, fun hgt => ?_⟩, fun hge => ?_⟩
 .have hk8 : p ^ k <= 256 := by omega
  have hkk : k < 16 := by
   rcases Nat.lt_or_ge k 16 with hc | hc
   .exact hc
   .have h1 := QH (p := p) (by omega) hc; have h2 : 2 ^ 16 <= p ^ 16 := Nat.pow_le_pow_left hp 16; omega
  have e1 : ((p ^ k : Nat) : Int) * (p : Int) = ((p ^ (k + 1) : Nat) : Int) := by rw [Nat.pow_succ]; push_cast; rfl
  have hb2 : p ^ (k + 1) <= 65536 := by
   rw [Nat.pow_succ]; have := Nat.mul_le_mul hk8 hp2; omega
  rw [e1]; exact ⟨JC (by omega) (by omega), JC (by omega) (by omega), ⟨k + 1, by push_cast; rfl, by omega, rfl, hb2, by omega⟩, by omega⟩
 .have := QH (p := p) (by omega) hk; exact ⟨fun h' => by omega, fun _ => by omega⟩
 .have : k = M.toNat := by omega
  subst this; exact ⟨fun _ => rfl, fun h' => by omega⟩
def Jhs (P M : Int) : Int := if 2 <= P /\ 1 <= M /\ P.toNat ^ M.toNat <= 256 then ((P.toNat ^ M.toNat : Nat) : Int) else 0
theorem Jf2 {P M : Int} {mf : List Int} {Q : Int -> Prop} (h : Q (Jhs P M)) : ZS P M mf Q := by
 refine ⟨fun h1 => ?_, fun h1 => ⟨fun h2 => ?_, fun h2 => ⟨fun h3 => ?_, fun h3 => ?_⟩⟩⟩
 .rw [Jhs, if_neg (by omega)] at h; exact h
 .rw [Jhs, if_neg (by omega)] at h; exact h
 .rw [Jhs, if_neg] at h
  .exact h
  .rintro ⟨h4, h5, h6⟩; have e1 : 2 ^ 9 <= P.toNat ^ 9 := Nat.pow_le_pow_left (by omega) 9; have e2 := QH (p := P.toNat) (by omega) (show 9 <= M.toNat by omega); omega
 .obtain ⟨p, rfl⟩ := Int.eq_ofNat_of_zero_le (show 0 <= P by omega); obtain ⟨m, rfl⟩ := Int.eq_ofNat_of_zero_le (show 0 <= M by omega); refine ⟨fun z i => ∃ k : Nat, i = k /\ k <= m /\ z = ((p ^ k : Nat) : Int) /\ p ^ k <= 256, fun z i => (20 - i).toNat, ⟨0, rfl, Nat.zero_le _, by simp, by simp⟩, ?_⟩; rintro _ _ ⟨k, rfl, hk, rfl, hb⟩; dsimp only; rw [show (256 : Int) = ((256 : Nat) : Int) from rfl, Jw4]; have hd : 256 / p <= 256 := Nat.div_le_self _ _; have hdm : ∀ a, a <= 256 / p ↔ a * p <= 256 := fun a => Nat.le_div_iff_mul_le (show 0 < p by omega); generalize 256 / p = D at *
  refine ⟨fun hlt => ⟨⟨by omega, JC (by omega) (by omega)⟩, fun hgt => ?_, fun hle => ?_⟩, fun hge => ?_⟩
  .rw [Jhs, if_neg] at h
   .exact h
   .rintro ⟨_, _, h6⟩; simp only [Int.toNat_natCast] at h6; have h7 : p ^ (k + 1) <= 256 := Nat.le_trans (QH (by omega) (by omega)) h6; rw [Nat.pow_succ] at h7; have := (hdm _).2 h7; omega
  .have h7 : p ^ (k + 1) <= 256 := by rw [Nat.pow_succ]; exact (hdm _).1 (by omega)
   have e1 : ((p ^ k : Nat) : Int) * (p : Int) = ((p ^ (k + 1) : Nat) : Int) := by rw [Nat.pow_succ]; push_cast; rfl
   rw [e1]; exact ⟨JC (by omega) (by omega), JC (by omega) (by omega), ⟨k + 1, by push_cast; rfl, by omega, rfl, h7⟩, by omega⟩
  .have : k = m := by omega
   subst this; rw [Jhs, if_pos ⟨by omega, by omega, by simpa using hb⟩] at h
   simpa using h
theorem Jc9 (x p i : Nat) : x / p ^ i / p = x / p ^ (i + 1) := by rw [Nat.div_div_eq_div_mul, Nat.pow_succ]
theorem Jf5 {p n x : Nat} {Q : List Int -> Prop} (hp : 0 < p) (hn : n <= 1000) (hx : x <= 1000) (h : Q (dgi p n x)) : ZX p n x Q := by
 refine ⟨⟨by omega, by omega, by omega⟩, fun l z i => ∃ k : Nat, i = k /\ k <= n /\ z = ((x / p ^ k : Nat) : Int) /\ l.length = n /\ ∀ j, j < k -> vo l j = dv p x j, fun l z i => (n - i).toNat, ⟨0, rfl, Nat.zero_le _, by simp, by simp, fun j hj => by omega⟩, ?_⟩; rintro l _ _ ⟨k, rfl, hk, rfl, hl, hv⟩; dsimp only; have hd : x / p ^ k <= x := Nat.div_le_self _ _; have hd2 : x / p ^ k / p <= x / p ^ k := Nat.div_le_self _ _; rw [Jw4, Jel, Qo]; simp only [Int.toNat_natCast]; refine ⟨fun hlt => ⟨by omega, ⟨by omega, by omega⟩, ⟨by omega, ZB (by omega)⟩, JC (by omega) (by omega), ⟨k + 1, by push_cast; rfl, by omega, by rw [Jc9], by rw [List.length_set, hl], fun j hj => ?_⟩, by omega⟩, fun hge => ?_⟩
 .rw [Ql]; by_cases hjk : k = j
  .subst hjk; rw [if_pos ⟨rfl, by omega⟩]; rfl
  .rw [if_neg (by omega)]; exact hv j (by omega)
 .have : l = dgi p n x := QW (by rw [hl, Qg]) fun j hj => by rw [hv j (by omega), Yg (by omega)]
  rw [this]; exact h
theorem Jh7 {p n x : Nat} {Q : List Int -> Prop} (hp : 0 < p) (hn : n <= 1000) (hx : x <= 1000) (h : Q (dgi p n x)) : ZR x p n Q := by
 refine ⟨⟨by omega, by omega, by omega⟩, fun l z i => ∃ k : Nat, i = k /\ k <= n /\ z = ((x / p ^ k : Nat) : Int) /\ l.length = n /\ ∀ j, j < k -> vo l j = dv p x j, fun l z i => (n - i).toNat, ⟨0, rfl, Nat.zero_le _, by simp, by simp, fun j hj => by omega⟩, ?_⟩; rintro l _ _ ⟨k, rfl, hk, rfl, hl, hv⟩; dsimp only; have hd : x / p ^ k <= x := Nat.div_le_self _ _; have hd2 : x / p ^ k / p <= x / p ^ k := Nat.div_le_self _ _; rw [Jw4, Jel, Qo]; simp only [Int.toNat_natCast]; refine ⟨fun hlt => ⟨by omega, ⟨by omega, by omega⟩, ⟨by omega, ZB (by omega)⟩, JC (by omega) (by omega), ⟨k + 1, by push_cast; rfl, by omega, by rw [Jc9], by rw [List.length_set, hl], fun j hj => ?_⟩, by omega⟩, fun hge => ?_⟩
 .rw [Ql]; by_cases hjk : k = j
  .subst hjk; rw [if_pos ⟨rfl, by omega⟩]; rfl
  .rw [if_neg (by omega)]; exact hv j (by omega)
 .have : l = dgi p n x := QW (by rw [hl, Qg]) fun j hj => by rw [hv j (by omega), Yg (by omega)]
  rw [this]; exact h
theorem Jk0 {p m x : Nat} {mf : List Int} {Q : Int -> Prop} (hp : 2 <= p) (hp2 : p <= 256) (hx : x <= 256) (h : Q ((if x % p = p - 1 then x - x % p else x + 1 : Nat) : Int)) : Zv p m mf x Q := by
 have hm := Nat.mod_lt x (show 0 < p by omega); have hm2 := Nat.mod_le x p; refine ⟨by omega, JC (by omega) (by omega), fun h0 => ⟨by omega, ?_⟩, fun h0 => ?_⟩
 .rw [Jel] at h0 ⊢; rw [if_pos (by omega)] at h; refine ⟨JC (by omega) (by omega), ?_⟩; rw [show (x : Int) - ((x % p : Nat) : Int) = ((x - x % p : Nat) : Int) by omega]; exact h
 .rw [Jel] at h0; rw [if_neg (by omega)] at h; exact ⟨JC (by omega) (by omega), by push_cast at h ⊢; exact h⟩
theorem Jcx {l : List Int} {Q : List Int -> Prop} (hl : l.length <= 1000000) (h : Q l) : Y9 l Q := by
 intro b hb; refine ⟨fun h1 => by rw [<- hb h1]; exact h, fun _ => ⟨by omega, by simpa using h⟩⟩
end Go.Proofs.YtngdhnijkgjhcaaGreat
