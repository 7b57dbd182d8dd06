/- Contracts of functions of the program, and what they lean on: D15, D16, Fa, Fb, Fg, Fp, Fk, Fc, V1. -/
import Derived.Test.YtiboieijhehjnaaMatrixUniqueG7
set_option linter.unusedSimpArgs false
set_option linter.unusedVariables false
set_option maxRecDepth 4000
set_option maxHeartbeats 4000000
namespace Go.Proofs.Ytiboieijhehjnaa
open Go.RowKit
def Jac  (Q : Bool -> Prop) : Prop :=
  Qs (2 : Int) (1 : Int) ([] : List Int) (3 : Int) ([([(1 : Int), (1 : Int), (0 : Int)] : List Int), ([(0 : Int), (1 : Int), (1 : Int)] : List Int), ([(1 : Int), (0 : Int), (1 : Int)] : List Int)] : List (List Int)) (fun q => match q with | (c33, x34, x35, r36) => Jg0 (2 : Int) (1 : Int) ([] : List Int) (3 : Int) ([([(1 : Int), (1 : Int), (0 : Int)] : List Int), ([(0 : Int), (1 : Int), (1 : Int)] : List Int), ([(1 : Int), (0 : Int), (1 : Int)] : List Int)] : List (List Int)) (fun q => match q with | (r48, r49) => Jbv (2 : Int) (1 : Int) ([] : List Int) (3 : Int) ([([(1 : Int), (1 : Int), (0 : Int)] : List Int), ([(0 : Int), (1 : Int), (1 : Int)] : List Int), ([(1 : Int), (0 : Int), (1 : Int)] : List Int)] : List (List Int)) (fun q => match q with | (c51, x52, r53) => Jl6 (5 : Int) (1 : Int) ([] : List Int) (2 : Int) ([([(1 : Int), (2 : Int)] : List Int), ([(3 : Int), (4 : Int)] : List Int)] : List (List Int)) (fun q => match q with | (r74, r75) => Jad (5 : Int) (1 : Int) ([] : List Int) (2 : Int) ([([(1 : Int), (2 : Int)] : List Int), ([(3 : Int), (4 : Int)] : List Int)] : List (List Int)) (fun q => match q with | (c77, x78, r79) => Jl3 (5 : Int) (1 : Int) ([] : List Int) ([(1 : Int), (1 : Int)] : List Int) (2 : Int) ([([(1 : Int), (2 : Int)] : List Int), ([(3 : Int), (4 : Int)] : List Int)] : List (List Int)) (fun q => match q with | (x91, r92) => Jdk (5 : Int) (1 : Int) ([] : List Int) (2 : Int) ([([(1 : Int), (2 : Int)] : List Int), ([(3 : Int), (4 : Int)] : List Int)] : List (List Int)) ([(3 : Int), (2 : Int)] : List Int) (fun q => match q with | (x100, r101) => ((r36 = (0 : Int)) -> (((r49 = (0 : Int)) -> (((r53 = (0 : Int)) -> (((r75 = (0 : Int)) -> (((r79 = (0 : Int)) -> (((r92 = (0 : Int)) -> (((r101 = (0 : Int)) -> (YA c33 x34 (3 : Int) ([([(1 : Int), (0 : Int), (1 : Int)] : List Int), ([(0 : Int), (1 : Int), (1 : Int)] : List Int)] : List (List Int)) (fun r122 => ((r122 = true) -> (QL x35 ([(0 : Int), (1 : Int)] : List Int) (fun r128 => ((r128 = true) -> (((r48 = (2 : Int)) -> (YA c51 x52 (3 : Int) ([([(1 : Int), (1 : Int), (1 : Int)] : List Int)] : List (List Int)) (fun r138 => ((r138 = true) -> (((r74 = (3 : Int)) -> (YA c77 x78 (2 : Int) ([([(3 : Int), (1 : Int)] : List Int), ([(4 : Int), (2 : Int)] : List Int)] : List (List Int)) (fun r151 => ((r151 = true) -> (QL x91 ([(4 : Int), (1 : Int)] : List Int) (fun r157 => ((r157 = true) -> (QL x100 ([(1 : Int), (1 : Int)] : List Int) (fun r163 => ((r163 = true) -> (ZQ (5 : Int) (1 : Int) ([] : List Int) (2 : Int) ([([(1 : Int), (2 : Int)] : List Int), ([(3 : Int), (4 : Int)] : List Int)] : List (List Int)) (fun r166 => ((r166 = (0 : Int)) -> (ZQ (2 : Int) (1 : Int) ([] : List Int) (2 : Int) ([([(1 : Int), (2 : Int)] : List Int), ([(3 : Int), (4 : Int)] : List Int)] : List (List Int)) (fun r169 => Q (decide (r169 = (2 : Int)))))) /\ (¬ (r166 = (0 : Int)) -> Q false)))) /\ (r163 = false -> Q false)))) /\ (r157 = false -> Q false)))) /\ (r151 = false -> Q false)))) /\ (¬ (r74 = (3 : Int)) -> Q false))) /\ (r138 = false -> Q false)))) /\ (¬ (r48 = (2 : Int)) -> Q false))) /\ (r128 = false -> Q false)))) /\ (r122 = false -> Q false)))) /\ (¬ (r101 = (0 : Int)) -> Q false))) /\ (¬ (r92 = (0 : Int)) -> Q false))) /\ (¬ (r79 = (0 : Int)) -> Q false))) /\ (¬ (r75 = (0 : Int)) -> Q false))) /\ (¬ (r53 = (0 : Int)) -> Q false))) /\ (¬ (r49 = (0 : Int)) -> Q false))) /\ (¬ (r36 = (0 : Int)) -> Q false))))))))
theorem Jdz {w : World} {Q : Bool -> Prop}   (hv : Jac  Q) :
   Calls Try.prog 15 #[] w fun e w' => ∃ v Qr, e = .returned v /\ w.grownBy w' none /\ Rows w.heap.size none w' Qr /\ News w.heap.size Qr /\ ∃ (r0 : Bool), v = .bool r0 /\ Qr = [] /\ Q r0 := by
 refine Jo <| Jm (vs := []) [0] XF15 rfl rfl rfl rfl ?_; have hS := Js w; unfold Jac at hv; refine Jh 6 <| J0 (cells := #[.int .i64 2, .int .i64 1, .slice none 0 0]) XB24 rfl rfl rfl <| SL.alloc (cs := [.int .i64 0, .int .i64 0, .slice none 0 0]) hS Qa rfl rfl ?_; intro g11 w12 hS; refine JA (cs := [.int .i64 2, .int .i64 1, .slice none 0 0]) 0 hS rfl Qa rfl rfl rfl rfl rfl ?_; intro w13 hS; refine Ja <| Jh 2 <| J0 (cells := #[.int .i64 5, .int .i64 1, .slice none 0 0]) XB24 rfl rfl rfl <| SL.alloc (cs := [.int .i64 0, .int .i64 0, .slice none 0 0]) hS Qa rfl rfl ?_; intro g14 w15 hS; refine JA (cs := [.int .i64 5, .int .i64 1, .slice none 0 0]) 0 hS rfl Qa rfl rfl rfl rfl rfl ?_; intro w16 hS; refine Ja <| Jh 2 <| JL (vs := is ([(1 : Int), (1 : Int), (0 : Int)] : List Int)) hS Jr XE3 rfl rfl rfl rfl (J3 _) rfl ?_; intro A17 w18 hS; refine JL (vs := is ([(0 : Int), (1 : Int), (1 : Int)] : List Int)) hS Jr XE3 rfl rfl rfl rfl (J3 _) rfl ?_; intro A20 w21 hS; refine JL (vs := is ([(1 : Int), (0 : Int), (1 : Int)] : List Int)) hS Jr XE3 rfl rfl rfl rfl (J3 _) rfl ?_; intro A23 w24 hS; refine JL (vs := [.slice A17 3 3, .slice A20 3 3, .slice A23 3 3]) hS Jt Ju rfl rfl rfl rfl (by simp [Value.oneCell']) rfl ?_; intro A26 w27 hS; refine J0 (cells := #[.int .i64 3, .slice A26 3 3]) Zt rfl rfl rfl <| SL.alloc (cs := [.int .i64 0, .slice none 0 0]) hS JC rfl rfl ?_; intro g29 w30 hS; refine JA (cs := [.int .i64 3, .slice A26 3 3]) 0 hS rfl JC rfl rfl rfl rfl rfl ?_; intro w31 hS; refine Ja <| Jh 2 <| Jn (cs := [.int .i64 2, .int .i64 1, .slice none 0 0]) Qa Qg rfl rfl (Jb (hS.own (i := 6) rfl)) rfl <| Jn (cs := [.int .i64 3, .slice A26 3 3]) JC J6 rfl rfl (Jb (hS.own (i := 0) rfl)) rfl <| SL.call hS (QN (YC w31) (⟨_, _, (hS.rd (i := 1) rfl), ⟨⟨_, _, _, rfl, (J8 (hS.rd (i := 4) rfl))⟩, ⟨_, _, _, rfl, (J8 (hS.rd (i := 3) rfl))⟩, ⟨_, _, _, rfl, (J8 (hS.rd (i := 2) rfl))⟩, trivial⟩⟩ : Rl _ _ _ _ ([([(1 : Int), (1 : Int), (0 : Int)] : List Int), ([(0 : Int), (1 : Int), (1 : Int)] : List Int), ([(1 : Int), (0 : Int), (1 : Int)] : List Int)] : List (List Int))) hv) Jkk rfl Jni rfl rfl ?_; rintro _ _ w32 ⟨c33, x34, x35, r36, A37, k38, hs39, A41, k42, rfl, rfl, hv⟩ hGw32 hS; have hS := hS.n2; refine Jd 4 <| SL.alloc (cs := [.int .i64 0, .slice none 0 0]) hS JC rfl rfl ?_; intro g44 w45 hS; refine JA (cs := [.int .i64 c33, .slice A37 x34.length k38]) 0 hS rfl JC rfl rfl rfl rfl rfl ?_; intro w46 hS; refine Jd 3 <| Jh 2 <| Jn (cs := [.int .i64 2, .int .i64 1, .slice none 0 0]) Qa Qg rfl rfl (Jb (hS.own (i := 9) rfl)) rfl <| Jn (cs := [.int .i64 3, .slice A26 3 3]) JC J6 rfl rfl (Jb (hS.own (i := 3) rfl)) rfl <| SL.call hS (Jrh (YC w46) (⟨_, _, (hS.rd (i := 4) rfl), ⟨⟨_, _, _, rfl, (J8 (hS.rd (i := 7) rfl))⟩, ⟨_, _, _, rfl, (J8 (hS.rd (i := 6) rfl))⟩, ⟨_, _, _, rfl, (J8 (hS.rd (i := 5) rfl))⟩, trivial⟩⟩ : Rl _ _ _ _ ([([(1 : Int), (1 : Int), (0 : Int)] : List Int), ([(0 : Int), (1 : Int), (1 : Int)] : List Int), ([(1 : Int), (0 : Int), (1 : Int)] : List Int)] : List (List Int))) hv) XF19 rfl XN19 rfl rfl ?_; rintro _ _ w47 ⟨r48, r49, rfl, rfl, hv⟩ hGw47 hS; have hS := hS.n0; refine Jd 6 <| Jh 2 <| Jn (cs := [.int .i64 2, .int .i64 1, .slice none 0 0]) Qa Qg rfl rfl (Jb (hS.own (i := 9) rfl)) rfl <| Jn (cs := [.int .i64 3, .slice A26 3 3]) JC J6 rfl rfl (Jb (hS.own (i := 3) rfl)) rfl <| SL.call hS (Jmn (YC w47) (⟨_, _, (hS.rd (i := 4) rfl), ⟨⟨_, _, _, rfl, (J8 (hS.rd (i := 7) rfl))⟩, ⟨_, _, _, rfl, (J8 (hS.rd (i := 6) rfl))⟩, ⟨_, _, _, rfl, (J8 (hS.rd (i := 5) rfl))⟩, trivial⟩⟩ : Rl _ _ _ _ ([([(1 : Int), (1 : Int), (0 : Int)] : List Int), ([(0 : Int), (1 : Int), (1 : Int)] : List Int), ([(1 : Int), (0 : Int), (1 : Int)] : List Int)] : List (List Int))) hv) XF33 rfl XN33 rfl rfl ?_; rintro _ _ w50 ⟨c51, x52, r53, A54, k55, hs56, rfl, rfl, hv⟩ hGw50 hS; have hS := hS.n1; refine Jd 3 <| SL.alloc (cs := [.int .i64 0, .slice none 0 0]) hS JC rfl rfl ?_; intro g58 w59 hS; refine JA (cs := [.int .i64 c51, .slice A54 x52.length k55]) 0 hS rfl JC rfl rfl rfl rfl rfl ?_; intro w60 hS; refine Jd 2 <| Jh 2 <| JL (vs := is ([(1 : Int), (2 : Int)] : List Int)) hS Jr XE3 rfl rfl rfl rfl (J3 _) rfl ?_; intro A61 w62 hS; refine JL (vs := is ([(3 : Int), (4 : Int)] : List Int)) hS Jr XE3 rfl rfl rfl rfl (J3 _) rfl ?_; intro A64 w65 hS; refine JL (vs := [.slice A61 2 2, .slice A64 2 2]) hS Jt Ju rfl rfl rfl rfl (by simp [Value.oneCell']) rfl ?_; intro A67 w68 hS; refine J0 (cells := #[.int .i64 2, .slice A67 2 2]) Zt rfl rfl rfl <| SL.alloc (cs := [.int .i64 0, .slice none 0 0]) hS JC rfl rfl ?_; intro g70 w71 hS; refine JA (cs := [.int .i64 2, .slice A67 2 2]) 0 hS rfl JC rfl rfl rfl rfl rfl ?_; intro w72 hS; refine Ja <| Jh 2 <| Jn (cs := [.int .i64 5, .int .i64 1, .slice none 0 0]) Qa Qg rfl rfl (Jb (hS.own (i := 14) rfl)) rfl <| Jn (cs := [.int .i64 2, .slice A67 2 2]) JC J6 rfl rfl (Jb (hS.own (i := 0) rfl)) rfl <| SL.call hS (ok_Det (YC w72) (⟨_, _, (hS.rd (i := 1) rfl), ⟨⟨_, _, _, rfl, (J8 (hS.rd (i := 3) rfl))⟩, ⟨_, _, _, rfl, (J8 (hS.rd (i := 2) rfl))⟩, trivial⟩⟩ : Rl _ _ _ _ ([([(1 : Int), (2 : Int)] : List Int), ([(3 : Int), (4 : Int)] : List Int)] : List (List Int))) hv) XF54 rfl XN54 rfl rfl ?_; rintro _ _ w73 ⟨r74, r75, rfl, rfl, hv⟩ hGw73 hS; have hS := hS.n0; refine Jd 6 <| Jh 2 <| Jn (cs := [.int .i64 5, .int .i64 1, .slice none 0 0]) Qa Qg rfl rfl (Jb (hS.own (i := 14) rfl)) rfl <| Jn (cs := [.int .i64 2, .slice A67 2 2]) JC J6 rfl rfl (Jb (hS.own (i := 0) rfl)) rfl <| SL.call hS (Jjk (YC w73) (⟨_, _, (hS.rd (i := 1) rfl), ⟨⟨_, _, _, rfl, (J8 (hS.rd (i := 3) rfl))⟩, ⟨_, _, _, rfl, (J8 (hS.rd (i := 2) rfl))⟩, trivial⟩⟩ : Rl _ _ _ _ ([([(1 : Int), (2 : Int)] : List Int), ([(3 : Int), (4 : Int)] : List Int)] : List (List Int))) hv) XF32 rfl XN32 rfl rfl ?_; rintro _ _ w76 ⟨c77, x78, r79, A80, k81, hs82, rfl, rfl, hv⟩ hGw76 hS; have hS := hS.n1; refine Jd 3 <| SL.alloc (cs := [.int .i64 0, .slice none 0 0]) hS JC rfl rfl ?_; intro g84 w85 hS; refine JA (cs := [.int .i64 c77, .slice A80 x78.length k81]) 0 hS rfl JC rfl rfl rfl rfl rfl ?_; intro w86 hS; refine Jd 2 <| Jh 2 <| Jn (cs := [.int .i64 5, .int .i64 1, .slice none 0 0]) Qa Qg rfl rfl (Jb (hS.own (i := 16) rfl)) rfl <| JL (vs := is ([(1 : Int), (1 : Int)] : List Int)) hS Jr XE3 rfl rfl rfl rfl (J3 _) rfl ?_; intro A87 w88 hS; refine Jn (cs := [.int .i64 2, .slice A67 2 2]) JC J6 rfl rfl (Jb (hS.own (i := 3) rfl)) rfl <| SL.call hS (ok_Vec (YC w88) (hS.rd (i := 0) rfl) (⟨_, _, (hS.rd (i := 4) rfl), ⟨⟨_, _, _, rfl, (J8 (hS.rd (i := 6) rfl))⟩, ⟨_, _, _, rfl, (J8 (hS.rd (i := 5) rfl))⟩, trivial⟩⟩ : Rl _ _ _ _ ([([(1 : Int), (2 : Int)] : List Int), ([(3 : Int), (4 : Int)] : List Int)] : List (List Int))) hv) XF49 rfl XN49 rfl rfl ?_; rintro _ _ w90 ⟨x91, r92, A93, k94, rfl, rfl, hv⟩ hGw90 hS; have hS := hS.n1; refine Jd 6 <| Jh 2 <| Jn (cs := [.int .i64 5, .int .i64 1, .slice none 0 0]) Qa Qg rfl rfl (Jb (hS.own (i := 18) rfl)) rfl <| Jn (cs := [.int .i64 2, .slice A67 2 2]) JC J6 rfl rfl (Jb (hS.own (i := 4) rfl)) rfl <| JL (vs := is ([(3 : Int), (2 : Int)] : List Int)) hS Jr XE3 rfl rfl rfl rfl (J3 _) rfl ?_; intro A96 w97 hS; refine SL.call hS (Jo3 (YC w97) (⟨_, _, (hS.rd (i := 6) rfl), ⟨⟨_, _, _, rfl, (J8 (hS.rd (i := 8) rfl))⟩, ⟨_, _, _, rfl, (J8 (hS.rd (i := 7) rfl))⟩, trivial⟩⟩ : Rl _ _ _ _ ([([(1 : Int), (2 : Int)] : List Int), ([(3 : Int), (4 : Int)] : List Int)] : List (List Int))) (hS.rd (i := 0) rfl) hv) XF36 rfl XN36 rfl rfl ?_; rintro _ _ w99 ⟨x100, r101, A102, k103, rfl, rfl, hv⟩ hGw99 hS; have hS := hS.n1; refine Jd 6 <| Jh 4 <| Je rfl rfl ?_; by_cases g105 : r36 = (0 : Int)
 .have hv := hv.1 g105; rw [decide_eq_true g105]; refine Jd 5 <| Je rfl rfl ?_; by_cases g106 : r49 = (0 : Int)
  .have hv := hv.1 g106; rw [decide_eq_true g106]; refine Jd 5 <| Je rfl rfl ?_; by_cases g107 : r53 = (0 : Int)
   .have hv := hv.1 g107; rw [decide_eq_true g107]; refine Jd 5 <| Je rfl rfl ?_; by_cases g108 : r75 = (0 : Int)
    .have hv := hv.1 g108; rw [decide_eq_true g108]; refine Jd 5 <| Je rfl rfl ?_; by_cases g109 : r79 = (0 : Int)
     .have hv := hv.1 g109; rw [decide_eq_true g109]; refine Jd 5 <| Je rfl rfl ?_; by_cases g110 : r92 = (0 : Int)
      .have hv := hv.1 g110; rw [decide_eq_true g110]; refine Jd 7 <| Jh 3 <| Je rfl rfl ?_; by_cases g111 : r101 = (0 : Int)
       .have hv := hv.1 g111; rw [decide_eq_true g111]; refine WL.take rfl <| Jn (cs := [.int .i64 c33, .slice A37 x34.length k38]) JC J6 rfl rfl (Jb (hS.own (i := 12) rfl)) rfl <| WL.take rfl <| JL (vs := is ([(1 : Int), (0 : Int), (1 : Int)] : List Int)) hS Jr XE3 rfl rfl rfl rfl (J3 _) rfl ?_; intro A112 w113 hS; refine WL.take rfl <| JL (vs := is ([(0 : Int), (1 : Int), (1 : Int)] : List Int)) hS Jr XE3 rfl rfl rfl rfl (J3 _) rfl ?_; intro A115 w116 hS; refine WL.take rfl <| JL (vs := [.slice A112 3 3, .slice A115 3 3]) hS Jt Ju rfl rfl rfl rfl (by simp [Value.oneCell']) rfl ?_; intro A118 w119 hS; refine WL.take rfl <| J0 (cells := #[.int .i64 3, .slice A118 2 2]) Zt rfl rfl rfl <| WL.take rfl <| SL.call hS (Y3 (hS.rl (i := 16) rfl) (⟨_, _, (hS.rd (i := 0) rfl), ⟨⟨_, _, _, rfl, (J8 (hS.rd (i := 2) rfl))⟩, ⟨_, _, _, rfl, (J8 (hS.rd (i := 1) rfl))⟩, trivial⟩⟩ : Rl _ _ _ _ ([([(1 : Int), (0 : Int), (1 : Int)] : List Int), ([(0 : Int), (1 : Int), (1 : Int)] : List Int)] : List (List Int))) hv) Jkj rfl Jnh rfl rfl ?_; rintro _ _ w121 ⟨r122, rfl, rfl, hv⟩ hGw121 hS; have hS := hS.n0; refine WL.pick rfl rfl rfl <| Je rfl rfl ?_; cases g123 : r122
        .have hv := hv.2 g123; refine Jd 51 <| W.ret <| ⟨_, rfl, Fin.nil ?_⟩
         exact ⟨_, hS.ext, (hS.pick [] rfl).rows, Jj (hS.pick [] rfl).rows rfl, ⟨false, rfl, rfl, hv⟩⟩
        have hv := hv.1 g123; refine Jd 3 <| JL (vs := is ([(0 : Int), (1 : Int)] : List Int)) hS Jr XE3 rfl rfl rfl rfl (J3 _) rfl ?_; intro A124 w125 hS; refine WL.take rfl <| SL.call hS (Yw (hS.rd (i := 18) rfl) (hS.rd (i := 0) rfl) hv) XF21 rfl XN21 rfl rfl ?_; rintro _ _ w127 ⟨r128, rfl, rfl, hv⟩ hGw127 hS; have hS := hS.n0; refine WL.pick rfl rfl rfl <| Je rfl rfl ?_; cases g129 : r128
        .have hv := hv.2 g129; refine Jd 46 <| W.ret <| ⟨_, rfl, Fin.nil ?_⟩
         exact ⟨_, hS.ext, (hS.pick [] rfl).rows, Jj (hS.pick [] rfl).rows rfl, ⟨false, rfl, rfl, hv⟩⟩
        have hv := hv.1 g129; refine Jd 5 <| Je rfl rfl ?_; by_cases g130 : r48 = (2 : Int)
        .have hv := hv.1 g130; rw [decide_eq_true g130]; refine WL.take rfl <| Jn (cs := [.int .i64 c51, .slice A54 x52.length k55]) JC J6 rfl rfl (Jb (hS.own (i := 14) rfl)) rfl <| WL.take rfl <| JL (vs := is ([(1 : Int), (1 : Int), (1 : Int)] : List Int)) hS Jr XE3 rfl rfl rfl rfl (J3 _) rfl ?_; intro A131 w132 hS; refine WL.take rfl <| JL (vs := [.slice A131 3 3]) hS Jt Ju rfl rfl rfl rfl (by simp [Value.oneCell']) rfl ?_; intro A134 w135 hS; refine WL.take rfl <| J0 (cells := #[.int .i64 3, .slice A134 1 1]) Zt rfl rfl rfl <| WL.take rfl <| SL.call hS (Y3 (hS.rl (i := 17) rfl) (⟨_, _, (hS.rd (i := 0) rfl), ⟨⟨_, _, _, rfl, (J8 (hS.rd (i := 1) rfl))⟩, trivial⟩⟩ : Rl _ _ _ _ ([([(1 : Int), (1 : Int), (1 : Int)] : List Int)] : List (List Int))) hv) Jkj rfl Jnh rfl rfl ?_; rintro _ _ w137 ⟨r138, rfl, rfl, hv⟩ hGw137 hS; have hS := hS.n0; refine WL.pick rfl rfl rfl <| Je rfl rfl ?_; cases g139 : r138
         .have hv := hv.2 g139; refine Jd 35 <| W.ret <| ⟨_, rfl, Fin.nil ?_⟩
          exact ⟨_, hS.ext, (hS.pick [] rfl).rows, Jj (hS.pick [] rfl).rows rfl, ⟨false, rfl, rfl, hv⟩⟩
         have hv := hv.1 g139; refine Jd 5 <| Je rfl rfl ?_; by_cases g140 : r74 = (3 : Int)
         .have hv := hv.1 g140; rw [decide_eq_true g140]; refine WL.take rfl <| Jn (cs := [.int .i64 c77, .slice A80 x78.length k81]) JC J6 rfl rfl (Jb (hS.own (i := 10) rfl)) rfl <| WL.take rfl <| JL (vs := is ([(3 : Int), (1 : Int)] : List Int)) hS Jr XE3 rfl rfl rfl rfl (J3 _) rfl ?_; intro A141 w142 hS; refine WL.take rfl <| JL (vs := is ([(4 : Int), (2 : Int)] : List Int)) hS Jr XE3 rfl rfl rfl rfl (J3 _) rfl ?_; intro A144 w145 hS; refine WL.take rfl <| JL (vs := [.slice A141 2 2, .slice A144 2 2]) hS Jt Ju rfl rfl rfl rfl (by simp [Value.oneCell']) rfl ?_; intro A147 w148 hS; refine WL.take rfl <| J0 (cells := #[.int .i64 2, .slice A147 2 2]) Zt rfl rfl rfl <| WL.take rfl <| SL.call hS (Y3 (hS.rl (i := 14) rfl) (⟨_, _, (hS.rd (i := 0) rfl), ⟨⟨_, _, _, rfl, (J8 (hS.rd (i := 2) rfl))⟩, ⟨_, _, _, rfl, (J8 (hS.rd (i := 1) rfl))⟩, trivial⟩⟩ : Rl _ _ _ _ ([([(3 : Int), (1 : Int)] : List Int), ([(4 : Int), (2 : Int)] : List Int)] : List (List Int))) hv) Jkj rfl Jnh rfl rfl ?_; rintro _ _ w150 ⟨r151, rfl, rfl, hv⟩ hGw150 hS; have hS := hS.n0; refine WL.pick rfl rfl rfl <| Je rfl rfl ?_; cases g152 : r151
          .have hv := hv.2 g152; refine Jd 23 <| W.ret <| ⟨_, rfl, Fin.nil ?_⟩
           exact ⟨_, hS.ext, (hS.pick [] rfl).rows, Jj (hS.pick [] rfl).rows rfl, ⟨false, rfl, rfl, hv⟩⟩
          have hv := hv.1 g152; refine Jd 3 <| JL (vs := is ([(4 : Int), (1 : Int)] : List Int)) hS Jr XE3 rfl rfl rfl rfl (J3 _) rfl ?_; intro A153 w154 hS; refine WL.take rfl <| SL.call hS (Yw (hS.rd (i := 12) rfl) (hS.rd (i := 0) rfl) hv) XF21 rfl XN21 rfl rfl ?_; rintro _ _ w156 ⟨r157, rfl, rfl, hv⟩ hGw156 hS; have hS := hS.n0; refine WL.pick rfl rfl rfl <| Je rfl rfl ?_; cases g158 : r157
          .have hv := hv.2 g158; refine Jd 18 <| W.ret <| ⟨_, rfl, Fin.nil ?_⟩
           exact ⟨_, hS.ext, (hS.pick [] rfl).rows, Jj (hS.pick [] rfl).rows rfl, ⟨false, rfl, rfl, hv⟩⟩
          have hv := hv.1 g158; refine Jd 3 <| JL (vs := is ([(1 : Int), (1 : Int)] : List Int)) hS Jr XE3 rfl rfl rfl rfl (J3 _) rfl ?_; intro A159 w160 hS; refine WL.take rfl <| SL.call hS (Yw (hS.rd (i := 11) rfl) (hS.rd (i := 0) rfl) hv) XF21 rfl XN21 rfl rfl ?_; rintro _ _ w162 ⟨r163, rfl, rfl, hv⟩ hGw162 hS; have hS := hS.n0; refine WL.pick rfl rfl rfl <| Je rfl rfl ?_; cases g164 : r163
          .have hv := hv.2 g164; refine Jd 13 <| W.ret <| ⟨_, rfl, Fin.nil ?_⟩
           exact ⟨_, hS.ext, (hS.pick [] rfl).rows, Jj (hS.pick [] rfl).rows rfl, ⟨false, rfl, rfl, hv⟩⟩
          have hv := hv.1 g164; refine WL.take rfl <| Jn (cs := [.int .i64 5, .int .i64 1, .slice none 0 0]) Qa Qg rfl rfl (Jb (hS.own (i := 31) rfl)) rfl <| WL.take rfl <| Jn (cs := [.int .i64 2, .slice A67 2 2]) JC J6 rfl rfl (Jb (hS.own (i := 17) rfl)) rfl <| WL.take rfl <| SL.call hS (Je3 (YC w162) (⟨_, _, (hS.rd (i := 18) rfl), ⟨⟨_, _, _, rfl, (J8 (hS.rd (i := 20) rfl))⟩, ⟨_, _, _, rfl, (J8 (hS.rd (i := 19) rfl))⟩, trivial⟩⟩ : Rl _ _ _ _ ([([(1 : Int), (2 : Int)] : List Int), ([(3 : Int), (4 : Int)] : List Int)] : List (List Int))) hv) XF22 rfl XN22 rfl rfl ?_; rintro _ _ w165 ⟨r166, rfl, rfl, hv⟩ hGw165 hS; have hS := hS.n0; refine Jd 3 <| Je rfl rfl ?_; by_cases g167 : r166 = (0 : Int)
          .have hv := hv.1 g167; rw [decide_eq_true g167]; refine WL.take rfl <| Jn (cs := [.int .i64 2, .int .i64 1, .slice none 0 0]) Qa Qg rfl rfl (Jb (hS.own (i := 32) rfl)) rfl <| WL.take rfl <| Jn (cs := [.int .i64 2, .slice A67 2 2]) JC J6 rfl rfl (Jb (hS.own (i := 17) rfl)) rfl <| WL.take rfl <| SL.call hS (Je3 (YC w165) (⟨_, _, (hS.rd (i := 18) rfl), ⟨⟨_, _, _, rfl, (J8 (hS.rd (i := 20) rfl))⟩, ⟨_, _, _, rfl, (J8 (hS.rd (i := 19) rfl))⟩, trivial⟩⟩ : Rl _ _ _ _ ([([(1 : Int), (2 : Int)] : List Int), ([(3 : Int), (4 : Int)] : List Int)] : List (List Int))) hv) XF22 rfl XN22 rfl rfl ?_; rintro _ _ w168 ⟨r169, rfl, rfl, hv⟩ hGw168 hS; have hS := hS.n0; refine Jd 5 <| W.ret <| ⟨_, rfl, Fin.nil ?_⟩
           exact ⟨_, hS.ext, (hS.pick [] rfl).rows, Jj (hS.pick [] rfl).rows rfl, ⟨(decide (r169 = (2 : Int))), rfl, rfl, hv⟩⟩
          have hv := hv.2 g167; rw [decide_eq_false g167]; refine Jd 7 <| W.ret <| ⟨_, rfl, Fin.nil ?_⟩
          exact ⟨_, hS.ext, (hS.pick [] rfl).rows, Jj (hS.pick [] rfl).rows rfl, ⟨false, rfl, rfl, hv⟩⟩
         have hv := hv.2 g140; rw [decide_eq_false g140]; refine Jd 31 <| W.ret <| ⟨_, rfl, Fin.nil ?_⟩
         exact ⟨_, hS.ext, (hS.pick [] rfl).rows, Jj (hS.pick [] rfl).rows rfl, ⟨false, rfl, rfl, hv⟩⟩
        have hv := hv.2 g130; rw [decide_eq_false g130]; refine Jd 42 <| W.ret <| ⟨_, rfl, Fin.nil ?_⟩
        exact ⟨_, hS.ext, (hS.pick [] rfl).rows, Jj (hS.pick [] rfl).rows rfl, ⟨false, rfl, rfl, hv⟩⟩
       have hv := hv.2 g111; rw [decide_eq_false g111]; refine Jd 59 <| W.ret <| ⟨_, rfl, Fin.nil ?_⟩
       exact ⟨_, hS.ext, (hS.pick [] rfl).rows, Jj (hS.pick [] rfl).rows rfl, ⟨false, rfl, rfl, hv⟩⟩
      have hv := hv.2 g110; rw [decide_eq_false g110]; refine Jd 5 <| Jh 63 <| W.ret <| ⟨_, rfl, Fin.nil ?_⟩
      exact ⟨_, hS.ext, (hS.pick [] rfl).rows, Jj (hS.pick [] rfl).rows rfl, ⟨false, rfl, rfl, hv⟩⟩
     have hv := hv.2 g109; rw [decide_eq_false g109]; refine Jd 9 <| Jh 63 <| W.ret <| ⟨_, rfl, Fin.nil ?_⟩
     exact ⟨_, hS.ext, (hS.pick [] rfl).rows, Jj (hS.pick [] rfl).rows rfl, ⟨false, rfl, rfl, hv⟩⟩
    have hv := hv.2 g108; rw [decide_eq_false g108]; refine Jd 13 <| Jh 63 <| W.ret <| ⟨_, rfl, Fin.nil ?_⟩
    exact ⟨_, hS.ext, (hS.pick [] rfl).rows, Jj (hS.pick [] rfl).rows rfl, ⟨false, rfl, rfl, hv⟩⟩
   have hv := hv.2 g107; rw [decide_eq_false g107]; refine Jd 17 <| Jh 63 <| W.ret <| ⟨_, rfl, Fin.nil ?_⟩
   exact ⟨_, hS.ext, (hS.pick [] rfl).rows, Jj (hS.pick [] rfl).rows rfl, ⟨false, rfl, rfl, hv⟩⟩
  have hv := hv.2 g106; rw [decide_eq_false g106]; refine Jd 21 <| Jh 63 <| W.ret <| ⟨_, rfl, Fin.nil ?_⟩
  exact ⟨_, hS.ext, (hS.pick [] rfl).rows, Jj (hS.pick [] rfl).rows rfl, ⟨false, rfl, rfl, hv⟩⟩
 have hv := hv.2 g105; rw [decide_eq_false g105]; refine Jd 25 <| Jh 63 <| W.ret <| ⟨_, rfl, Fin.nil ?_⟩
 exact ⟨_, hS.ext, (hS.pick [] rfl).rows, Jj (hS.pick [] rfl).rows rfl, ⟨false, rfl, rfl, hv⟩⟩
end Go.Proofs.Ytiboieijhehjnaa
set_option linter.unusedSimpArgs false
set_option linter.unusedVariables false
set_option maxRecDepth 4000
set_option maxHeartbeats 4000000
namespace Go.Proofs.Ytiboieijhehjnaa
open Go.RowKit
def Jcf (Pf : Int) (Mf : Int) (mf : List Int) (Cm : Int) (m : List (List Int)) (at0 : Int) (at1 : Int) (at2 : Int) (Q : Bool -> Prop) : Prop :=
  Jac  (fun r18 => (((!r18) = true) -> (Jac  (fun r21 => Q r21))) /\ ((!r18) = false -> (Jgx Cm m (200 : Int) (fun r23 => (((!r23) = true) -> (Jac  (fun r26 => Q r26))) /\ ((!r23) = false -> (Qs Pf Mf mf Cm m (fun q => match q with | (c28, x29, x30, r31) => Z8 Pf Mf mf Cm m (fun r43 => ((r43 ≠ (0 : Int)) -> Q true) /\ (¬ (r43 ≠ (0 : Int)) -> ((((m.length : Int) < (2 : Int)) -> Q true) /\ (¬ ((m.length : Int) < (2 : Int)) -> (((r31 ≠ (0 : Int)) -> Q false) /\ (¬ (r31 ≠ (0 : Int)) -> (((Cm = (0 : Int)) -> Q true) /\ (¬ (Cm = (0 : Int)) -> ((I64 at0) /\ (((m.length : Int) ≠ 0) /\ ((I64 ((at0.tmod (m.length : Int)) + (1 : Int))) /\ ((I64 at1) /\ ((I64 ((m.length : Int) - (1 : Int))) /\ ((((m.length : Int) - (1 : Int)) ≠ 0) /\ ((I64 (((at0.tmod (m.length : Int)) + (1 : Int)) + (at1.tmod ((m.length : Int) - (1 : Int))))) /\ (((m.length : Int) ≠ 0) /\ ((I64 at2) /\ (∃ (r62 : Int), Y9 Pf Mf mf (fun q => q = r62) /\ ((I64 (r62 - (1 : Int))) /\ (((r62 - (1 : Int)) ≠ 0) /\ ((I64 ((1 : Int) + (at2.tmod (r62 - (1 : Int))))) /\ (Jdh m (fun x74 => ∃ J79 : Prop, ((0 <= ((((at0.tmod (m.length : Int)) + (1 : Int)) + (at1.tmod ((m.length : Int) - (1 : Int)))).tmod (m.length : Int)) /\ ((((at0.tmod (m.length : Int)) + (1 : Int)) + (at1.tmod ((m.length : Int) - (1 : Int)))).tmod (m.length : Int)) < (x74.length : Nat)) /\ ((0 <= (at0.tmod (m.length : Int)) /\ (at0.tmod (m.length : Int)) < (x74.length : Nat)) /\ ((0 <= (at0.tmod (m.length : Int)) /\ (at0.tmod (m.length : Int)) < (x74.length : Nat)) /\ ((0 <= ((((at0.tmod (m.length : Int)) + (1 : Int)) + (at1.tmod ((m.length : Int) - (1 : Int)))).tmod (m.length : Int)) /\ ((((at0.tmod (m.length : Int)) + (1 : Int)) + (at1.tmod ((m.length : Int) - (1 : Int)))).tmod (m.length : Int)) < (x74.length : Nat)) /\ J79)))) /\ (J79 -> (Qs Pf Mf mf Cm (sll (sll x74 (at0.tmod (m.length : Int)) (gl x74 ((((at0.tmod (m.length : Int)) + (1 : Int)) + (at1.tmod ((m.length : Int) - (1 : Int)))).tmod (m.length : Int)))) ((((at0.tmod (m.length : Int)) + (1 : Int)) + (at1.tmod ((m.length : Int) - (1 : Int)))).tmod (m.length : Int)) (gl x74 (at0.tmod (m.length : Int)))) (fun q => match q with | (c102, x103, x104, r105) => (0 <= (at0.tmod (m.length : Int)) /\ (at0.tmod (m.length : Int)) < (x74.length : Nat)) /\ ((0 <= ((((at0.tmod (m.length : Int)) + (1 : Int)) + (at1.tmod ((m.length : Int) - (1 : Int)))).tmod (m.length : Int)) /\ ((((at0.tmod (m.length : Int)) + (1 : Int)) + (at1.tmod ((m.length : Int) - (1 : Int)))).tmod (m.length : Int)) < (x74.length : Nat)) /\ (∃ (x131 : List Int), ZP Pf Mf mf (gl (sll (sll x74 (at0.tmod (m.length : Int)) (gl x74 ((((at0.tmod (m.length : Int)) + (1 : Int)) + (at1.tmod ((m.length : Int) - (1 : Int)))).tmod (m.length : Int)))) ((((at0.tmod (m.length : Int)) + (1 : Int)) + (at1.tmod ((m.length : Int) - (1 : Int)))).tmod (m.length : Int)) (gl x74 (at0.tmod (m.length : Int)))) (at0.tmod (m.length : Int))) ((1 : Int) + (at2.tmod (r62 - (1 : Int)))) (gl (sll (sll x74 (at0.tmod (m.length : Int)) (gl x74 ((((at0.tmod (m.length : Int)) + (1 : Int)) + (at1.tmod ((m.length : Int) - (1 : Int)))).tmod (m.length : Int)))) ((((at0.tmod (m.length : Int)) + (1 : Int)) + (at1.tmod ((m.length : Int) - (1 : Int)))).tmod (m.length : Int)) (gl x74 (at0.tmod (m.length : Int)))) ((((at0.tmod (m.length : Int)) + (1 : Int)) + (at1.tmod ((m.length : Int) - (1 : Int)))).tmod (m.length : Int))) (fun q => q = x131) /\ ((0 <= (at0.tmod (m.length : Int)) /\ (at0.tmod (m.length : Int)) < (x74.length : Nat)) /\ (Qs Pf Mf mf Cm (sll (sll (sll x74 (at0.tmod (m.length : Int)) (gl x74 ((((at0.tmod (m.length : Int)) + (1 : Int)) + (at1.tmod ((m.length : Int) - (1 : Int)))).tmod (m.length : Int)))) ((((at0.tmod (m.length : Int)) + (1 : Int)) + (at1.tmod ((m.length : Int) - (1 : Int)))).tmod (m.length : Int)) (gl x74 (at0.tmod (m.length : Int)))) (at0.tmod (m.length : Int)) x131) (fun q => match q with | (c144, x145, x146, r147) => (0 <= Cm /\ Cm * 8 <= 281474976710656 /\ Cm <= 281474976710656) /\ ((0 <= ((((at0.tmod (m.length : Int)) + (1 : Int)) + (at1.tmod ((m.length : Int) - (1 : Int)))).tmod (m.length : Int)) /\ ((((at0.tmod (m.length : Int)) + (1 : Int)) + (at1.tmod ((m.length : Int) - (1 : Int)))).tmod (m.length : Int)) < (x74.length : Nat)) /\ (∃ (x177 : List Int), ZP Pf Mf mf (List.replicate Cm.toNat (0 : Int)) ((1 : Int) + (at2.tmod (r62 - (1 : Int)))) (gl (sll (sll (sll x74 (at0.tmod (m.length : Int)) (gl x74 ((((at0.tmod (m.length : Int)) + (1 : Int)) + (at1.tmod ((m.length : Int) - (1 : Int)))).tmod (m.length : Int)))) ((((at0.tmod (m.length : Int)) + (1 : Int)) + (at1.tmod ((m.length : Int) - (1 : Int)))).tmod (m.length : Int)) (gl x74 (at0.tmod (m.length : Int)))) (at0.tmod (m.length : Int)) x131) ((((at0.tmod (m.length : Int)) + (1 : Int)) + (at1.tmod ((m.length : Int) - (1 : Int)))).tmod (m.length : Int))) (fun q => q = x177) /\ ((0 <= ((((at0.tmod (m.length : Int)) + (1 : Int)) + (at1.tmod ((m.length : Int) - (1 : Int)))).tmod (m.length : Int)) /\ ((((at0.tmod (m.length : Int)) + (1 : Int)) + (at1.tmod ((m.length : Int) - (1 : Int)))).tmod (m.length : Int)) < (x74.length : Nat)) /\ (Qs Pf Mf mf Cm (sll (sll (sll (sll x74 (at0.tmod (m.length : Int)) (gl x74 ((((at0.tmod (m.length : Int)) + (1 : Int)) + (at1.tmod ((m.length : Int) - (1 : Int)))).tmod (m.length : Int)))) ((((at0.tmod (m.length : Int)) + (1 : Int)) + (at1.tmod ((m.length : Int) - (1 : Int)))).tmod (m.length : Int)) (gl x74 (at0.tmod (m.length : Int)))) (at0.tmod (m.length : Int)) x131) ((((at0.tmod (m.length : Int)) + (1 : Int)) + (at1.tmod ((m.length : Int) - (1 : Int)))).tmod (m.length : Int)) x177) (fun q => match q with | (c190, x191, x192, r193) => ((r105 = (0 : Int)) -> (((r147 = (0 : Int)) -> (((r193 = (0 : Int)) -> (YA c102 x103 c28 x29 (fun r208 => ((r208 = true) -> (YA c144 x145 c28 x29 (fun r211 => ((r211 = true) -> (YA c190 x191 c28 x29 (fun r214 => Q r214))) /\ (r211 = false -> Q false)))) /\ (r208 = false -> Q false)))) /\ (¬ (r193 = (0 : Int)) -> Q false))) /\ (¬ (r147 = (0 : Int)) -> Q false))) /\ (¬ (r105 = (0 : Int)) -> Q false))))))))))))))))))))))))))))))))))))))))))))
theorem Jjj {w : World} {Q : Bool -> Prop} {Pf : Int} {Mf : Int} {mf : List Int} {Cm : Int} {m : List (List Int)} {at0 : Int} {at1 : Int} {at2 : Int} {Bf : Nat} {Af : Option Addr} {nf kf : Nat} (hf : Rd Bf w 1 Af nf kf (is mf)) {Am : Option Addr} {nm km : Nat} (hm : Rl w Am nm km m) (hv : Jcf Pf Mf mf Cm m at0 at1 at2 Q) :
   Calls Try.prog 5 #[.agg #[.int .i64 Pf, .int .i64 Mf, .slice Af nf kf], .agg #[.int .i64 Cm, .slice Am nm km], .agg #[.int .u8 at0, .int .u8 at1, .int .u8 at2]] w fun e w' => ∃ v Qr, e = .returned v /\ w.grownBy w' none /\ Rows w.heap.size none w' Qr /\ News w.heap.size Qr /\ ∃ (r0 : Bool), v = .bool r0 /\ Qr = [] /\ Q r0 := by
 have hnf := hf.ilen; subst hnf; have hnm := hm.len; subst hnm; obtain ⟨hsm, hHm⟩ := hm.heads; refine Jo <| Jm (vs := [.agg #[.int .i64 Pf, .int .i64 Mf, .slice Af mf.length kf], .agg #[.int .i64 Cm, .slice Am m.length km], .agg #[.int .u8 at0, .int .u8 at1, .int .u8 at2]]) [6] XF5 rfl rfl rfl rfl ?_; have hS := Js w; unfold Jcf at hv; refine Jh 2 <| JG (z := 3) (cs := [.int .i64 Pf, .int .i64 Mf, .slice Af mf.length kf]) hS rfl rfl rfl rfl ?_; intro g11 w12 hS; refine JG (z := 2) (cs := [.int .i64 Cm, .slice Am m.length km]) hS rfl rfl rfl rfl ?_; intro g13 w14 hS; refine JG (z := 3) (cs := [.int .u8 at0, .int .u8 at1, .int .u8 at2]) hS rfl rfl rfl rfl ?_; intro g15 w16 hS; refine Jd 2 <| Jh 3 <| SL.call hS (Jdz  hv) XF15 rfl XN15 rfl rfl ?_; rintro _ _ w17 ⟨r18, rfl, rfl, hv⟩ hGw17 hS; have hS := hS.n0; refine Zv rfl rfl <| Je rfl rfl ?_; rcases g19 : (!r18) with _ | _
 .have hv := hv.2 g19; refine WL.take rfl <| Jn (cs := [.int .i64 Cm, .slice Am m.length km]) JC J6 rfl rfl (Jb (hS.own (i := 1) rfl)) rfl <| WL.take rfl <| SL.call hS (Jrf (RlH.rl (RlH.ext hHm hS.ext)) hv) XF16 rfl XN16 rfl rfl ?_; rintro _ _ w22 ⟨r23, rfl, rfl, hv⟩ hGw22 hS; have hS := hS.n0; refine Jd 4 <| Jl rfl (fun c24 => ?_) (fun c24 => ?_)
  .have hv := hv.1 (c24); refine Jh 2 <| SL.call hS (Jdz  hv) XF15 rfl XN15 rfl rfl ?_; rintro _ _ w25 ⟨r26, rfl, rfl, hv⟩ hGw25 hS; have hS := hS.n0; refine Jd 2 <| W.ret <| ⟨_, rfl, Fin.nil ?_⟩
   exact ⟨_, hS.ext, (hS.pick [] rfl).rows, Jj (hS.pick [] rfl).rows rfl, ⟨r26, rfl, rfl, hv⟩⟩
  have hv := hv.2 (c24); refine Jp <| Jh 2 <| Jn (cs := [.int .i64 Pf, .int .i64 Mf, .slice Af mf.length kf]) Qa Qg rfl rfl (Jb (hS.own (i := 2) rfl)) rfl <| Jn (cs := [.int .i64 Cm, .slice Am m.length km]) JC J6 rfl rfl (Jb (hS.own (i := 1) rfl)) rfl <| SL.call hS (QN (hS.ro hf) (RlH.rl (RlH.ext hHm hS.ext)) hv) Jkk rfl Jni rfl rfl ?_; rintro _ _ w27 ⟨c28, x29, x30, r31, A32, k33, hs34, A36, k37, rfl, rfl, hv⟩ hGw27 hS; have hS := hS.n2; refine Jd 4 <| SL.alloc (cs := [.int .i64 0, .slice none 0 0]) hS JC rfl rfl ?_; intro g39 w40 hS; refine JA (cs := [.int .i64 c28, .slice A32 x29.length k33]) 0 hS rfl JC rfl rfl rfl rfl rfl ?_; intro w41 hS; refine Jd 3 <| Jh 3 <| Jn (cs := [.int .i64 Pf, .int .i64 Mf, .slice Af mf.length kf]) Qa Qg rfl rfl (Jb (hS.own (i := 5) rfl)) rfl <| Jn (cs := [.int .i64 Cm, .slice Am m.length km]) JC J6 rfl rfl (Jb (hS.own (i := 4) rfl)) rfl <| SL.call hS (Jjd (hS.ro hf) (RlH.rl (RlH.ext hHm hS.ext)) hv) XF23 rfl XN23 rfl rfl ?_; rintro _ _ w42 ⟨r43, rfl, rfl, hv⟩ hGw42 hS; have hS := hS.n0; refine Ye rfl rfl rfl <| Je rfl rfl ?_; by_cases g44 : r43 ≠ (0 : Int)
  .have hv := hv.1 g44; rw [decide_eq_true g44]; refine Jd 6 <| Qd rfl <| Jh 4 <| W.ret <| ⟨_, rfl, Fin.nil ?_⟩
   exact ⟨_, hS.ext, (hS.pick [] rfl).rows, Jj (hS.pick [] rfl).rows rfl, ⟨true, rfl, rfl, hv⟩⟩
  have hv := hv.2 g44; rw [decide_eq_false g44]; refine WL.take rfl <| Jg (off := 1) JO rfl rfl <| WL.take rfl <| Jc Jt rfl rfl (Jb (hS.own (i := 4) rfl) 1 _ rfl) rfl <| WL.take rfl <| WL.len Jt rfl rfl <| Jd 4 <| Jl rfl (fun c45 => ?_) (fun c45 => ?_)
  .have hv := hv.1 (of_decide_eq_true c45); refine Jh 4 <| W.ret <| ⟨_, rfl, Fin.nil ?_⟩
   exact ⟨_, hS.ext, (hS.pick [] rfl).rows, Jj (hS.pick [] rfl).rows rfl, ⟨true, rfl, rfl, hv⟩⟩
  have hv := hv.2 (of_decide_eq_false c45); refine Jp <| Jh 6 <| Jl rfl (fun c46 => ?_) (fun c46 => ?_)
  .have hv := hv.1 (of_decide_eq_true c46); refine Jh 4 <| W.ret <| ⟨_, rfl, Fin.nil ?_⟩
   exact ⟨_, hS.ext, (hS.pick [] rfl).rows, Jj (hS.pick [] rfl).rows rfl, ⟨false, rfl, rfl, hv⟩⟩
  have hv := hv.2 (of_decide_eq_false c46); refine Jp <| Jh 3 <| Jg (off := 0) JZ rfl rfl <| Jc XU3 rfl rfl (Jb (hS.own (i := 4) rfl) 0 _ rfl) rfl <| Jd 2 <| Jl rfl (fun c47 => ?_) (fun c47 => ?_)
  .have hv := hv.1 (of_decide_eq_true c47); refine Jh 4 <| W.ret <| ⟨_, rfl, Fin.nil ?_⟩
   exact ⟨_, hS.ext, (hS.pick [] rfl).rows, Jj (hS.pick [] rfl).rows rfl, ⟨true, rfl, rfl, hv⟩⟩
  have hv := hv.2 (of_decide_eq_false c47); refine Jp <| Jh 2 <| Jg (off := 1) JO rfl rfl <| Jc Jt rfl rfl (Jb (hS.own (i := 4) rfl) 1 _ rfl) rfl <| WL.len Jt rfl rfl <| Jd 2 <| Jh 2 <| Jce 0 Try.arr41 rfl rfl rfl (by decide) rfl rfl <| Jc XU5 rfl rfl (Jb (hS.own (i := 3) rfl) 0 _ rfl) rfl ?_; obtain ⟨o48, hv⟩ := hv; refine Jbm (r := at0) XU5 XU3 rfl (wr o48) rfl <| Je rfl rfl ?_
  obtain ⟨o49, hv⟩ := hv; refine QH (r := (at0.tmod (m.length : Int))) rfl rfl o49 rfl rfl <| Jd 2 <| Jh 3 ?_; obtain ⟨o50, hv⟩ := hv; refine WL.add (r := ((at0.tmod (m.length : Int)) + (1 : Int))) rfl rfl (wr o50) rfl <| Jce 1 Try.arr41 rfl rfl rfl (by decide) rfl rfl <| Jc XU5 rfl rfl (Jb (hS.own (i := 3) rfl) 1 _ rfl) rfl ?_; obtain ⟨o51, hv⟩ := hv; refine Jbm (r := at1) XU5 XU3 rfl (wr o51) rfl <| Je rfl rfl ?_
  obtain ⟨o52, hv⟩ := hv; refine WL.sub (r := ((m.length : Int) - (1 : Int))) rfl rfl (wr o52) rfl ?_; obtain ⟨o53, hv⟩ := hv; refine QH (r := (at1.tmod ((m.length : Int) - (1 : Int)))) rfl rfl o53 rfl rfl ?_; obtain ⟨o54, hv⟩ := hv; refine WL.add (r := (((at0.tmod (m.length : Int)) + (1 : Int)) + (at1.tmod ((m.length : Int) - (1 : Int))))) rfl rfl (wr o54) rfl <| Je rfl rfl ?_; obtain ⟨o55, hv⟩ := hv; refine QH (r := ((((at0.tmod (m.length : Int)) + (1 : Int)) + (at1.tmod ((m.length : Int) - (1 : Int)))).tmod (m.length : Int))) rfl rfl o55 rfl rfl <| Jd 2 <| Jy ?_; obtain ⟨o59, hv⟩ := hv; obtain ⟨r62, o64, hv⟩ := hv; obtain ⟨o66, hv⟩ := hv; obtain ⟨o68, hv⟩ := hv; obtain ⟨o70, hv⟩ := hv; refine JR 9 [⟨[], [5], true⟩, ⟨[0], [], false⟩, ⟨[1], [], true⟩, ⟨[], [3], false⟩, ⟨[3], [], false⟩, ⟨[4], [], true⟩, ⟨[2, 5], [], true⟩, ⟨[6], [], true⟩, ⟨[7], [], true⟩] [[(5, .pointer (some ⟨g15, 0, none⟩))], [], [], [(3, .pointer (some ⟨g11, 0, none⟩))], [], [], [], [], []] [(73, .pointer (some ((⟨g15, 0, none⟩ : Addr).add 2))), (74, .int .u8 at2), (75, .int .i64 at2), (76, .agg #[.int .i64 Pf, .int .i64 Mf, .slice Af mf.length kf]), (77, .int .i64 r62), (78, .int .i64 (r62 - (1 : Int))), (79, .int .i64 (at2.tmod (r62 - (1 : Int)))), (80, .int .i64 ((1 : Int) + (at2.tmod (r62 - (1 : Int))))), (13, .int .i64 ((1 : Int) + (at2.tmod (r62 - (1 : Int)))))] Try.mixed (by kernel_rfl) rfl rfl ?_ ?_
  . refine ⟨⟨rfl, ⟨rfl, trivial⟩, fun _ _ _ => Jce 2 Try.arr41 rfl rfl rfl (by decide) rfl rfl <| Ja ⟨rfl, rfl⟩⟩, ⟨rfl, trivial, fun _ hE _ => have hS := hS.grow (hE rfl); Jc XU5 rfl rfl (Jb (hS.own (i := 3) rfl) 2 _ rfl) rfl <| Ja ⟨rfl, Ji _⟩⟩, ⟨rfl, trivial, fun _ _ _ => Jbm (r := at2) XU5 XU3 rfl (wr o59) rfl <| Ja ⟨rfl, rfl⟩⟩, ⟨rfl, ⟨rfl, trivial⟩, fun _ hE _ => have hS := hS.grow (hE rfl); Jn (cs := [.int .i64 Pf, .int .i64 Mf, .slice Af mf.length kf]) Qa Qg rfl rfl (Jb (hS.own (i := 5) rfl)) rfl <| Ja ⟨rfl, Ji _⟩⟩, ⟨rfl, trivial, ?_⟩, ⟨rfl, trivial, fun _ _ _ => WL.sub (r := (r62 - (1 : Int))) rfl rfl (wr o66) rfl <| Ja ⟨rfl, rfl⟩⟩, ⟨rfl, trivial, fun _ _ _ => QH (r := (at2.tmod (r62 - (1 : Int)))) rfl rfl o68 rfl rfl <| Ja ⟨rfl, rfl⟩⟩, ⟨rfl, trivial, fun _ _ _ => WL.add (r := ((1 : Int) + (at2.tmod (r62 - (1 : Int))))) rfl rfl (wr o70) rfl <| Ja ⟨rfl, rfl⟩⟩, ⟨rfl, trivial, fun _ _ _ => JV rfl rfl <| Ja ⟨rfl, rfl⟩⟩, trivial⟩; intro w61 hE RR; have hS := hS.grow (hE rfl); refine WL.call XF26 rfl XN26 rfl rfl (JU (Jb0 (hS.ro hf) o64)) ?_; rintro _ w63 ⟨_, hGw63, hRww63, hNww63, r62q, rfl, rfl, he⟩; subst he; exact Ja ⟨rfl, hGw63⟩
  intro w72 hT; have hS := hS.grow hT; refine Jq (by decide +kernel) <| Jh 2 <| Jg (off := 1) JO rfl rfl <| Jc Jt rfl rfl (Jb (hS.own (i := 4) rfl) 1 _ rfl) rfl <| SL.call hS (Jo0 (RlH.rl (RlH.ext hHm hS.ext)) hv) XF27 rfl XN27 rfl rfl ?_; rintro _ _ w73 ⟨x74, A75, k76, hs77, rfl, rfl, hv⟩ hGw73 hS; have hS := hS.n1; refine Jd 2 <| Jy ?_; obtain ⟨J79, hv, hk215⟩ := hv; refine QK (σ := Unit) (fun _ w1 => J79 /\ St TT w none w1 [mx 22 3 A75 x74.length k76 (up (up hs77 (at0.tmod (m.length : Int)).toNat (hs77 ((((at0.tmod (m.length : Int)) + (1 : Int)) + (at1.tmod ((m.length : Int) - (1 : Int)))).tmod (m.length : Int)).toNat)) ((((at0.tmod (m.length : Int)) + (1 : Int)) + (at1.tmod ((m.length : Int) - (1 : Int)))).tmod (m.length : Int)).toNat (hs77 (at0.tmod (m.length : Int)).toNat)) (sll (sll x74 (at0.tmod (m.length : Int)) (gl x74 ((((at0.tmod (m.length : Int)) + (1 : Int)) + (at1.tmod ((m.length : Int) - (1 : Int)))).tmod (m.length : Int)))) ((((at0.tmod (m.length : Int)) + (1 : Int)) + (at1.tmod ((m.length : Int) - (1 : Int)))).tmod (m.length : Int)) (gl x74 (at0.tmod (m.length : Int)))), .row 27 2 (some ⟨g39, 0, none⟩) 1 1 [.int .i64 c28, .slice A32 x29.length k33], mx 22 3 A32 x29.length k33 hs34 x29, .row 3 1 A36 x30.length k37 (is x30), .row 41 3 (some ⟨g15, 0, none⟩) 1 1 [.int .u8 at0, .int .u8 at1, .int .u8 at2], .row 27 2 (some ⟨g13, 0, none⟩) 1 1 [.int .i64 Cm, .slice Am m.length km], .row 24 3 (some ⟨g11, 0, none⟩) 1 1 [.int .i64 Pf, .int .i64 Mf, .slice Af mf.length kf]]) (fun _ => [(3, .pointer (some ⟨g11, 0, none⟩)), (4, .pointer (some ⟨g13, 0, none⟩)), (6, .bool false), (7, .pointer (some ⟨g39, 0, none⟩)), (11, .int .i64 (at0.tmod (m.length : Int))), (12, .int .i64 ((((at0.tmod (m.length : Int)) + (1 : Int)) + (at1.tmod ((m.length : Int) - (1 : Int)))).tmod (m.length : Int))), (13, .int .i64 ((1 : Int) + (at2.tmod (r62 - (1 : Int))))), (14, .slice A75 x74.length k76)]) ?_ ?_
  .obtain ⟨o87, hv⟩ := hv; obtain ⟨o92, hv⟩ := hv; obtain ⟨o95, hv⟩ := hv; have hS0 := hS; refine Y6 13 [2, 3] (fun _ => false) (fun _ => none) (fun _ v => v) [⟨[], [14], true⟩, ⟨[], [11], true⟩, ⟨[], [14], true⟩, ⟨[], [12], true⟩, ⟨[], [14], true⟩, ⟨[], [12], true⟩, ⟨[4, 5], [], true⟩, ⟨[6], [], false⟩, ⟨[], [14], true⟩, ⟨[], [11], true⟩, ⟨[8, 9], [], true⟩, ⟨[10], [], false⟩, ⟨[0, 1], [], true⟩] [[(14, .slice A75 x74.length k76)], [(11, .int .i64 (at0.tmod (m.length : Int)))], [(14, .slice A75 x74.length k76)], [(12, .int .i64 ((((at0.tmod (m.length : Int)) + (1 : Int)) + (at1.tmod ((m.length : Int) - (1 : Int)))).tmod (m.length : Int)))], [(14, .slice A75 x74.length k76)], [(12, .int .i64 ((((at0.tmod (m.length : Int)) + (1 : Int)) + (at1.tmod ((m.length : Int) - (1 : Int)))).tmod (m.length : Int)))], [], [], [(14, .slice A75 x74.length k76)], [(11, .int .i64 (at0.tmod (m.length : Int)))], [], [], []] (fun iQ => [fun v _ => v = .slice A75 x74.length k76, fun v _ => v = .int .i64 (at0.tmod (m.length : Int)), fun v _ => v = .slice A75 x74.length k76, fun v _ => v = .int .i64 ((((at0.tmod (m.length : Int)) + (1 : Int)) + (at1.tmod ((m.length : Int) - (1 : Int)))).tmod (m.length : Int)), fun v _ => v = .slice A75 x74.length k76, fun v _ => v = .int .i64 ((((at0.tmod (m.length : Int)) + (1 : Int)) + (at1.tmod ((m.length : Int) - (1 : Int)))).tmod (m.length : Int)), fun v _ => v = .pointer (some ((JM A75).add (((((at0.tmod (m.length : Int)) + (1 : Int)) + (at1.tmod ((m.length : Int) - (1 : Int)))).tmod (m.length : Int)).toNat))), fun v _ => v = .slice ((hs77 ((((at0.tmod (m.length : Int)) + (1 : Int)) + (at1.tmod ((m.length : Int) - (1 : Int)))).tmod (m.length : Int)).toNat).1) ((gl x74 ((((at0.tmod (m.length : Int)) + (1 : Int)) + (at1.tmod ((m.length : Int) - (1 : Int)))).tmod (m.length : Int))).length) ((hs77 ((((at0.tmod (m.length : Int)) + (1 : Int)) + (at1.tmod ((m.length : Int) - (1 : Int)))).tmod (m.length : Int)).toNat).2), fun v _ => v = .slice A75 x74.length k76, fun v _ => v = .int .i64 (at0.tmod (m.length : Int)), fun v _ => v = .pointer (some ((JM A75).add ((at0.tmod (m.length : Int)).toNat))), fun v _ => v = .slice ((hs77 (at0.tmod (m.length : Int)).toNat).1) ((gl x74 (at0.tmod (m.length : Int))).length) ((hs77 (at0.tmod (m.length : Int)).toNat).2), fun v _ => v = .pointer (some ((JM A75).add ((at0.tmod (m.length : Int)).toNat)))].getD iQ (fun _ _ => True)) (fun _ => vbD) Try.mixed (by kernel_rfl) ?_ (fun _ _ _ _ _ _ _ h => h) (by kernel_rfl) ?_ ?_
   . refine J9 _ ?_; intro VQ hVQ vQ wQ1 wQ2 hQ1 hQ2; simp only [List.mem_cons, List.not_mem_nil, or_false] at hVQ; rcases hVQ with rfl | rfl | rfl | rfl | rfl | rfl | rfl | rfl | rfl | rfl | rfl | rfl | rfl
     any_goals exact hQ1
   . refine ⟨⟨rfl, ⟨rfl, trivial⟩, ?_⟩, ⟨rfl, ⟨rfl, trivial⟩, ?_⟩, ⟨rfl, ⟨rfl, trivial⟩, ?_⟩, ⟨rfl, ⟨rfl, trivial⟩, ?_⟩, ⟨rfl, ⟨rfl, trivial⟩, ?_⟩, ⟨rfl, ⟨rfl, trivial⟩, ?_⟩, ⟨rfl, trivial, ?_⟩, ⟨rfl, trivial, ?_⟩, ⟨rfl, ⟨rfl, trivial⟩, ?_⟩, ⟨rfl, ⟨rfl, trivial⟩, ?_⟩, ⟨rfl, trivial, ?_⟩, ⟨rfl, trivial, ?_⟩, ⟨rfl, trivial, ?_⟩, trivial⟩
     .intro w80 hE; intro RR; refine Je rfl rfl ?_; exact Ja ⟨_, rfl, dnq rfl rfl rfl rfl⟩
     .intro w81 hE; intro RR; refine Je rfl rfl ?_; exact Ja ⟨_, rfl, dnq rfl rfl rfl rfl⟩
     .intro w82 hE; intro RR; refine Je rfl rfl ?_; exact Ja ⟨_, rfl, dnq rfl rfl rfl rfl⟩
     .intro w83 hE; intro RR; refine Je rfl rfl ?_; exact Ja ⟨_, rfl, dnq rfl rfl rfl rfl⟩
     .intro w84 hE; intro RR; refine Je rfl rfl ?_; exact Ja ⟨_, rfl, dnq rfl rfl rfl rfl⟩
     .intro w85 hE; intro RR; refine Je rfl rfl ?_; exact Ja ⟨_, rfl, dnq rfl rfl rfl rfl⟩
     .intro w86 hE; rintro _ rfl; rintro _ rfl; intro RR; refine JD 0 Jt Ju hS rfl rfl rfl o87 rfl ?_; exact Ja ⟨_, rfl, dnq rfl rfl rfl rfl⟩
     .intro w88 hE; have hE := hE rfl; have hS := hS.grow hE; rintro _ rfl; intro RR; refine Jc Jr rfl rfl (hS.mxcell (i := 0) rfl o87) rfl ?_; exact Ja ⟨_, rfl, dnq (Ji _) rfl rfl rfl⟩
     .intro w89 hE; intro RR; refine Je rfl rfl ?_; exact Ja ⟨_, rfl, dnq rfl rfl rfl rfl⟩
     .intro w90 hE; intro RR; refine Je rfl rfl ?_; exact Ja ⟨_, rfl, dnq rfl rfl rfl rfl⟩
     .intro w91 hE; rintro _ rfl; rintro _ rfl; intro RR; refine JD 0 Jt Ju hS rfl rfl rfl o92 rfl ?_; exact Ja ⟨_, rfl, dnq rfl rfl rfl rfl⟩
     .intro w93 hE; have hE := hE rfl; have hS := hS.grow hE; rintro _ rfl; intro RR; refine Jc Jr rfl rfl (hS.mxcell (i := 0) rfl o92) rfl ?_; exact Ja ⟨_, rfl, dnq (Ji _) rfl rfl rfl⟩
     intro w94 hE; rintro _ rfl; rintro _ rfl; intro RR; refine JD 0 Jt Ju hS rfl rfl rfl o95 rfl ?_; exact Ja ⟨_, rfl, dnq rfl rfl rfl rfl⟩
   intro X hX; have hX : X ∈ ([[], [3], [2], [2, 3]] : List (List Nat)) := hX; simp only [List.mem_cons, List.not_mem_nil, or_false] at hX; rcases hX with rfl | rfl | rfl | rfl
   .intro vals w96 hT hVs hAp hCp q_ hq_; have hS := hS.grow hT; obtain rfl : q_ = 3 := hq_.trans (by decide +kernel); have hv0 : vals 0 = _ := hVs 0 (by decide) (by decide); have hv1 : vals 1 = _ := hVs 1 (by decide) (by decide); have hv2 : vals 2 = _ := hVs 2 (by decide) (by decide); have hv3 : vals 3 = _ := hVs 3 (by decide) (by decide); have hv4 : vals 4 = _ := hVs 4 (by decide) (by decide); have hv5 : vals 5 = _ := hVs 5 (by decide) (by decide); have hv6 : vals 6 = _ := hVs 6 (by decide) (by decide); have hv7 : vals 7 = _ := hVs 7 (by decide) (by decide); have hv8 : vals 8 = _ := hVs 8 (by decide) (by decide); have hv9 : vals 9 = _ := hVs 9 (by decide) (by decide); have hv10 : vals 10 = _ := hVs 10 (by decide) (by decide); have hv11 : vals 11 = _ := hVs 11 (by decide) (by decide); have hv12 : vals 12 = _ := hVs 12 (by decide) (by decide); show WA _ _ _ _ _ _ _ _ ([(84, vals 0), (85, vals 1), (86, vals 2), (87, vals 3), (88, vals 4), (89, vals 5), (90, vals 6), (91, vals 7), (92, vals 8), (93, vals 9), (94, vals 10), (95, vals 11), (96, vals 12)] ++ _) _; rw [hv0, hv1, hv2, hv3, hv4, hv5, hv6, hv7, hv8, hv9, hv10, hv11, hv12]; refine Jf 13 (by decide +kernel) rfl <| JP 0 hS rfl Ju o95 o87 rfl rfl ?_; intro w97 hS; refine Ja <| Jf 14 (by decide +kernel) rfl ?_; obtain ⟨o98, hv⟩ := hv; refine Jk Jt Ju (hS.mxdout (q := 0) rfl) rfl rfl o98 rfl <| Ja <| Jf 15 (by decide +kernel) rfl <| JK 0 hS rfl Ju o95 o87 rfl rfl ?_; intro w99 hS; refine Ja <| Jq (by decide +kernel) ?_; exact ⟨(), ⟨rfl, rfl, rfl, rfl, rfl, rfl, rfl, rfl, trivial⟩, rfl, hv, hS⟩
   .intro vals w96 hT hVs hAp hCp q_ hq_; have hS := hS.grow hT; obtain rfl : q_ = 4 := hq_.trans (by decide +kernel); have hv0 : vals 0 = _ := hVs 0 (by decide) (by decide); have hv1 : vals 1 = _ := hVs 1 (by decide) (by decide); have hv2 : vals 2 = _ := hVs 2 (by decide) (by decide); have hv4 : vals 4 = _ := hVs 4 (by decide) (by decide); have hv5 : vals 5 = _ := hVs 5 (by decide) (by decide); have hv6 : vals 6 = _ := hVs 6 (by decide) (by decide); have hv7 : vals 7 = _ := hVs 7 (by decide) (by decide); have hv8 : vals 8 = _ := hVs 8 (by decide) (by decide); have hv9 : vals 9 = _ := hVs 9 (by decide) (by decide); have hv10 : vals 10 = _ := hVs 10 (by decide) (by decide); have hv11 : vals 11 = _ := hVs 11 (by decide) (by decide); have hv12 : vals 12 = _ := hVs 12 (by decide) (by decide); show WA _ _ _ _ _ _ _ _ ([(84, vals 0), (85, vals 1), (86, vals 2), (88, vals 4), (89, vals 5), (90, vals 6), (91, vals 7), (92, vals 8), (93, vals 9), (94, vals 10), (95, vals 11), (96, vals 12)] ++ _) _; rw [hv0, hv1, hv2, hv4, hv5, hv6, hv7, hv8, hv9, hv10, hv11, hv12]; refine WA.step [3, 13] (by decide +kernel) rfl ?_; intro iQ hQ; simp only [List.mem_cons, List.not_mem_nil, or_false] at hQ; rcases hQ with rfl | rfl
    .refine ⟨_, rfl, ?_⟩; refine Jd 2 <| Jf 13 (by decide +kernel) rfl <| JP 0 hS rfl Ju o95 o87 rfl rfl ?_; intro w97 hS; refine Ja <| Jf 14 (by decide +kernel) rfl ?_; obtain ⟨o98, hv⟩ := hv; refine Jk Jt Ju (hS.mxdout (q := 0) rfl) rfl rfl o98 rfl <| Ja <| Jf 15 (by decide +kernel) rfl <| JK 0 hS rfl Ju o95 o87 rfl rfl ?_; intro w99 hS; refine Ja <| Jq (by decide +kernel) ?_; exact ⟨(), ⟨rfl, rfl, rfl, rfl, rfl, rfl, rfl, rfl, trivial⟩, rfl, hv, hS⟩
    refine ⟨_, rfl, ?_⟩; refine JP 0 hS rfl Ju o95 o87 rfl rfl ?_; intro w97 hS; refine Ja <| Jf 3 (by decide +kernel) rfl <| Jd 2 <| Jf 14 (by decide +kernel) rfl ?_; obtain ⟨o98, hv⟩ := hv; refine Jk Jt Ju (hS.mxdout (q := 0) rfl) rfl rfl o98 rfl <| Ja <| Jf 15 (by decide +kernel) rfl <| JK 0 hS rfl Ju o95 o87 rfl rfl ?_; intro w99 hS; refine Ja <| Jq (by decide +kernel) ?_; exact ⟨(), ⟨rfl, rfl, rfl, rfl, rfl, rfl, rfl, rfl, trivial⟩, rfl, hv, hS⟩
   .intro vals w96 hT hVs hAp hCp q_ hq_; have hS := hS.grow hT; obtain rfl : q_ = 4 := hq_.trans (by decide +kernel); have hv0 : vals 0 = _ := hVs 0 (by decide) (by decide); have hv1 : vals 1 = _ := hVs 1 (by decide) (by decide); have hv3 : vals 3 = _ := hVs 3 (by decide) (by decide); have hv4 : vals 4 = _ := hVs 4 (by decide) (by decide); have hv5 : vals 5 = _ := hVs 5 (by decide) (by decide); have hv6 : vals 6 = _ := hVs 6 (by decide) (by decide); have hv7 : vals 7 = _ := hVs 7 (by decide) (by decide); have hv8 : vals 8 = _ := hVs 8 (by decide) (by decide); have hv9 : vals 9 = _ := hVs 9 (by decide) (by decide); have hv10 : vals 10 = _ := hVs 10 (by decide) (by decide); have hv11 : vals 11 = _ := hVs 11 (by decide) (by decide); have hv12 : vals 12 = _ := hVs 12 (by decide) (by decide); show WA _ _ _ _ _ _ _ _ ([(84, vals 0), (85, vals 1), (87, vals 3), (88, vals 4), (89, vals 5), (90, vals 6), (91, vals 7), (92, vals 8), (93, vals 9), (94, vals 10), (95, vals 11), (96, vals 12)] ++ _) _; rw [hv0, hv1, hv3, hv4, hv5, hv6, hv7, hv8, hv9, hv10, hv11, hv12]; refine WA.step [2, 13] (by decide +kernel) rfl ?_; intro iQ hQ; simp only [List.mem_cons, List.not_mem_nil, or_false] at hQ; rcases hQ with rfl | rfl
    .refine ⟨_, rfl, ?_⟩; refine Jd 2 <| Jf 13 (by decide +kernel) rfl <| JP 0 hS rfl Ju o95 o87 rfl rfl ?_; intro w97 hS; refine Ja <| Jf 14 (by decide +kernel) rfl ?_; obtain ⟨o98, hv⟩ := hv; refine Jk Jt Ju (hS.mxdout (q := 0) rfl) rfl rfl o98 rfl <| Ja <| Jf 15 (by decide +kernel) rfl <| JK 0 hS rfl Ju o95 o87 rfl rfl ?_; intro w99 hS; refine Ja <| Jq (by decide +kernel) ?_; exact ⟨(), ⟨rfl, rfl, rfl, rfl, rfl, rfl, rfl, rfl, trivial⟩, rfl, hv, hS⟩
    refine ⟨_, rfl, ?_⟩; refine JP 0 hS rfl Ju o95 o87 rfl rfl ?_; intro w97 hS; refine Ja <| Jf 2 (by decide +kernel) rfl <| Jd 2 <| Jf 14 (by decide +kernel) rfl ?_; obtain ⟨o98, hv⟩ := hv; refine Jk Jt Ju (hS.mxdout (q := 0) rfl) rfl rfl o98 rfl <| Ja <| Jf 15 (by decide +kernel) rfl <| JK 0 hS rfl Ju o95 o87 rfl rfl ?_; intro w99 hS; refine Ja <| Jq (by decide +kernel) ?_; exact ⟨(), ⟨rfl, rfl, rfl, rfl, rfl, rfl, rfl, rfl, trivial⟩, rfl, hv, hS⟩
   intro vals w96 hT hVs hAp hCp q_ hq_; have hS := hS.grow hT; obtain rfl : q_ = 5 := hq_.trans (by decide +kernel); have hv0 : vals 0 = _ := hVs 0 (by decide) (by decide); have hv1 : vals 1 = _ := hVs 1 (by decide) (by decide); have hv4 : vals 4 = _ := hVs 4 (by decide) (by decide); have hv5 : vals 5 = _ := hVs 5 (by decide) (by decide); have hv6 : vals 6 = _ := hVs 6 (by decide) (by decide); have hv7 : vals 7 = _ := hVs 7 (by decide) (by decide); have hv8 : vals 8 = _ := hVs 8 (by decide) (by decide); have hv9 : vals 9 = _ := hVs 9 (by decide) (by decide); have hv10 : vals 10 = _ := hVs 10 (by decide) (by decide); have hv11 : vals 11 = _ := hVs 11 (by decide) (by decide); have hv12 : vals 12 = _ := hVs 12 (by decide) (by decide); show WA _ _ _ _ _ _ _ _ ([(84, vals 0), (85, vals 1), (88, vals 4), (89, vals 5), (90, vals 6), (91, vals 7), (92, vals 8), (93, vals 9), (94, vals 10), (95, vals 11), (96, vals 12)] ++ _) _; rw [hv0, hv1, hv4, hv5, hv6, hv7, hv8, hv9, hv10, hv11, hv12]; refine WA.step [2, 3, 13] (by decide +kernel) rfl ?_; intro iQ hQ; simp only [List.mem_cons, List.not_mem_nil, or_false] at hQ; rcases hQ with rfl | rfl | rfl
   .refine ⟨_, rfl, ?_⟩; refine Jd 2 <| WA.step [3, 13] (by decide +kernel) rfl ?_; intro iQ hQ; simp only [List.mem_cons, List.not_mem_nil, or_false] at hQ; rcases hQ with rfl | rfl
    .refine ⟨_, rfl, ?_⟩; refine Jd 2 <| Jf 13 (by decide +kernel) rfl <| JP 0 hS rfl Ju o95 o87 rfl rfl ?_; intro w97 hS; refine Ja <| Jf 14 (by decide +kernel) rfl ?_; obtain ⟨o98, hv⟩ := hv; refine Jk Jt Ju (hS.mxdout (q := 0) rfl) rfl rfl o98 rfl <| Ja <| Jf 15 (by decide +kernel) rfl <| JK 0 hS rfl Ju o95 o87 rfl rfl ?_; intro w99 hS; refine Ja <| Jq (by decide +kernel) ?_; exact ⟨(), ⟨rfl, rfl, rfl, rfl, rfl, rfl, rfl, rfl, trivial⟩, rfl, hv, hS⟩
    refine ⟨_, rfl, ?_⟩; refine JP 0 hS rfl Ju o95 o87 rfl rfl ?_; intro w97 hS; refine Ja <| Jf 3 (by decide +kernel) rfl <| Jd 2 <| Jf 14 (by decide +kernel) rfl ?_; obtain ⟨o98, hv⟩ := hv; refine Jk Jt Ju (hS.mxdout (q := 0) rfl) rfl rfl o98 rfl <| Ja <| Jf 15 (by decide +kernel) rfl <| JK 0 hS rfl Ju o95 o87 rfl rfl ?_; intro w99 hS; refine Ja <| Jq (by decide +kernel) ?_; exact ⟨(), ⟨rfl, rfl, rfl, rfl, rfl, rfl, rfl, rfl, trivial⟩, rfl, hv, hS⟩
   .refine ⟨_, rfl, ?_⟩; refine Jd 2 <| WA.step [2, 13] (by decide +kernel) rfl ?_; intro iQ hQ; simp only [List.mem_cons, List.not_mem_nil, or_false] at hQ; rcases hQ with rfl | rfl
    .refine ⟨_, rfl, ?_⟩; refine Jd 2 <| Jf 13 (by decide +kernel) rfl <| JP 0 hS rfl Ju o95 o87 rfl rfl ?_; intro w97 hS; refine Ja <| Jf 14 (by decide +kernel) rfl ?_; obtain ⟨o98, hv⟩ := hv; refine Jk Jt Ju (hS.mxdout (q := 0) rfl) rfl rfl o98 rfl <| Ja <| Jf 15 (by decide +kernel) rfl <| JK 0 hS rfl Ju o95 o87 rfl rfl ?_; intro w99 hS; refine Ja <| Jq (by decide +kernel) ?_; exact ⟨(), ⟨rfl, rfl, rfl, rfl, rfl, rfl, rfl, rfl, trivial⟩, rfl, hv, hS⟩
    refine ⟨_, rfl, ?_⟩; refine JP 0 hS rfl Ju o95 o87 rfl rfl ?_; intro w97 hS; refine Ja <| Jf 2 (by decide +kernel) rfl <| Jd 2 <| Jf 14 (by decide +kernel) rfl ?_; obtain ⟨o98, hv⟩ := hv; refine Jk Jt Ju (hS.mxdout (q := 0) rfl) rfl rfl o98 rfl <| Ja <| Jf 15 (by decide +kernel) rfl <| JK 0 hS rfl Ju o95 o87 rfl rfl ?_; intro w99 hS; refine Ja <| Jq (by decide +kernel) ?_; exact ⟨(), ⟨rfl, rfl, rfl, rfl, rfl, rfl, rfl, rfl, trivial⟩, rfl, hv, hS⟩
   refine ⟨_, rfl, ?_⟩; refine JP 0 hS rfl Ju o95 o87 rfl rfl ?_; intro w97 hS; refine Ja <| WA.step [2, 3] (by decide +kernel) rfl ?_; intro iQ hQ; simp only [List.mem_cons, List.not_mem_nil, or_false] at hQ; rcases hQ with rfl | rfl
   .refine ⟨_, rfl, ?_⟩; refine Jd 2 <| Jf 3 (by decide +kernel) rfl <| Jd 2 <| Jf 14 (by decide +kernel) rfl ?_; obtain ⟨o98, hv⟩ := hv; refine Jk Jt Ju (hS.mxdout (q := 0) rfl) rfl rfl o98 rfl <| Ja <| Jf 15 (by decide +kernel) rfl <| JK 0 hS rfl Ju o95 o87 rfl rfl ?_; intro w99 hS; refine Ja <| Jq (by decide +kernel) ?_; exact ⟨(), ⟨rfl, rfl, rfl, rfl, rfl, rfl, rfl, rfl, trivial⟩, rfl, hv, hS⟩
   refine ⟨_, rfl, ?_⟩; refine Jd 2 <| Jf 2 (by decide +kernel) rfl <| Jd 2 <| Jf 14 (by decide +kernel) rfl ?_; obtain ⟨o98, hv⟩ := hv; refine Jk Jt Ju (hS.mxdout (q := 0) rfl) rfl rfl o98 rfl <| Ja <| Jf 15 (by decide +kernel) rfl <| JK 0 hS rfl Ju o95 o87 rfl rfl ?_; intro w99 hS; refine Ja <| Jq (by decide +kernel) ?_; exact ⟨(), ⟨rfl, rfl, rfl, rfl, rfl, rfl, rfl, rfl, trivial⟩, rfl, hv, hS⟩
  rintro _ w100 ⟨hv, hS⟩; have hv := hk215  hv; refine Jh 2 <| Jn (cs := [.int .i64 Pf, .int .i64 Mf, .slice Af mf.length kf]) Qa Qg rfl rfl (Jb (hS.own (i := 6) rfl)) rfl <| Jg (off := 0) JZ rfl rfl <| Jc XU3 rfl rfl (Jb (hS.own (i := 5) rfl) 0 _ rfl) rfl <| Je rfl rfl <| J0 (cells := #[.int .i64 Cm, .slice A75 x74.length k76]) Zt rfl rfl rfl <| SL.call hS (QN (hS.ro hf) (hS.rl (i := 0) rfl) hv) Jkk rfl Jni rfl rfl ?_; rintro _ _ w101 ⟨c102, x103, x104, r105, A106, k107, hs108, A110, k111, rfl, rfl, hv⟩ hGw101 hS; have hS := hS.n2; refine Jd 4 <| SL.alloc (cs := [.int .i64 0, .slice none 0 0]) hS JC rfl rfl ?_; intro g113 w114 hS; refine JA (cs := [.int .i64 c102, .slice A106 x103.length k107]) 0 hS rfl JC rfl rfl rfl rfl rfl ?_; intro w115 hS; refine Jd 3 <| Jy ?_; obtain ⟨o122, hv⟩ := hv; obtain ⟨o128, hv⟩ := hv; obtain ⟨x131, o138, hv⟩ := hv; have hS0 := hS; refine QF 13 (fun iA => [false, false, false, false, false, false, false, false, false, false, false, false, true].getD iA false) (fun _ => none) (fun _ v => v) [⟨[], [14], true⟩, ⟨[], [11], true⟩, ⟨[], [3], false⟩, ⟨[], [14], true⟩, ⟨[], [11], true⟩, ⟨[3, 4], [], true⟩, ⟨[5], [], false⟩, ⟨[], [13], true⟩, ⟨[], [14], true⟩, ⟨[], [12], true⟩, ⟨[8, 9], [], true⟩, ⟨[10], [], false⟩, ⟨[2, 6, 7, 11], [], false⟩] [[(14, .slice A75 x74.length k76)], [(11, .int .i64 (at0.tmod (m.length : Int)))], [(3, .pointer (some ⟨g11, 0, none⟩))], [(14, .slice A75 x74.length k76)], [(11, .int .i64 (at0.tmod (m.length : Int)))], [], [], [(13, .int .i64 ((1 : Int) + (at2.tmod (r62 - (1 : Int)))))], [(14, .slice A75 x74.length k76)], [(12, .int .i64 ((((at0.tmod (m.length : Int)) + (1 : Int)) + (at1.tmod ((m.length : Int) - (1 : Int)))).tmod (m.length : Int)))], [], [], []] (fun iQ => [fun v _ => v = .slice A75 x74.length k76, fun v _ => v = .int .i64 (at0.tmod (m.length : Int)), fun v _ => v = .agg #[.int .i64 Pf, .int .i64 Mf, .slice Af mf.length kf], fun v _ => v = .slice A75 x74.length k76, fun v _ => v = .int .i64 (at0.tmod (m.length : Int)), fun v _ => v = .pointer (some ((JM A75).add ((at0.tmod (m.length : Int)).toNat))), fun v _ => v = .slice (((up (up hs77 (at0.tmod (m.length : Int)).toNat (hs77 ((((at0.tmod (m.length : Int)) + (1 : Int)) + (at1.tmod ((m.length : Int) - (1 : Int)))).tmod (m.length : Int)).toNat)) ((((at0.tmod (m.length : Int)) + (1 : Int)) + (at1.tmod ((m.length : Int) - (1 : Int)))).tmod (m.length : Int)).toNat (hs77 (at0.tmod (m.length : Int)).toNat)) (at0.tmod (m.length : Int)).toNat).1) ((gl (sll (sll x74 (at0.tmod (m.length : Int)) (gl x74 ((((at0.tmod (m.length : Int)) + (1 : Int)) + (at1.tmod ((m.length : Int) - (1 : Int)))).tmod (m.length : Int)))) ((((at0.tmod (m.length : Int)) + (1 : Int)) + (at1.tmod ((m.length : Int) - (1 : Int)))).tmod (m.length : Int)) (gl x74 (at0.tmod (m.length : Int)))) (at0.tmod (m.length : Int))).length) (((up (up hs77 (at0.tmod (m.length : Int)).toNat (hs77 ((((at0.tmod (m.length : Int)) + (1 : Int)) + (at1.tmod ((m.length : Int) - (1 : Int)))).tmod (m.length : Int)).toNat)) ((((at0.tmod (m.length : Int)) + (1 : Int)) + (at1.tmod ((m.length : Int) - (1 : Int)))).tmod (m.length : Int)).toNat (hs77 (at0.tmod (m.length : Int)).toNat)) (at0.tmod (m.length : Int)).toNat).2), fun v _ => v = .int .i64 ((1 : Int) + (at2.tmod (r62 - (1 : Int)))), fun v _ => v = .slice A75 x74.length k76, fun v _ => v = .int .i64 ((((at0.tmod (m.length : Int)) + (1 : Int)) + (at1.tmod ((m.length : Int) - (1 : Int)))).tmod (m.length : Int)), fun v _ => v = .pointer (some ((JM A75).add (((((at0.tmod (m.length : Int)) + (1 : Int)) + (at1.tmod ((m.length : Int) - (1 : Int)))).tmod (m.length : Int)).toNat))), fun v _ => v = .slice (((up (up hs77 (at0.tmod (m.length : Int)).toNat (hs77 ((((at0.tmod (m.length : Int)) + (1 : Int)) + (at1.tmod ((m.length : Int) - (1 : Int)))).tmod (m.length : Int)).toNat)) ((((at0.tmod (m.length : Int)) + (1 : Int)) + (at1.tmod ((m.length : Int) - (1 : Int)))).tmod (m.length : Int)).toNat (hs77 (at0.tmod (m.length : Int)).toNat)) ((((at0.tmod (m.length : Int)) + (1 : Int)) + (at1.tmod ((m.length : Int) - (1 : Int)))).tmod (m.length : Int)).toNat).1) ((gl (sll (sll x74 (at0.tmod (m.length : Int)) (gl x74 ((((at0.tmod (m.length : Int)) + (1 : Int)) + (at1.tmod ((m.length : Int) - (1 : Int)))).tmod (m.length : Int)))) ((((at0.tmod (m.length : Int)) + (1 : Int)) + (at1.tmod ((m.length : Int) - (1 : Int)))).tmod (m.length : Int)) (gl x74 (at0.tmod (m.length : Int)))) ((((at0.tmod (m.length : Int)) + (1 : Int)) + (at1.tmod ((m.length : Int) - (1 : Int)))).tmod (m.length : Int))).length) (((up (up hs77 (at0.tmod (m.length : Int)).toNat (hs77 ((((at0.tmod (m.length : Int)) + (1 : Int)) + (at1.tmod ((m.length : Int) - (1 : Int)))).tmod (m.length : Int)).toNat)) ((((at0.tmod (m.length : Int)) + (1 : Int)) + (at1.tmod ((m.length : Int) - (1 : Int)))).tmod (m.length : Int)).toNat (hs77 (at0.tmod (m.length : Int)).toNat)) ((((at0.tmod (m.length : Int)) + (1 : Int)) + (at1.tmod ((m.length : Int) - (1 : Int)))).tmod (m.length : Int)).toNat).2), fun v wQ => ∃ A132_12 k133_12, v = .slice A132_12 x131.length k133_12 /\ Own 0 wQ 3 1 A132_12 x131.length k133_12 (is x131) /\ (∀ g, bl A132_12 = some g -> w115.heap.size <= g)].getD iQ (fun _ _ => True)) (fun _ => vbD) Try.mixed (by kernel_rfl) ?_ (fun _ _ _ _ _ _ _ h => h) (by kernel_rfl) ?_ ?_
  . refine J9 _ ?_; intro VQ hVQ vQ wQ1 wQ2 hQ1 hQ2; simp only [List.mem_cons, List.not_mem_nil, or_false] at hVQ; rcases hVQ with rfl | rfl | rfl | rfl | rfl | rfl | rfl | rfl | rfl | rfl | rfl | rfl | rfl
    any_goals exact hQ1
    obtain ⟨A132_12, k133_12, hQe, hO136_12, hN137_12⟩ := hQ1; exact ⟨A132_12, k133_12, hQe, hO136_12.ext hQ2, hN137_12⟩
  . refine ⟨⟨rfl, ⟨rfl, trivial⟩, ?_⟩, ⟨rfl, ⟨rfl, trivial⟩, ?_⟩, ⟨rfl, ⟨rfl, trivial⟩, ?_⟩, ⟨rfl, ⟨rfl, trivial⟩, ?_⟩, ⟨rfl, ⟨rfl, trivial⟩, ?_⟩, ⟨rfl, trivial, ?_⟩, ⟨rfl, trivial, ?_⟩, ⟨rfl, ⟨rfl, trivial⟩, ?_⟩, ⟨rfl, ⟨rfl, trivial⟩, ?_⟩, ⟨rfl, ⟨rfl, trivial⟩, ?_⟩, ⟨rfl, trivial, ?_⟩, ⟨rfl, trivial, ?_⟩, ⟨rfl, trivial, ?_⟩, trivial⟩
    . intro w116 hE; intro RR; refine Je rfl rfl ?_; exact Ja ⟨_, rfl, dnq rfl rfl rfl rfl⟩
    . intro w117 hE; intro RR; refine Je rfl rfl ?_; exact Ja ⟨_, rfl, dnq rfl rfl rfl rfl⟩
    . intro w118 hE; have hE := hE rfl; have hS := hS.grow hE; intro RR; refine Jn (cs := [.int .i64 Pf, .int .i64 Mf, .slice Af mf.length kf]) Qa Qg rfl rfl (Jb (hS.own (i := 9) rfl)) rfl ?_; exact Ja ⟨_, rfl, dnq (Ji _) rfl rfl rfl⟩
    . intro w119 hE; intro RR; refine Je rfl rfl ?_; exact Ja ⟨_, rfl, dnq rfl rfl rfl rfl⟩
    . intro w120 hE; intro RR; refine Je rfl rfl ?_; exact Ja ⟨_, rfl, dnq rfl rfl rfl rfl⟩
    . intro w121 hE; rintro _ rfl; rintro _ rfl; intro RR; refine JD 3 Jt Ju hS rfl rfl rfl o122 rfl ?_; exact Ja ⟨_, rfl, dnq rfl rfl rfl rfl⟩
    . intro w123 hE; have hE := hE rfl; have hS := hS.grow hE; rintro _ rfl; intro RR; refine Jc Jr rfl rfl (hS.mxcell (i := 3) rfl o122) rfl ?_; exact Ja ⟨_, rfl, dnq (Ji _) rfl rfl rfl⟩
    . intro w124 hE; intro RR; refine Je rfl rfl ?_; exact Ja ⟨_, rfl, dnq rfl rfl rfl rfl⟩
    . intro w125 hE; intro RR; refine Je rfl rfl ?_; exact Ja ⟨_, rfl, dnq rfl rfl rfl rfl⟩
    . intro w126 hE; intro RR; refine Je rfl rfl ?_; exact Ja ⟨_, rfl, dnq rfl rfl rfl rfl⟩
    . intro w127 hE; rintro _ rfl; rintro _ rfl; intro RR; refine JD 3 Jt Ju hS rfl rfl rfl o128 rfl ?_; exact Ja ⟨_, rfl, dnq rfl rfl rfl rfl⟩
    . intro w129 hE; have hE := hE rfl; have hS := hS.grow hE; rintro _ rfl; intro RR; refine Jc Jr rfl rfl (hS.mxcell (i := 3) rfl o128) rfl ?_; exact Ja ⟨_, rfl, dnq (Ji _) rfl rfl rfl⟩
    intro w130 hE; have hE := hE rfl; have hS := hS.grow hE; rintro _ rfl; rintro _ rfl; rintro _ rfl; rintro _ rfl; intro RR; refine WL.call XF28 rfl XN28 rfl rfl (JU (Je2 (hS.ro hf) (hS.mxrd (i := 3) rfl o122) (hS.mxrd (i := 3) rfl o128) o138)) ?_; rintro _ w135 ⟨_, hGw135, hRww135, hNww135, x131q, A132, k133, rfl, rfl, he⟩; subst he; have hO136 := (hRww135.get (i := 0) rfl).1; have hN137 : ∀ g, bl A132 = some g -> _ <= g := fun g hg => Nat.le_trans hE.size (hNww135.1 g hg); exact Ja ⟨_, rfl, hGw135, ⟨A132, k133, rfl, hO136, hN137⟩, (fun _ => fun g hg => ⟨hNww135.1 g hg, (hO136.bl_ge g hg).2⟩), (fun j h => by cases h)⟩
  intro vals w139 hT hVs hAp hCp; have hS := hS.grow hT; have hv0 : vals 0 = _ := hVs 0 (by decide); have hv1 : vals 1 = _ := hVs 1 (by decide); have hv2 : vals 2 = _ := hVs 2 (by decide); have hv3 : vals 3 = _ := hVs 3 (by decide); have hv4 : vals 4 = _ := hVs 4 (by decide); have hv5 : vals 5 = _ := hVs 5 (by decide); have hv6 : vals 6 = _ := hVs 6 (by decide); have hv7 : vals 7 = _ := hVs 7 (by decide); have hv8 : vals 8 = _ := hVs 8 (by decide); have hv9 : vals 9 = _ := hVs 9 (by decide); have hv10 : vals 10 = _ := hVs 10 (by decide); have hv11 : vals 11 = _ := hVs 11 (by decide); obtain ⟨A132_12, k133_12, hv12, hO136_12, hN137_12⟩ := hVs 12 (by decide); have hS := Qf [] hS0 hS hO136_12 hN137_12 (fun s hs => by cases hs); show WA _ _ _ _ _ _ _ _ ([(108, vals 0), (109, vals 1), (110, vals 2), (111, vals 3), (112, vals 4), (113, vals 5), (114, vals 6), (115, vals 7), (116, vals 8), (117, vals 9), (118, vals 10), (119, vals 11), (120, vals 12)] ++ _) _; rw [hv0, hv1, hv2, hv3, hv4, hv5, hv6, hv7, hv8, hv9, hv10, hv11, hv12]; refine Jf 13 (by decide +kernel) rfl ?_; obtain ⟨o141, hv⟩ := hv; refine JD 4 Jt Ju hS rfl rfl rfl o141 rfl <| Ja <| Jf 14 (by decide +kernel) rfl ?_; have hS := hS.pick [0, 4, 1, 2, 3, 5, 6, 7, 8, 9, 10] rfl; refine Ym hS Ju o141 (hS.rd (i := 0) rfl).ilen.symm rfl rfl ?_; intro w142 hS; refine Ja <| Jq (by decide +kernel) <| Jh 2 <| Jn (cs := [.int .i64 Pf, .int .i64 Mf, .slice Af mf.length kf]) Qa Qg rfl rfl (Jb (hS.own (i := 9) rfl)) rfl <| Jg (off := 0) JZ rfl rfl <| Jc XU3 rfl rfl (Jb (hS.own (i := 8) rfl) 0 _ rfl) rfl <| Je rfl rfl <| J0 (cells := #[.int .i64 Cm, .slice A75 x74.length k76]) Zt rfl rfl rfl <| SL.call hS (QN (hS.ro hf) (hS.rl (i := 0) rfl) hv) Jkk rfl Jni rfl rfl ?_; rintro _ _ w143 ⟨c144, x145, x146, r147, A148, k149, hs150, A152, k153, rfl, rfl, hv⟩ hGw143 hS; have hS := hS.n2; refine Jd 4 <| SL.alloc (cs := [.int .i64 0, .slice none 0 0]) hS JC rfl rfl ?_; intro g155 w156 hS; refine JA (cs := [.int .i64 c144, .slice A148 x145.length k149]) 0 hS rfl JC rfl rfl rfl rfl rfl ?_; intro w157 hS; refine Jd 3 <| Jy ?_; obtain ⟨o164, hv⟩ := hv; obtain ⟨o174, hv⟩ := hv; obtain ⟨x177, o184, hv⟩ := hv; have hS0 := hS; refine QF 12 (fun iA => [false, false, false, false, false, true, false, false, false, false, false, true].getD iA false) (fun _ => none) (fun _ v => v) [⟨[], [14], true⟩, ⟨[], [12], true⟩, ⟨[], [3], false⟩, ⟨[], [4], true⟩, ⟨[3], [], false⟩, ⟨[4], [], false⟩, ⟨[], [13], true⟩, ⟨[], [14], true⟩, ⟨[], [12], true⟩, ⟨[7, 8], [], true⟩, ⟨[9], [], false⟩, ⟨[2, 5, 6, 10], [], false⟩] [[(14, .slice A75 x74.length k76)], [(12, .int .i64 ((((at0.tmod (m.length : Int)) + (1 : Int)) + (at1.tmod ((m.length : Int) - (1 : Int)))).tmod (m.length : Int)))], [(3, .pointer (some ⟨g11, 0, none⟩))], [(4, .pointer (some ⟨g13, 0, none⟩))], [], [], [(13, .int .i64 ((1 : Int) + (at2.tmod (r62 - (1 : Int)))))], [(14, .slice A75 x74.length k76)], [(12, .int .i64 ((((at0.tmod (m.length : Int)) + (1 : Int)) + (at1.tmod ((m.length : Int) - (1 : Int)))).tmod (m.length : Int)))], [], [], []] (fun iQ => [fun v _ => v = .slice A75 x74.length k76, fun v _ => v = .int .i64 ((((at0.tmod (m.length : Int)) + (1 : Int)) + (at1.tmod ((m.length : Int) - (1 : Int)))).tmod (m.length : Int)), fun v _ => v = .agg #[.int .i64 Pf, .int .i64 Mf, .slice Af mf.length kf], fun v _ => v = .pointer (some ⟨g13, 0, none⟩), fun v _ => v = .int .i64 Cm, fun v wQ => ∃ A165_5 k169_5, v = .slice A165_5 Cm.toNat k169_5 /\ Own 0 wQ 3 1 A165_5 Cm.toNat k169_5 (is (List.replicate Cm.toNat (0 : Int))) /\ (∀ g, bl A165_5 = some g -> w157.heap.size <= g), fun v _ => v = .int .i64 ((1 : Int) + (at2.tmod (r62 - (1 : Int)))), fun v _ => v = .slice A75 x74.length k76, fun v _ => v = .int .i64 ((((at0.tmod (m.length : Int)) + (1 : Int)) + (at1.tmod ((m.length : Int) - (1 : Int)))).tmod (m.length : Int)), fun v _ => v = .pointer (some ((JM A75).add (((((at0.tmod (m.length : Int)) + (1 : Int)) + (at1.tmod ((m.length : Int) - (1 : Int)))).tmod (m.length : Int)).toNat))), fun v _ => v = .slice (((up (up (up hs77 (at0.tmod (m.length : Int)).toNat (hs77 ((((at0.tmod (m.length : Int)) + (1 : Int)) + (at1.tmod ((m.length : Int) - (1 : Int)))).tmod (m.length : Int)).toNat)) ((((at0.tmod (m.length : Int)) + (1 : Int)) + (at1.tmod ((m.length : Int) - (1 : Int)))).tmod (m.length : Int)).toNat (hs77 (at0.tmod (m.length : Int)).toNat)) (at0.tmod (m.length : Int)).toNat (A132_12, k133_12)) ((((at0.tmod (m.length : Int)) + (1 : Int)) + (at1.tmod ((m.length : Int) - (1 : Int)))).tmod (m.length : Int)).toNat).1) ((gl (sll (sll (sll x74 (at0.tmod (m.length : Int)) (gl x74 ((((at0.tmod (m.length : Int)) + (1 : Int)) + (at1.tmod ((m.length : Int) - (1 : Int)))).tmod (m.length : Int)))) ((((at0.tmod (m.length : Int)) + (1 : Int)) + (at1.tmod ((m.length : Int) - (1 : Int)))).tmod (m.length : Int)) (gl x74 (at0.tmod (m.length : Int)))) (at0.tmod (m.length : Int)) x131) ((((at0.tmod (m.length : Int)) + (1 : Int)) + (at1.tmod ((m.length : Int) - (1 : Int)))).tmod (m.length : Int))).length) (((up (up (up hs77 (at0.tmod (m.length : Int)).toNat (hs77 ((((at0.tmod (m.length : Int)) + (1 : Int)) + (at1.tmod ((m.length : Int) - (1 : Int)))).tmod (m.length : Int)).toNat)) ((((at0.tmod (m.length : Int)) + (1 : Int)) + (at1.tmod ((m.length : Int) - (1 : Int)))).tmod (m.length : Int)).toNat (hs77 (at0.tmod (m.length : Int)).toNat)) (at0.tmod (m.length : Int)).toNat (A132_12, k133_12)) ((((at0.tmod (m.length : Int)) + (1 : Int)) + (at1.tmod ((m.length : Int) - (1 : Int)))).tmod (m.length : Int)).toNat).2), fun v wQ => ∃ A178_11 k179_11, v = .slice A178_11 x177.length k179_11 /\ Own 0 wQ 3 1 A178_11 x177.length k179_11 (is x177) /\ (∀ g, bl A178_11 = some g -> w157.heap.size <= g)].getD iQ (fun _ _ => True)) (fun _ => vbD) Try.mixed (by kernel_rfl) ?_ (fun _ _ _ _ _ _ _ h => h) (by kernel_rfl) ?_ ?_
  . refine J9 _ ?_; intro VQ hVQ vQ wQ1 wQ2 hQ1 hQ2; simp only [List.mem_cons, List.not_mem_nil, or_false] at hVQ; rcases hVQ with rfl | rfl | rfl | rfl | rfl | rfl | rfl | rfl | rfl | rfl | rfl | rfl
    any_goals exact hQ1
    . obtain ⟨A165_5, k169_5, hQe, hO167_5, hN168_5⟩ := hQ1; exact ⟨A165_5, k169_5, hQe, hO167_5.ext hQ2, hN168_5⟩
    obtain ⟨A178_11, k179_11, hQe, hO182_11, hN183_11⟩ := hQ1; exact ⟨A178_11, k179_11, hQe, hO182_11.ext hQ2, hN183_11⟩
  . refine ⟨⟨rfl, ⟨rfl, trivial⟩, ?_⟩, ⟨rfl, ⟨rfl, trivial⟩, ?_⟩, ⟨rfl, ⟨rfl, trivial⟩, ?_⟩, ⟨rfl, ⟨rfl, trivial⟩, ?_⟩, ⟨rfl, trivial, ?_⟩, ⟨rfl, trivial, ?_⟩, ⟨rfl, ⟨rfl, trivial⟩, ?_⟩, ⟨rfl, ⟨rfl, trivial⟩, ?_⟩, ⟨rfl, ⟨rfl, trivial⟩, ?_⟩, ⟨rfl, trivial, ?_⟩, ⟨rfl, trivial, ?_⟩, ⟨rfl, trivial, ?_⟩, trivial⟩
    . intro w158 hE; intro RR; refine Je rfl rfl ?_; exact Ja ⟨_, rfl, dnq rfl rfl rfl rfl⟩
    . intro w159 hE; intro RR; refine Je rfl rfl ?_; exact Ja ⟨_, rfl, dnq rfl rfl rfl rfl⟩
    . intro w160 hE; have hE := hE rfl; have hS := hS.grow hE; intro RR; refine Jn (cs := [.int .i64 Pf, .int .i64 Mf, .slice Af mf.length kf]) Qa Qg rfl rfl (Jb (hS.own (i := 12) rfl)) rfl ?_; exact Ja ⟨_, rfl, dnq (Ji _) rfl rfl rfl⟩
    . intro w161 hE; intro RR; refine Jg (off := 0) JZ rfl rfl ?_; exact Ja ⟨_, rfl, dnq rfl rfl rfl rfl⟩
    . intro w162 hE; have hE := hE rfl; have hS := hS.grow hE; rintro _ rfl; intro RR; refine Jc XU3 rfl rfl (Jb (hS.own (i := 11) rfl) 0 _ rfl) rfl ?_; exact Ja ⟨_, rfl, dnq (Ji _) rfl rfl rfl⟩
    . intro w163 hE; have hE := hE rfl; have hS := hS.grow hE; rintro _ rfl; intro RR; refine ZS (J := Cm) Jr XE3 rfl rfl o164 (QB _) rfl ?_; intro A165 k169 w166 hO167 hN168g hGw166; have hN168 : ∀ g, bl A165 = some g -> _ <= g := fun g hg => Nat.le_trans hE.size (hN168g g hg); exact Ja ⟨_, rfl, hGw166, ⟨A165, k169, rfl, hO167, hN168⟩, (fun _ => fun g hg => ⟨hN168g g hg, (hO167.bl_ge g hg).2⟩), (fun j h => by cases h)⟩
    . intro w170 hE; intro RR; refine Je rfl rfl ?_; exact Ja ⟨_, rfl, dnq rfl rfl rfl rfl⟩
    . intro w171 hE; intro RR; refine Je rfl rfl ?_; exact Ja ⟨_, rfl, dnq rfl rfl rfl rfl⟩
    . intro w172 hE; intro RR; refine Je rfl rfl ?_; exact Ja ⟨_, rfl, dnq rfl rfl rfl rfl⟩
    . intro w173 hE; rintro _ rfl; rintro _ rfl; intro RR; refine JD 3 Jt Ju hS rfl rfl rfl o174 rfl ?_; exact Ja ⟨_, rfl, dnq rfl rfl rfl rfl⟩
    . intro w175 hE; have hE := hE rfl; have hS := hS.grow hE; rintro _ rfl; intro RR; refine Jc Jr rfl rfl (hS.mxcell (i := 3) rfl o174) rfl ?_; exact Ja ⟨_, rfl, dnq (Ji _) rfl rfl rfl⟩
    intro w176 hE; have hE := hE rfl; have hS := hS.grow hE; rintro _ rfl; rintro _ ⟨A165_5, k169_5, rfl, hO167_5, hN168_5⟩; rintro _ rfl; rintro _ rfl; intro RR; refine WL.call XF28 rfl XN28 rfl rfl (JU (Je2 (hS.ro hf) hO167_5.rd (hS.mxrd (i := 3) rfl o174) o184)) ?_; rintro _ w181 ⟨_, hGw181, hRww181, hNww181, x177q, A178, k179, rfl, rfl, he⟩; subst he; have hO182 := (hRww181.get (i := 0) rfl).1; have hN183 : ∀ g, bl A178 = some g -> _ <= g := fun g hg => Nat.le_trans hE.size (hNww181.1 g hg); exact Ja ⟨_, rfl, hGw181, ⟨A178, k179, rfl, hO182, hN183⟩, (fun _ => fun g hg => ⟨hNww181.1 g hg, (hO182.bl_ge g hg).2⟩), (fun j h => by cases h)⟩
  intro vals w185 hT hVs hAp hCp; have hS := hS.grow hT; have hv0 : vals 0 = _ := hVs 0 (by decide); have hv1 : vals 1 = _ := hVs 1 (by decide); have hv2 : vals 2 = _ := hVs 2 (by decide); have hv3 : vals 3 = _ := hVs 3 (by decide); have hv4 : vals 4 = _ := hVs 4 (by decide); obtain ⟨A165_5, k169_5, hv5, hO167_5, hN168_5⟩ := hVs 5 (by decide); have hv6 : vals 6 = _ := hVs 6 (by decide); have hv7 : vals 7 = _ := hVs 7 (by decide); have hv8 : vals 8 = _ := hVs 8 (by decide); have hv9 : vals 9 = _ := hVs 9 (by decide); have hv10 : vals 10 = _ := hVs 10 (by decide); obtain ⟨A178_11, k179_11, hv11, hO182_11, hN183_11⟩ := hVs 11 (by decide); have hS := Qf [] hS0 hS hO182_11 hN183_11 (fun s hs => by cases hs); show WA _ _ _ _ _ _ _ _ ([(132, vals 0), (133, vals 1), (134, vals 2), (135, vals 3), (136, vals 4), (137, vals 5), (138, vals 6), (139, vals 7), (140, vals 8), (141, vals 9), (142, vals 10), (143, vals 11)] ++ _) _; rw [hv0, hv1, hv2, hv3, hv4, hv5, hv6, hv7, hv8, hv9, hv10, hv11]; refine Jf 12 (by decide +kernel) rfl ?_; obtain ⟨o187, hv⟩ := hv; refine JD 4 Jt Ju hS rfl rfl rfl o187 rfl <| Ja <| Jf 13 (by decide +kernel) rfl ?_; have hS := hS.pick [0, 4, 1, 2, 3, 5, 6, 7, 8, 9, 10, 11, 12, 13] rfl; refine Ym hS Ju o187 (hS.rd (i := 0) rfl).ilen.symm rfl rfl ?_; intro w188 hS; refine Ja <| Jq (by decide +kernel) <| Jh 2 <| Jn (cs := [.int .i64 Pf, .int .i64 Mf, .slice Af mf.length kf]) Qa Qg rfl rfl (Jb (hS.own (i := 12) rfl)) rfl <| Jg (off := 0) JZ rfl rfl <| Jc XU3 rfl rfl (Jb (hS.own (i := 11) rfl) 0 _ rfl) rfl <| Je rfl rfl <| J0 (cells := #[.int .i64 Cm, .slice A75 x74.length k76]) Zt rfl rfl rfl <| SL.call hS (QN (hS.ro hf) (hS.rl (i := 0) rfl) hv) Jkk rfl Jni rfl rfl ?_; rintro _ _ w189 ⟨c190, x191, x192, r193, A194, k195, hs196, A198, k199, rfl, rfl, hv⟩ hGw189 hS; have hS := hS.n2; refine Jd 4 <| SL.alloc (cs := [.int .i64 0, .slice none 0 0]) hS JC rfl rfl ?_; intro g201 w202 hS; refine JA (cs := [.int .i64 c190, .slice A194 x191.length k195]) 0 hS rfl JC rfl rfl rfl rfl rfl ?_; intro w203 hS; refine Jd 3 <| Jh 4 <| Je rfl rfl ?_; by_cases g204 : r105 = (0 : Int)
  .have hv := hv.1 g204; rw [decide_eq_true g204]; refine Jd 5 <| Je rfl rfl ?_; by_cases g205 : r147 = (0 : Int)
   .have hv := hv.1 g205; rw [decide_eq_true g205]; refine Jd 5 <| Je rfl rfl ?_; by_cases g206 : r193 = (0 : Int)
    .have hv := hv.1 g206; rw [decide_eq_true g206]; refine WL.take rfl <| Jn (cs := [.int .i64 c102, .slice A106 x103.length k107]) JC J6 rfl rfl (Jb (hS.own (i := 7) rfl)) rfl <| WL.take rfl <| Jn (cs := [.int .i64 c28, .slice A32 x29.length k33]) JC J6 rfl rfl (Jb (hS.own (i := 10) rfl)) rfl <| WL.take rfl <| SL.call hS (Y3 (hS.rl (i := 8) rfl) (hS.rl (i := 11) rfl) hv) Jkj rfl Jnh rfl rfl ?_; rintro _ _ w207 ⟨r208, rfl, rfl, hv⟩ hGw207 hS; have hS := hS.n0; refine WL.pick rfl rfl rfl <| Je rfl rfl ?_; cases g209 : r208
     .have hv := hv.2 g209; refine Jd 11 <| W.ret <| ⟨_, rfl, Fin.nil ?_⟩
      exact ⟨_, hS.ext, (hS.pick [] rfl).rows, Jj (hS.pick [] rfl).rows rfl, ⟨false, rfl, rfl, hv⟩⟩
     have hv := hv.1 g209; refine WL.take rfl <| Jn (cs := [.int .i64 c144, .slice A148 x145.length k149]) JC J6 rfl rfl (Jb (hS.own (i := 4) rfl)) rfl <| WL.take rfl <| Jn (cs := [.int .i64 c28, .slice A32 x29.length k33]) JC J6 rfl rfl (Jb (hS.own (i := 10) rfl)) rfl <| WL.take rfl <| SL.call hS (Y3 (hS.rl (i := 5) rfl) (hS.rl (i := 11) rfl) hv) Jkj rfl Jnh rfl rfl ?_; rintro _ _ w210 ⟨r211, rfl, rfl, hv⟩ hGw210 hS; have hS := hS.n0; refine WL.pick rfl rfl rfl <| Je rfl rfl ?_; cases g212 : r211
     .have hv := hv.2 g212; refine Jd 6 <| W.ret <| ⟨_, rfl, Fin.nil ?_⟩
      exact ⟨_, hS.ext, (hS.pick [] rfl).rows, Jj (hS.pick [] rfl).rows rfl, ⟨false, rfl, rfl, hv⟩⟩
     have hv := hv.1 g212; refine WL.take rfl <| Jn (cs := [.int .i64 c190, .slice A194 x191.length k195]) JC J6 rfl rfl (Jb (hS.own (i := 0) rfl)) rfl <| WL.take rfl <| Jn (cs := [.int .i64 c28, .slice A32 x29.length k33]) JC J6 rfl rfl (Jb (hS.own (i := 10) rfl)) rfl <| WL.take rfl <| SL.call hS (Y3 (hS.rl (i := 1) rfl) (hS.rl (i := 11) rfl) hv) Jkj rfl Jnh rfl rfl ?_; rintro _ _ w213 ⟨r214, rfl, rfl, hv⟩ hGw213 hS; have hS := hS.n0; refine Jd 3 <| W.ret <| ⟨_, rfl, Fin.nil ?_⟩
     exact ⟨_, hS.ext, (hS.pick [] rfl).rows, Jj (hS.pick [] rfl).rows rfl, ⟨r214, rfl, rfl, hv⟩⟩
    have hv := hv.2 g206; rw [decide_eq_false g206]; refine Jd 16 <| W.ret <| ⟨_, rfl, Fin.nil ?_⟩
    exact ⟨_, hS.ext, (hS.pick [] rfl).rows, Jj (hS.pick [] rfl).rows rfl, ⟨false, rfl, rfl, hv⟩⟩
   have hv := hv.2 g205; rw [decide_eq_false g205]; refine Jd 20 <| W.ret <| ⟨_, rfl, Fin.nil ?_⟩
   exact ⟨_, hS.ext, (hS.pick [] rfl).rows, Jj (hS.pick [] rfl).rows rfl, ⟨false, rfl, rfl, hv⟩⟩
  have hv := hv.2 g204; rw [decide_eq_false g204]; refine Jd 24 <| W.ret <| ⟨_, rfl, Fin.nil ?_⟩
  exact ⟨_, hS.ext, (hS.pick [] rfl).rows, Jj (hS.pick [] rfl).rows rfl, ⟨false, rfl, rfl, hv⟩⟩
 have hv := hv.1 g19; refine Jd 5 <| Qd rfl <| Jh 2 <| SL.call hS (Jdz  hv) XF15 rfl XN15 rfl rfl ?_; rintro _ _ w20 ⟨r21, rfl, rfl, hv⟩ hGw20 hS; have hS := hS.n0; refine Jd 2 <| W.ret <| ⟨_, rfl, Fin.nil ?_⟩
 exact ⟨_, hS.ext, (hS.pick [] rfl).rows, Jj (hS.pick [] rfl).rows rfl, ⟨r21, rfl, rfl, hv⟩⟩
end Go.Proofs.Ytiboieijhehjnaa
set_option linter.unusedVariables false
namespace Go.Proofs.Ytiboieijhehjnaa
abbrev Vec := Nat -> Int
def tX (m : Nat) (c : Vec) (v : Vec) : Vec := fun i => if i < m then (if i = 0 then 0 else v (i - 1)) - c i * v (m - 1) else 0
def JX (u v : Vec) : Vec := fun i => u i + v i
def vsm (a : Int) (v : Vec) : Vec := fun i => a * v i
def vz : Vec := fun _ => 0
def e0 : Vec := fun i => if i = 0 then 1 else 0
def tXn (m : Nat) (c : Vec) : Nat -> Vec -> Vec
  | 0, v => v
  | n + 1, v => tX m c (tXn m c n v)
def opr (m : Nat) (c b : Vec) : Nat -> Vec -> Vec
  | 0, _ => vz
  | n + 1, v => JX (opr m c b n v) (vsm (b n) (tXn m c n v))
def Yi (m : Nat) (c a b : Vec) : Vec := opr m c b m a
section
variable (m : Nat) (c : Vec)
theorem tX_add (u v : Vec) : tX m c (JX u v) = JX (tX m c u) (tX m c v) := by
 funext i; simp only [tX, JX]; split
 .split <;> grind
 .rfl
theorem tX_sm (a : Int) (v : Vec) : tX m c (vsm a v) = vsm a (tX m c v) := by
 funext i; simp only [tX, vsm]; split
 .split <;> grind
 .grind
theorem tX_z : tX m c vz = vz := by funext i; simp [tX, vz]
theorem Jan (u : Vec) : JX u vz = u := by funext i; simp [JX, vz]
theorem z_vadd (u : Vec) : JX vz u = u := by funext i; simp [JX, vz]
theorem Jet (u v : Vec) : JX u v = JX v u := by funext i; simp only [JX]; omega
theorem Zf (u v w : Vec) : JX (JX u v) w = JX u (JX v w) := by funext i; simp only [JX]; omega
theorem Jcz (a : Int) (u v : Vec) : vsm a (JX u v) = JX (vsm a u) (vsm a v) := by funext i; simp only [JX, vsm]; grind
theorem Jfl (a b : Int) (u : Vec) : vsm a (vsm b u) = vsm (a * b) u := by funext i; simp only [vsm]; grind
theorem Jku (a : Int) : vsm a vz = vz := by funext i; simp [vsm, vz]
theorem Ja2 (n : Nat) (u v : Vec) : tXn m c n (JX u v) = JX (tXn m c n u) (tXn m c n v) := by
 induction n with
 | zero => rfl
 | succ n ih => simp only [tXn, ih, tX_add]
theorem Jby (n : Nat) (a : Int) (v : Vec) : tXn m c n (vsm a v) = vsm a (tXn m c n v) := by
 induction n with
 | zero => rfl
 | succ n ih => simp only [tXn, ih, tX_sm]
theorem Jg8 (n : Nat) : tXn m c n vz = vz := by
 induction n with
 | zero => rfl
 | succ n ih => simp only [tXn, ih, tX_z]
theorem Joe (n : Nat) (v : Vec) : tXn m c n (tX m c v) = tX m c (tXn m c n v) := by
 induction n with
 | zero => rfl
 | succ n ih => simp only [tXn, ih]
theorem Jc4 (n k : Nat) (v : Vec) : tXn m c n (tXn m c k v) = tXn m c (n + k) v := by
 induction n with
 | zero => simp [tXn]
 | succ n ih => rw [Nat.succ_add]; simp only [tXn, ih]
variable (b : Vec)
theorem Jla (n : Nat) (u v : Vec) : opr m c b n (JX u v) = JX (opr m c b n u) (opr m c b n v) := by
 induction n with
 | zero => simp [opr, Jan]
 | succ n ih => simp only [opr, ih, Ja2, Jcz]; funext i; simp only [JX]; omega
theorem Jjc (n : Nat) (a : Int) (v : Vec) : opr m c b n (vsm a v) = vsm a (opr m c b n v) := by
 induction n with
 | zero => simp [opr, Jku]
 | succ n ih => simp only [opr, ih, Jby, Jcz, Jfl]; rw [Int.mul_comm (b n) a]
theorem opr_z (n : Nat) : opr m c b n vz = vz := by
 induction n with
 | zero => rfl
 | succ n ih => simp only [opr, ih, Jg8, Jku, Jan]
theorem Jk9 (n k : Nat) (v : Vec) : opr m c b n (tXn m c k v) = tXn m c k (opr m c b n v) := by
 induction n with
 | zero => simp [opr, Jg8]
 | succ n ih => simp only [opr, ih, Ja2, Jby, Jc4]; rw [Nat.add_comm n k]
theorem Jhm (d : Vec) (n k : Nat) (v : Vec) : opr m c b n (opr m c d k v) = opr m c d k (opr m c b n v) := by
 induction n with
 | zero => simp only [opr, opr_z]
 | succ n ih => simp only [opr, ih, Jla, Jjc, Jk9]
theorem Jox (d : Vec) (n : Nat) (v : Vec) : opr m c (JX b d) n v = JX (opr m c b n v) (opr m c d n v) := by
 induction n with
 | zero => simp [opr, Jan]
 | succ n ih => simp only [opr, ih]; funext i; simp only [JX, vsm]; grind
end
def vei (k : Nat) : Vec := fun i => if i = k then 1 else 0
theorem Ji2 {m : Nat} {c : Vec} : ∀ {k : Nat}, k < m -> tXn m c k e0 = vei k
 | 0, _ => rfl
 | k + 1, h => by
  have ih : tXn m c k e0 = vei k := Ji2 (by omega); simp only [tXn, ih]; funext i; simp only [tX, vei]; split
  .rw [if_neg (show ¬ m - 1 = k by omega)]; by_cases h0 : i = 0
   .subst h0; simp
   .simp only [h0, if_false]; by_cases h1 : i = k + 1
    .subst h1; simp
    .rw [if_neg (by omega), if_neg h1]; simp
  .rw [if_neg (by omega)]
theorem Jf0 {m : Nat} {c a : Vec} : ∀ {n : Nat}, n <= m -> ∀ i, opr m c a n e0 i = if i < n then a i else 0
  | 0, _, i => by simp [opr, vz]
  | n + 1, h, i => by
    simp only [opr, JX, vsm]
    rw [Jf0 (n := n) (by omega) i, Ji2 (by omega)]
    simp only [vei]
    by_cases h1 : i = n
    . subst h1; simp
    . by_cases h2 : i < n
      . simp [h2, h1, show i < n + 1 by omega]
      . simp [h2, h1, show ¬ i < n + 1 by omega]
def Sup (m : Nat) (v : Vec) : Prop := ∀ i, m <= i -> v i = 0
theorem Y0 {m : Nat} {c a : Vec} (h : Sup m a) : opr m c a m e0 = a := by
 funext i; rw [Jf0 (Nat.le_refl m)]; split
 .rfl
 .exact (h i (by omega)).symm
theorem Sup.z {m : Nat} : Sup m vz := fun _ _ => rfl
theorem Sup.tX {m : Nat} {c v : Vec} : Sup m (tX m c v) := fun i h => by simp [Go.Proofs.Ytiboieijhehjnaa.tX, show ¬ i < m by omega]
theorem Sup.add {m : Nat} {u v : Vec} (hu : Sup m u) (hv : Sup m v) : Sup m (JX u v) := fun i h => by simp [JX, hu i h, hv i h]
theorem Sup.sm {m : Nat} {a : Int} {v : Vec} (hv : Sup m v) : Sup m (vsm a v) := fun i h => by simp [vsm, hv i h]
theorem Sup.tXn {m : Nat} {c v : Vec} (hv : Sup m v) : ∀ n, Sup m (tXn m c n v)
 | 0 => hv
 | _ + 1 => Sup.tX
theorem Sup.opr {m : Nat} {c b v : Vec} (hv : Sup m v) : ∀ n, Sup m (opr m c b n v)
 | 0 => Sup.z
 | n + 1 => (Sup.opr hv n).add (hv.tXn n).sm
theorem ZV {m : Nat} {c a b : Vec} (ha : Sup m a) (hb : Sup m b) : Yi m c a b = Yi m c b a := by
 unfold Yi
 calc opr m c b m a = opr m c b m (opr m c a m e0) := by rw [Y0 ha]
  _ = opr m c a m (opr m c b m e0) := Jhm ..
  _ = opr m c a m b := by rw [Y0 hb]
theorem Ji0 {m : Nat} {c a b d : Vec} (ha : Sup m a) (hb : Sup m b) (hd : Sup m d) : Yi m c (Yi m c a b) d = Yi m c a (Yi m c b d) := by
 rw [ZV (a := a) (b := Yi m c b d) ha (Sup.opr hb m)]; show opr m c d m (opr m c b m a) = opr m c a m (opr m c d m b); rw [<- Jhm m c d a m m b]; show opr m c d m (Yi m c a b) = opr m c d m (Yi m c b a); rw [ZV ha hb]
theorem Jn0 {m : Nat} {c a b d : Vec} : Yi m c a (JX b d) = JX (Yi m c a b) (Yi m c a d) := Jox ..
theorem Jnz {m : Nat} {c a : Vec} (hm : 0 < m) : Yi m c a e0 = a := by
 have key : ∀ n, 0 < n -> opr m c e0 n a = a := by
  intro n
  induction n with
  | zero => intro h; omega
  | succ n ih =>
   intro _; rcases Nat.eq_zero_or_pos n with h | h
   .subst h; funext i; simp [opr, e0, JX, vsm, vz, tXn]
   .simp only [opr, ih h]; funext i; simp [e0, JX, vsm, show n ≠ 0 by omega]
 exact key m hm
def vcg (p : Int) (u v : Vec) : Prop := ∀ i, u i % p = v i % p
section
variable {p : Int} {m : Nat} {c c' u u' v v' b b' : Vec}
theorem vcg.refl (u : Vec) : vcg p u u := fun _ => rfl
theorem vcg.symm (h : vcg p u v) : vcg p v u := fun i => (h i).symm
theorem vcg.trans {w : Vec} (h : vcg p u v) (k : vcg p v w) : vcg p u w := fun i => (h i).trans (k i)
theorem Jb5 {a a' d d' : Int} (h : a % p = a' % p) (k : d % p = d' % p) : (a * d) % p = (a' * d') % p := by
 rw [Int.mul_emod, h, k, <- Int.mul_emod]
theorem Jcd {a a' d d' : Int} (h : a % p = a' % p) (k : d % p = d' % p) : (a + d) % p = (a' + d') % p := by
 rw [Int.add_emod, h, k, <- Int.add_emod]
theorem Ji4 {a a' d d' : Int} (h : a % p = a' % p) (k : d % p = d' % p) : (a - d) % p = (a' - d') % p := by
 rw [Int.sub_emod, h, k, <- Int.sub_emod]
theorem vcg.add (h : vcg p u u') (k : vcg p v v') : vcg p (JX u v) (JX u' v') := fun i => Jcd (h i) (k i)
theorem vcg.sm {a a' : Int} (ha : a % p = a' % p) (h : vcg p u u') : vcg p (vsm a u) (vsm a' u') := fun i => Jb5 ha (h i)
theorem vcg.tX (hc : vcg p c c') (h : vcg p u u') : vcg p (tX m c u) (tX m c' u') := fun i => by
 simp only [Go.Proofs.Ytiboieijhehjnaa.tX]; split
 .split
  .exact Ji4 rfl (Jb5 (hc i) (h _))
  .exact Ji4 (h _) (Jb5 (hc i) (h _))
 .rfl
theorem vcg.tXn (hc : vcg p c c') (h : vcg p u u') : ∀ n, vcg p (tXn m c n u) (tXn m c' n u')
 | 0 => h
 | n + 1 => vcg.tX hc (vcg.tXn hc h n)
theorem vcg.opr (hc : vcg p c c') (hb : vcg p b b') (h : vcg p u u') : ∀ n, vcg p (opr m c b n u) (opr m c' b' n u')
 | 0 => .refl _
 | n + 1 => (vcg.opr hc hb h n).add (vcg.sm (hb n) (vcg.tXn hc h n))
theorem vcg.mul (hc : vcg p c c') (h : vcg p u u') (hb : vcg p b b') : vcg p (Yi m c u b) (Yi m c' u' b') := vcg.opr hc hb h m
end
end Go.Proofs.Ytiboieijhehjnaa
set_option linter.unusedVariables false
namespace Go.Proofs.Ytiboieijhehjnaa
def dv (p x : Nat) : Vec := fun i => ((x / p ^ i % p : Nat) : Int)
def vl (p : Nat) : Nat -> Vec -> Int
  | 0, _ => 0
  | n + 1, v => v 0 + (p : Int) * vl p n (fun i => v (i + 1))
def Cn (p n : Nat) (v : Vec) : Prop := ∀ i, i < n -> 0 <= v i /\ v i < p
def nm (p m : Nat) (v : Vec) : Nat := (vl p m (fun i => v i % (p : Int))).toNat
theorem Zq (p x i : Nat) : dv p x (i + 1) = dv p (x / p) i := by
 simp only [dv]; rw [Nat.pow_succ', <- Nat.div_div_eq_div_mul]
theorem YQ (p x : Nat) : dv p x 0 = ((x % p : Nat) : Int) := by simp [dv]
theorem Cn.tl {p n : Nat} {v : Vec} (h : Cn p (n + 1) v) : Cn p n (fun i => v (i + 1)) := fun i hi => h (i + 1) (by omega)
theorem Jkv {p : Nat} (hp : 0 < p) : ∀ {n : Nat} {v : Vec}, Cn p n v -> 0 <= vl p n v /\ vl p n v < ((p ^ n : Nat) : Int)
 | 0, v, _ => by simp [vl]
 | n + 1, v, h => by
  have ih := Jkv hp h.tl; have h0 := h 0 (by omega); simp only [vl]; have h1 : (p : Int) * vl p n (fun i => v (i + 1)) <= p * (((p ^ n : Nat) : Int) - 1) := Int.mul_le_mul_of_nonneg_left (by omega) (by omega); have h2 : 0 <= (p : Int) * vl p n (fun i => v (i + 1)) := Int.mul_nonneg (by omega) ih.1; have h3 : ((p ^ (n + 1) : Nat) : Int) = p * ((p ^ n : Nat) : Int) := by rw [Nat.pow_succ']; push_cast; rfl
  have h4 : (p : Int) * (((p ^ n : Nat) : Int) - 1) = p * ((p ^ n : Nat) : Int) - p := by rw [Int.mul_sub, Int.mul_one]
  omega
theorem Jdm {p : Nat} : ∀ {n : Nat} {u v : Vec}, (∀ i, i < n -> u i = v i) -> vl p n u = vl p n v
 | 0, _, _, _ => rfl
 | n + 1, u, v, h => by simp only [vl]; rw [h 0 (by omega), Jdm (n := n) fun i hi => h (i + 1) (by omega)]
theorem Jn1 {p : Nat} (hp : 0 < p) : ∀ {n x : Nat}, x < p ^ n -> vl p n (dv p x) = x
 | 0, x, h => by simp at h; subst h; rfl
 | n + 1, x, h => by
  simp only [vl]; have : (fun i => dv p x (i + 1)) = dv p (x / p) := by funext i; exact Zq p x i
  rw [this, Jn1 hp (n := n) (by rw [Nat.div_lt_iff_lt_mul hp, <- Nat.pow_succ]; exact h), YQ]; have := Nat.mod_add_div x p; have h2 : ((x % p + p * (x / p) : Nat) : Int) = (x : Int) := by rw [this]
  push_cast at h2 ⊢; exact h2
theorem dv_vl {p : Nat} (hp : 0 < p) : ∀ {n : Nat} {v : Vec}, Cn p n v -> ∀ i, i < n -> dv p (vl p n v).toNat i = v i
 | 0, _, _, i, hi => by omega
 | n + 1, v, h, i, hi => by
  have ih := Jkv hp h.tl; have h0 := h 0 (by omega); obtain ⟨t, ht⟩ := Int.eq_ofNat_of_zero_le ih.1; obtain ⟨a, ha⟩ := Int.eq_ofNat_of_zero_le h0.1; have hv : (vl p (n + 1) v).toNat = a + p * t := by
   simp only [vl]; rw [ht, ha]; have : (a : Int) + (p : Int) * (t : Int) = ((a + p * t : Nat) : Int) := by push_cast; rfl
   rw [this]; rfl
  have hap : a < p := by have := h0.2; rw [ha] at this; omega
  rw [hv]; cases i with
  | zero => rw [YQ, Nat.add_mul_mod_self_left, Nat.mod_eq_of_lt hap, ha]
  | succ i =>
   rw [Zq]; have h2 : (a + p * t) / p = t := by rw [Nat.add_mul_div_left _ _ hp, Nat.div_eq_of_lt hap, Nat.zero_add]
   have ih2 := dv_vl hp h.tl i (by omega); rw [ht] at ih2; rw [h2]; exact ih2
section
variable {p m : Nat}
theorem md_cn (hp : 0 < p) (v : Vec) (n : Nat) : Cn p n (fun i => v i % (p : Int)) := fun i _ => ⟨Int.emod_nonneg _ (by omega), Int.emod_lt_of_pos _ (by omega)⟩
theorem Jal (hp : 0 < p) (v : Vec) : nm p m v < p ^ m := by
 have := Jkv hp (md_cn hp v m); unfold nm; omega
theorem Jlp (hp : 0 < p) (v : Vec) {i : Nat} (hi : i < m) : dv p (nm p m v) i = v i % (p : Int) := dv_vl hp (md_cn hp v m) i hi
theorem Jfc (hp : 0 < p) (x n : Nat) : Cn p n (dv p x) := fun i _ => by
 have := Nat.mod_lt (x / p ^ i) hp; simp only [dv]; omega
theorem Jpq {x i : Nat} (hx : x < p ^ m) (hi : m <= i) : dv p x i = 0 := by
 rcases Nat.eq_zero_or_pos p with rfl | hp
 .simp only [dv]; cases m with
  | zero =>
   have : x = 0 := by simpa using hx
   subst this; simp
  | succ m => simp at hx
 .have : x / p ^ i = 0 := Nat.div_eq_of_lt (Nat.lt_of_lt_of_le hx (Nat.pow_le_pow_right hp hi)); simp [dv, this]
theorem Yb {x : Nat} (hx : x < p ^ m) : Sup m (dv p x) := fun i hi => Jpq hx hi
theorem Jar (x i : Nat) : dv p x i % (p : Int) = dv p x i := by
 simp only [dv]; rw [<- Int.natCast_emod, Nat.mod_mod]
theorem Jam (hp : 0 < p) {x : Nat} (hx : x < p ^ m) : nm p m (dv p x) = x := by
 unfold nm; rw [Jdm (v := dv p x) fun i _ => Jar x i, Jn1 hp hx]; rfl
theorem Jo6 {u v : Vec} (h : ∀ i, i < m -> u i % (p : Int) = v i % (p : Int)) : nm p m u = nm p m v := by
 unfold nm; rw [Jdm h]
theorem YW {u v : Vec} (h : vcg p u v) : nm p m u = nm p m v := Jo6 fun i _ => h i
theorem Jig (hp : 0 < p) {v : Vec} (hv : Sup m v) : vcg p (dv p (nm p m v)) v := fun i => by
 rcases Nat.lt_or_ge i m with h | h
 .rw [Jlp hp v h, Int.emod_emod]
 .rw [Jpq (Jal hp v) h, hv i h]
theorem nm_eq (hp : 0 < p) {x : Nat} {v : Vec} (hx : x < p ^ m) (h : ∀ i, i < m -> dv p x i = v i % (p : Int)) : nm p m v = x := by
 rw [<- Jam hp hx]; exact Jo6 fun i hi => by rw [h i hi, Int.emod_emod]
end
def J2 (p m x y : Nat) : Nat := nm p m (JX (dv p x) (dv p y))
def Zp (p m x : Nat) : Nat := nm p m (vsm (-1) (dv p x))
def Jw (p m : Nat) (c : Vec) (x y : Nat) : Nat := nm p m (Yi m c (dv p x) (dv p y))
section
variable {p m : Nat} {c : Vec}
theorem Jln (hp : 0 < p) (x y : Nat) : J2 p m x y < p ^ m := Jal hp _
theorem Jgd (hp : 0 < p) (x : Nat) : Zp p m x < p ^ m := Jal hp _
theorem Jge (hp : 0 < p) (x y : Nat) : Jw p m c x y < p ^ m := Jal hp _
theorem Jgi (hp : 0 < p) {x y : Nat} (hx : x < p ^ m) (hy : y < p ^ m) : vcg p (dv p (J2 p m x y)) (JX (dv p x) (dv p y)) := Jig hp ((Yb hx).add (Yb hy))
theorem Jrz (hp : 0 < p) {x : Nat} (hx : x < p ^ m) : vcg p (dv p (Zp p m x)) (vsm (-1) (dv p x)) := Jig hp (Yb hx).sm
theorem Jny {a b : Vec} (ha : Sup m a) : Sup m (Yi m c a b) := Sup.opr ha m
theorem Jbi (hp : 0 < p) {x y : Nat} (hx : x < p ^ m) : vcg p (dv p (Jw p m c x y)) (Yi m c (dv p x) (dv p y)) := Jig hp (Jny (Yb hx))
theorem Jmv (x y : Nat) : J2 p m x y = J2 p m y x := by unfold J2; rw [Jet]
theorem Jj2 (hp : 0 < p) {x y z : Nat} (hx : x < p ^ m) (hy : y < p ^ m) (hz : z < p ^ m) : J2 p m (J2 p m x y) z = J2 p m x (J2 p m y z) := by
 show nm p m (JX (dv p (J2 p m x y)) (dv p z)) = nm p m (JX (dv p x) (dv p (J2 p m y z))); rw [YW ((Jgi hp hx hy).add (vcg.refl _)), YW ((vcg.refl (p := p) (dv p x)).add (Jgi hp hy hz)), Zf]
theorem Jd9 (p : Nat) : dv p 0 = vz := by funext i; simp [dv, vz]
theorem Jmu (hp : 0 < p) {x : Nat} (hx : x < p ^ m) : J2 p m x 0 = x := by unfold J2; rw [Jd9, Jan, Jam hp hx]
theorem Jbe (hp : 0 < p) {x : Nat} (hx : x < p ^ m) : J2 p m x (Zp p m x) = 0 := by
 show nm p m (JX (dv p x) (dv p (Zp p m x))) = 0; rw [YW ((vcg.refl (p := p) (dv p x)).add (Jrz hp hx))]; have : JX (dv p x) (vsm (-1) (dv p x)) = vz := by funext i; simp only [JX, vsm, vz]; omega
 rw [this, <- Jd9 p, Jam hp (by exact Nat.pow_pos hp)]
theorem Jb9 {x y : Nat} (hx : x < p ^ m) (hy : y < p ^ m) : Jw p m c x y = Jw p m c y x := by
 unfold Jw; rw [ZV (Yb hx) (Yb hy)]
theorem Jj1 (hp : 0 < p) {x y z : Nat} (hx : x < p ^ m) (hy : y < p ^ m) (hz : z < p ^ m) : Jw p m c (Jw p m c x y) z = Jw p m c x (Jw p m c y z) := by
 show nm p m (Yi m c (dv p (Jw p m c x y)) (dv p z)) = nm p m (Yi m c (dv p x) (dv p (Jw p m c y z))); rw [YW (vcg.mul (vcg.refl c) (Jbi hp hx) (vcg.refl _)), YW (vcg.mul (vcg.refl c) (vcg.refl (dv p x)) (Jbi hp hy)), Ji0 (Yb hx) (Yb hy) (Yb hz)]
theorem Jgh (hp : 2 <= p) : dv p 1 = e0 := by
 funext i; cases i with
 | zero => rw [YQ, Nat.mod_eq_of_lt (by omega)]; rfl
 | succ i =>
  have : (1 : Nat) / p ^ (i + 1) = 0 := Nat.div_eq_of_lt (Nat.one_lt_pow (by omega) (by omega)); simp [dv, this, e0]
theorem Jd6 (hp : 2 <= p) (hm : 0 < m) {x : Nat} (hx : x < p ^ m) : Jw p m c x 1 = x := by
 unfold Jw; rw [Jgh hp, Jnz hm, Jam (by omega) hx]
theorem Jms (hp : 0 < p) {x : Nat} (hx : x < p ^ m) : Jw p m c x 0 = 0 := by
 rw [Jb9 hx (Nat.pow_pos hp)]; unfold Jw; rw [Jd9]; have : Yi m c vz (dv p x) = vz := opr_z ..; rw [this, <- Jd9 p, Jam hp (Nat.pow_pos hp)]
theorem Jph (hp : 0 < p) {x y z : Nat} (hx : x < p ^ m) (hy : y < p ^ m) (hz : z < p ^ m) : Jw p m c x (J2 p m y z) = J2 p m (Jw p m c x y) (Jw p m c x z) := by
 show nm p m (Yi m c (dv p x) (dv p (J2 p m y z))) = nm p m (JX (dv p (Jw p m c x y)) (dv p (Jw p m c x z))); rw [YW (vcg.mul (vcg.refl c) (vcg.refl (dv p x)) (Jgi hp hy hz)), YW ((Jbi (c := c) hp hx).add (Jbi hp hx)), Jn0]
end
structure CR (q : Nat) (A M : Nat -> Nat -> Nat) : Prop where
  q2 : 2 <= q
  Al : ∀ x y, A x y < q
  Ml : ∀ x y, M x y < q
  Ac : ∀ x y, A x y = A y x
  Aa : ∀ {x y z}, x < q -> y < q -> z < q -> A (A x y) z = A x (A y z)
  Az : ∀ {x}, x < q -> A x 0 = x
  An : ∀ {x}, x < q -> ∃ y, y < q /\ A x y = 0
  Mc : ∀ {x y}, x < q -> y < q -> M x y = M y x
  Ma : ∀ {x y z}, x < q -> y < q -> z < q -> M (M x y) z = M x (M y z)
  M1 : ∀ {x}, x < q -> M x 1 = x
  M0 : ∀ {x}, x < q -> M x 0 = 0
  Md : ∀ {x y z}, x < q -> y < q -> z < q -> M x (A y z) = A (M x y) (M x z)
theorem Jkr {p m : Nat} (c : Vec) (hp : 2 <= p) (hm : 0 < m) : CR (p ^ m) (J2 p m) (Jw p m c) where
 q2 := Nat.le_trans hp (by have := Nat.pow_le_pow_right (n := p) (by omega) hm; simpa using this)
 Al := Jln (by omega)
 Ml := Jge (by omega)
 Ac := Jmv
 Aa := Jj2 (by omega)
 Az := Jmu (by omega)
 An := fun {x} hx => ⟨Zp p m x, Jgd (by omega) x, Jbe (by omega) hx⟩
 Mc := Jb9
 Ma := Jj1 (by omega)
 M1 := Jd6 hp hm
 M0 := Jms (by omega)
 Md := Jph (by omega)
end Go.Proofs.Ytiboieijhehjnaa
set_option linter.unusedVariables false
namespace Go.Proofs.Ytiboieijhehjnaa
def pw (M : Nat -> Nat -> Nat) (g : Nat) : Nat -> Nat
  | 0 => 1
  | k + 1 => M (pw M g k) g
theorem php : ∀ (n : Nat) (f : Nat -> Nat), (∀ i, i < n + 1 -> f i < n) -> ∃ i j, i < j /\ j < n + 1 /\ f i = f j
 | 0, f, h => absurd (h 0 (by omega)) (by omega)
 | n + 1, f, h => by
  by_cases hc : ∃ i, i < n + 1 /\ f i = f (n + 1)
  .obtain ⟨i, hi, he⟩ := hc; exact ⟨i, n + 1, hi, by omega, he⟩
  .have hv := h (n + 1) (by omega); obtain ⟨i, j, hij, hj, he⟩ := php n (fun i => if f i = n then f (n + 1) else f i) (fun i hi => by
    have hne : f i ≠ f (n + 1) := fun e => hc ⟨i, hi, e⟩; have := h i (by omega); show (if f i = n then f (n + 1) else f i) < n; split
    .omega
    .omega)
   refine ⟨i, j, hij, by omega, ?_⟩; have hi1 : f i ≠ f (n + 1) := fun e => hc ⟨i, by omega, e⟩; have hj1 : f j ≠ f (n + 1) := fun e => hc ⟨j, by omega, e⟩; split at he <;> split at he <;> omega
theorem Jha {n : Nat} {f : Nat -> Nat} (hb : ∀ i, i < n -> f i < n) (hi : ∀ i j, i < j -> j < n -> f i ≠ f j) {y : Nat} (hy : y < n) : ∃ i, i < n /\ f i = y := by
 obtain ⟨i, j, hij, hj, he⟩ := php n (fun i => if i < n then f i else y) (fun i _ => by
  show (if i < n then f i else y) < n; split
  .rename_i h; exact hb i h
  .exact hy)
 rcases Nat.lt_or_ge j n with h | h
 .rw [if_pos h, if_pos (show i < n by omega)] at he; exact absurd he (hi i j hij h)
 .rw [if_neg (show ¬ j < n by omega), if_pos (show i < n by omega)] at he; exact ⟨i, by omega, he⟩
section
variable {q : Nat} {A M : Nat -> Nat -> Nat} (R : CR q A M)
include R
namespace CR
theorem one_lt : 1 < q := R.q2
theorem pos : 0 < q := by have := R.q2; omega
theorem I1 {x : Nat} (hx : x < q) : M 1 x = x := by rw [R.Mc R.one_lt hx, R.M1 hx]
theorem Z0 {x : Nat} (hx : x < q) : M 0 x = 0 := by rw [R.Mc R.pos hx, R.M0 hx]
theorem zA {x : Nat} (hx : x < q) : A 0 x = x := by rw [R.Ac, R.Az hx]
theorem pw_lt (g : Nat) : ∀ k, pw M g k < q
 | 0 => R.one_lt
 | k + 1 => R.Ml _ _
theorem pw_one {g : Nat} (hg : g < q) : pw M g 1 = g := R.I1 hg
theorem pw_add {g : Nat} (hg : g < q) (i : Nat) : ∀ j, pw M g (i + j) = M (pw M g i) (pw M g j)
 | 0 => (R.M1 (R.pw_lt g i)).symm
 | j + 1 => by
  show M (pw M g (i + j)) g = M (pw M g i) (M (pw M g j) g); rw [pw_add hg i j, R.Ma (R.pw_lt g i) (R.pw_lt g j) hg]
theorem pw_pw {g : Nat} (hg : g < q) (i : Nat) : ∀ j, pw M (pw M g i) j = pw M g (i * j)
 | 0 => rfl
 | j + 1 => by
  show M (pw M (pw M g i) j) (pw M g i) = _; rw [pw_pw hg i j, <- R.pw_add hg]; rfl
theorem one_pw : ∀ j, pw M 1 j = 1
 | 0 => rfl
 | j + 1 => by show M (pw M 1 j) 1 = 1; rw [one_pw j, R.M1 R.one_lt]
theorem zero_pw {n : Nat} (h : 0 < n) : pw M 0 n = 0 := by
 cases n with
 | zero => omega
 | succ n => exact R.M0 (R.pw_lt 0 n)
end CR
end
structure Gn (q : Nat) (M : Nat -> Nat -> Nat) (g : Nat) : Prop where
  lt : g < q
  one : pw M g (q - 1) = 1
  no : ∀ k, 0 < k -> k < q - 1 -> pw M g k ≠ 1
namespace Gn
variable {q g : Nat} {A M : Nat -> Nat -> Nat}
theorem per (G : Gn q M g) (R : CR q A M) (i k : Nat) : pw M g (i + (q - 1) * k) = pw M g i := by
 rw [R.pw_add G.lt, <- R.pw_pw G.lt, G.one, R.one_pw, R.M1 (R.pw_lt g i)]
theorem ne0 (G : Gn q M g) (R : CR q A M) (k : Nat) : pw M g k ≠ 0 := fun h => by
 have h1 := G.per R 0 (k + 1); have hq := R.q2; rw [Nat.zero_add] at h1; have : (q - 1) * (k + 1) = k + ((q - 1) * (k + 1) - k) := by
  have : k + 1 <= (q - 1) * (k + 1) := Nat.le_mul_of_pos_left _ (by omega); omega
 rw [this, R.pw_add G.lt, h, R.Z0 (R.pw_lt g _)] at h1; exact absurd h1 (by show ¬ (0 : Nat) = 1; omega)
theorem inj (G : Gn q M g) (R : CR q A M) {i j : Nat} (hij : i < j) (hj : j < q - 1) : pw M g i ≠ pw M g j := fun h => by
 have e1 : M (pw M g i) (pw M g (q - 1 - i)) = 1 := by rw [<- R.pw_add G.lt, show i + (q - 1 - i) = q - 1 by omega, G.one]
 have e2 : M (pw M g j) (pw M g (q - 1 - i)) = pw M g (j - i) := by
  rw [<- R.pw_add G.lt, show j + (q - 1 - i) = (j - i) + (q - 1) * 1 by omega, G.per R]
 rw [h] at e1; exact G.no (j - i) (by omega) (by omega) (e2.symm.trans e1)
theorem surj (G : Gn q M g) (R : CR q A M) {x : Nat} (h0 : 0 < x) (hx : x < q) : ∃ k, k < q - 1 /\ pw M g k = x := by
 obtain ⟨i, hi, he⟩ := Jha (n := q - 1) (f := fun k => pw M g k - 1) (fun i hi => by
  have := R.pw_lt g i; have := G.ne0 R i; show pw M g i - 1 < q - 1; omega) (fun i j hij hj he => by
  have h1 := G.ne0 R i; have h2 := G.ne0 R j; exact G.inj R hij hj (by omega)) (y := x - 1) (by omega)
 have := G.ne0 R i; exact ⟨i, hi, by omega⟩
open Classical in
noncomputable def lg (q : Nat) (M : Nat -> Nat -> Nat) (g x : Nat) : Nat := if h : ∃ k, k < q - 1 /\ pw M g k = x then Classical.choose h else 0
theorem xone (G : Gn q M g) (R : CR q A M) {x : Nat} (h0 : 0 < x) (hx : x < q) : pw M x (q - 1) = 1 := by
  obtain ⟨k, hk, rfl⟩ := G.surj R h0 hx
  rw [R.pw_pw G.lt, Nat.mul_comm, <- R.pw_pw G.lt, G.one, R.one_pw]
end Gn
end Go.Proofs.Ytiboieijhehjnaa
set_option linter.unusedVariables false
namespace Go.Proofs.Ytiboieijhehjnaa
structure IsLf (n d : Nat) : Prop where
  two : 2 <= d
  dvd : n % d = 0
  min : ∀ e, 2 <= e -> n % e = 0 -> d <= e
def Jpr : Nat -> Nat -> Nat
  | _, 0 => 1
  | 0, _ + 1 => 0
  | n + 1, k + 1 => Jpr n k + Jpr n (k + 1)
section
variable {q : Nat} {A M : Nat -> Nat -> Nat} (R : CR q A M)
include R
namespace CR
theorem Aac {a b c : Nat} (ha : a < q) (hb : b < q) (hc : c < q) : A (A a b) c = A (A a c) b := by
 rw [R.Aa ha hb hc, R.Ac b c, <- R.Aa ha hc hb]
theorem A4 {a b c d : Nat} (ha : a < q) (hb : b < q) (hc : c < q) (hd : d < q) : A (A a b) (A c d) = A (A a c) (A b d) := by
 rw [<- R.Aa (R.Al a b) hc hd, R.Aac ha hb hc, R.Aa (R.Al a c) hb hd]
end CR
end
end Go.Proofs.Ytiboieijhehjnaa
set_option linter.unusedVariables false
namespace Go.Proofs.Ytiboieijhehjnaa
def hz (m : Nat) (c b y : Vec) (n : Nat) : Nat -> Vec
  | 0 => vz
  | k + 1 => JX (tX m c (hz m c b y n k)) (vsm (b (n - 1 - k)) y)
theorem Jpe {m : Nat} {c b y : Vec} {n : Nat} : ∀ {k : Nat}, k <= n -> JX (tXn m c (n - k) (hz m c b y n k)) (opr m c b (n - k) y) = opr m c b n y
 | 0, _ => by simp only [hz, Nat.sub_zero]; rw [Jg8, z_vadd]
 | k + 1, h => by
  have ih := Jpe (m := m) (c := c) (b := b) (y := y) (n := n) (k := k) (by omega); obtain ⟨r, hr⟩ : ∃ r, n - k = r + 1 := ⟨n - k - 1, by omega⟩
  rw [show n - (k + 1) = r by omega]; rw [hr] at ih; rw [<- ih]; show JX (tXn m c r (JX (tX m c (hz m c b y n k)) (vsm (b (n - 1 - k)) y))) (opr m c b r y) = JX (tX m c (tXn m c r (hz m c b y n k))) (JX (opr m c b r y) (vsm (b r) (tXn m c r y))); rw [Ja2, Jby, Joe, show n - 1 - k = r by omega, Zf, Jet (vsm _ _)]
theorem hz_all (m : Nat) (c b y : Vec) (n : Nat) : hz m c b y n n = opr m c b n y := by
 have := Jpe (m := m) (c := c) (b := b) (y := y) (n := n) (k := n) (Nat.le_refl n); rw [Nat.sub_self] at this; rw [<- this]; exact (Jan _).symm
def dgl (p : Nat) : Nat -> Nat -> List Nat
  | 0, _ => []
  | n + 1, x => (x % p) :: dgl p n (x / p)
theorem QT (p : Nat) : ∀ n x, (dgl p n x).length = n
 | 0, _ => rfl
 | n + 1, x => by simp [dgl, QT p n]
theorem Jcb (p : Nat) : ∀ n x i, i < n -> (((dgl p n x).getD i 0 : Nat) : Int) = dv p x i
 | 0, _, i, h => by omega
 | n + 1, x, 0, _ => by rw [YQ]; rfl
 | n + 1, x, i + 1, h => by
  show (((dgl p n (x / p)).getD i 0 : Nat) : Int) = _; rw [Jcb p n (x / p) i (by omega), Zq]
@[reducible] noncomputable def hd0 (l : List Nat) : Nat := List.rec (motive := fun _ => Nat) 0 (fun x _ _ => x) l
@[reducible] noncomputable def tl0 (l : List Nat) : List Nat := List.rec (motive := fun _ => List Nat) [] (fun _ l _ => l) l
noncomputable def go (p a top : Nat) (cs : List Nat) : Nat -> List Nat -> List Nat -> List Nat :=
  List.rec (motive := fun _ => Nat -> List Nat -> List Nat -> List Nat) (fun _ _ _ => [])
    (fun c _ ih prev us ys => ((prev + (p - c) * top + a * hd0 ys) % p) :: ih (hd0 us) (tl0 us) (tl0 ys)) cs
noncomputable def tp (l : List Nat) : Nat -> Nat := List.rec (motive := fun _ => Nat -> Nat) (fun d => d) (fun x _ ih _ => ih x) l
noncomputable def Jjo (p : Nat) (cs ys gs : List Nat) : List Nat -> List Nat :=
  List.rec (motive := fun _ => List Nat -> List Nat) (fun acc => acc) (fun g _ ih acc => ih (go p g (tp acc 0) cs 0 acc ys)) gs
noncomputable def az (l : List Nat) : Bool := List.rec (motive := fun _ => Bool) true (fun x _ ih => bif Nat.beq x 0 then ih else false) l
noncomputable def is1 (l : List Nat) : Bool := List.rec (motive := fun _ => Bool) false (fun x t _ => bif Nat.beq x 1 then az t else false) l
noncomputable def run (p : Nat) (cs gs : List Nat) (n : Nat) : List Nat -> Bool :=
  Nat.rec (motive := fun _ => List Nat -> Bool) (fun y => is1 y) (fun _ ih y => bif is1 y then false else ih (Jjo p cs y gs y)) n
noncomputable def Jhc (p c : Nat) (al : List Nat) : List Nat -> List Nat :=
  List.rec (motive := fun _ => List Nat -> List Nat) (fun bs => bs) (fun a _ ih bs => ((hd0 bs + (p - a) * c) % p) :: ih (tl0 bs)) al
noncomputable def dvg (p : Nat) (low : List Nat) (k : Nat) : List Nat -> Bool :=
  Nat.rec (motive := fun _ => List Nat -> Bool) (fun r => az r) (fun _ ih r => ih (Jhc p (hd0 r) low (tl0 r))) k
noncomputable def nob (f : Nat -> Bool) (n : Nat) : Bool := Nat.rec (motive := fun _ => Bool) true (fun i ih => bif f i then false else ih) n
noncomputable def irrB (p m : Nat) (ml : List Nat) : Bool :=
  nob (fun d => !nob (fun w => dvg p (dgl p (d + 1) w).reverse (m - d) (1 :: ml.reverse)) (p ^ (d + 1))) (m / 2)
noncomputable def cand (p c : Nat) : List Nat := bif Nat.blt c p then [c] else bif Nat.blt c (p + p * p) then [(c - p) / p, (c - p) % p] else [(c - p - p * p) / (p * p), (c - p - p * p) / p % p, (c - p - p * p) % p]
noncomputable def gen1 (p m : Nat) (cs gs : List Nat) : Bool := run p cs gs (p ^ m - 2) (Jjo p cs (dgl p m 1) gs (dgl p m 1))
noncomputable def Jjx (p m : Nat) (cs : List Nat) : Bool := !nob (fun c => gen1 p m cs (cand p (p + p * p + p * p * p - 1 - c))) (p + p * p + p * p * p)
noncomputable def chk (p m lo n : Nat) : Bool := nob (fun v => bif irrB p m (dgl p m (lo + v)) then !Jjx p m (dgl p m (lo + v)) else false) n

theorem Jgb (l : List Nat) : hd0 l = l.getD 0 0 := by cases l <;> rfl
theorem Jds (l : List Nat) (i : Nat) : (tl0 l).getD i 0 = l.getD (i + 1) 0 := by cases l <;> rfl
theorem Jq6 (l : List Nat) : (tl0 l).length = l.length - 1 := by cases l <;> simp [tl0]
theorem Jgc (p a top c : Nat) (cs : List Nat) (prev : Nat) (us ys : List Nat) : go p a top (c :: cs) prev us ys = ((prev + (p - c) * top + a * hd0 ys) % p) :: go p a top cs (hd0 us) (tl0 us) (tl0 ys) := rfl
theorem Jpg (p a top : Nat) : ∀ (cs : List Nat) (prev : Nat) (us ys : List Nat), (go p a top cs prev us ys).length = cs.length
 | [], _, _, _ => rfl
 | c :: cs, prev, us, ys => by rw [Jgc, List.length_cons, Jpg p a top cs, List.length_cons]
theorem go_at (p a top : Nat) : ∀ (cs : List Nat) (prev : Nat) (us ys : List Nat) (i : Nat), i < cs.length -> (go p a top cs prev us ys).getD i 0 = ((if i = 0 then prev else us.getD (i - 1) 0) + (p - cs.getD i 0) * top + a * ys.getD i 0) % p
 | [], _, _, _, i, h => by simp at h
 | c :: cs, prev, us, ys, 0, _ => by rw [Jgc, Jgb]; rfl
 | c :: cs, prev, us, ys, i + 1, h => by
  rw [Jgc]; show (go p a top cs (hd0 us) (tl0 us) (tl0 ys)).getD i 0 = _; rw [go_at p a top cs _ _ _ i (by simpa using h)]; cases i with
  | zero => rw [if_pos rfl, if_neg (by omega), Jgb, Jds]; rfl
  | succ i => rw [if_neg (by omega), if_neg (by omega), Jds, Jds]; rfl
theorem tp_eq : ∀ (l : List Nat) (d : Nat), 0 < l.length -> tp l d = l.getD (l.length - 1) 0
 | [], _, h => by simp at h
 | [x], d, _ => rfl
 | x :: y :: l, d, _ => by
  show tp (y :: l) x = _; rw [tp_eq (y :: l) x (by simp)]; simp
def Rep (p m : Nat) (L : List Nat) (v : Vec) : Prop := L.length = m /\ ∀ i, i < m -> ((L.getD i 0 : Nat) : Int) = v i % (p : Int)
def hl (m : Nat) (c y : Vec) : List Nat -> Vec -> Vec
  | [], u => u
  | g :: gs, u => hl m c y gs (JX (tX m c u) (vsm g y))
theorem Rep.step {p m : Nat} {cs us ys : List Nat} {c u y : Vec} (hp : 0 < p) (hm : 0 < m) (hc : Rep p m cs c) (hu : Rep p m us u) (hy : Rep p m ys y) (g : Nat) :
  Rep p m (go p g (tp us 0) cs 0 us ys) (JX (tX m c u) (vsm g y)) := by
 refine ⟨by rw [Jpg, hc.1], fun i hi => ?_⟩; rw [go_at _ _ _ _ _ _ _ _ (by rw [hc.1]; exact hi), tp_eq _ _ (by rw [hu.1]; exact hm), hu.1]; have h1 := hu.2 (m - 1) (by omega); have h2 := hc.2 i hi; have h3 := hy.2 i hi; have hlt : cs.getD i 0 <= p := by
  have := Int.emod_lt_of_pos (c i) (show (0 : Int) < p by omega); omega
 have e : (((if i = 0 then 0 else us.getD (i - 1) 0) : Nat) : Int) % p = (if i = 0 then (0 : Int) else u (i - 1)) % p := by
  split
  .rfl
  .rw [hu.2 (i - 1) (by omega), Int.emod_emod]
 simp only [JX, vsm, tX, if_pos hi]; generalize (if i = 0 then 0 else us.getD (i - 1) 0 : Nat) = A at *
 generalize (if i = 0 then (0 : Int) else u (i - 1)) = B at *
 generalize us.getD (m - 1) 0 = T at *
 generalize cs.getD i 0 = C at *
 generalize ys.getD i 0 = Y at *
 have hT : ((T : Nat) : Int) % p = u (m - 1) % p := by rw [h1, Int.emod_emod]
 have hC : ((C : Nat) : Int) % p = c i % p := by rw [h2, Int.emod_emod]
 have hY : ((Y : Nat) : Int) % p = y i % p := by rw [h3, Int.emod_emod]
 obtain ⟨D, hD⟩ : ∃ D, p = C + D := ⟨p - C, by omega⟩
 have hsub : p - C = D := by omega
 rw [hsub]; have hcast : ((A + D * T + g * Y : Nat) : Int) = ((A : Int) - C * T + g * Y) + p * T := by
  have : (p : Int) = C + D := by omega
  rw [this]; push_cast; rw [Int.add_mul]; omega
 rw [Int.natCast_emod, hcast, Int.add_mul_emod_self_left]; exact Jcd (Ji4 e (Jb5 hC hT)) (Jb5 rfl hY)
theorem Jmr (p : Nat) (cs ys : List Nat) (g : Nat) (gs acc : List Nat) : Jjo p cs ys (g :: gs) acc = Jjo p cs ys gs (go p g (tp acc 0) cs 0 acc ys) := rfl
theorem Rep.mul {p m : Nat} {cs ys : List Nat} {c y : Vec} (hp : 0 < p) (hm : 0 < m) (hc : Rep p m cs c) (hy : Rep p m ys y) : ∀ {gs us : List Nat} {u : Vec}, Rep p m us u -> Rep p m (Jjo p cs ys gs us) (hl m c y gs u)
 | [], _, _, h => h
 | g :: gs, us, u, h => by rw [Jmr]; exact Rep.mul hp hm hc hy (Rep.step hp hm hc h hy g)
theorem Jjt {m : Nat} {c y : Vec} (hy : Sup m y) : ∀ {gs : List Nat} {u : Vec}, Sup m u -> Sup m (hl m c y gs u)
 | [], _, h => h
 | g :: gs, u, h => Jjt (gs := gs) (u := JX (tX m c u) (vsm g y)) hy (Sup.add Sup.tX hy.sm)
theorem Jpf {m : Nat} {c y : Vec} (hy : Sup m y) : ∀ {gs : List Nat} {U : Vec}, hl m c y gs (opr m c y m U) = opr m c y m (hl m c e0 gs U)
  | [], _ => rfl
  | g :: gs, U => by
    show hl m c y gs (JX (tX m c (opr m c y m U)) (vsm g y)) = opr m c y m (hl m c e0 gs (JX (tX m c U) (vsm g e0)))
    rw [<- Jpf hy, Jla, Jjc, Y0 hy]
    have := Jk9 m c y m 1 U
    rw [show tXn m c 1 U = tX m c U from rfl, show tXn m c 1 (opr m c y m U) = tX m c (opr m c y m U) from rfl] at this
    rw [this]
theorem Jgg {m : Nat} (hm : 0 < m) : Sup m e0 := fun i hi => by simp [e0, show i ≠ 0 by omega]
theorem hl_mul {m : Nat} {c y : Vec} (hm : 0 < m) (hy : Sup m y) (gs : List Nat) : hl m c y gs y = Yi m c y (hl m c e0 gs e0) := by
 rw [ZV hy (Jjt (Jgg hm) (Jgg hm))]; show _ = opr m c y m (hl m c e0 gs e0); rw [<- Jpf hy, Y0 hy]
theorem Jqv {p m x : Nat} : Rep p m (dgl p m x) (dv p x) := ⟨QT p m x, fun i hi => by rw [Jcb p m x i hi, Jar]⟩
theorem Rep.cg {p m : Nat} {L : List Nat} {u v : Vec} (h : Rep p m L u) (hv : ∀ i, i < m -> u i % (p : Int) = v i % (p : Int)) : Rep p m L v := ⟨h.1, fun i hi => by rw [h.2 i hi, hv i hi]⟩
theorem Jr2 (x : Nat) (l : List Nat) : az (x :: l) = bif Nat.beq x 0 then az l else false := rfl
theorem Jgo : ∀ l : List Nat, az l = true ↔ ∀ i, i < l.length -> l.getD i 0 = 0
 | [] => ⟨fun _ i h => by simp at h, fun _ => rfl⟩
 | x :: l => by
  rw [Jr2]; cases hx : Nat.beq x 0 with
  | true =>
   have := Nat.eq_of_beq_eq_true hx; subst this; rw [show (bif true then az l else false) = az l from rfl, Jgo l]; constructor
   .intro h i hi; cases i with
    | zero => rfl
    | succ i => exact h i (by simpa using hi)
   .intro h i hi; exact h (i + 1) (by simpa using hi)
  | false =>
   rw [show (bif false then az l else false) = false from rfl]; constructor
   .intro h; cases h
   .intro h; have := h 0 (by simp); simp only [List.getD_cons_zero] at this; subst this; cases hx
theorem Jlj {p m x : Nat} {L : List Nat} (hp : 2 <= p) (hm : 0 < m) (hx : x < p ^ m) (h : Rep p m L (Go.Proofs.Ytiboieijhehjnaa.dv p x)) : is1 L = true ↔ x = 1 := by
 obtain ⟨a, l, rfl⟩ : ∃ a l, L = a :: l := by
  cases L with
  | nil => have := h.1; simp at this; omega
  | cons a l => exact ⟨a, l, rfl⟩
 have hlen : l.length + 1 = m := h.1; have h0 := h.2 0 hm; have e : is1 (a :: l) = bif Nat.beq a 1 then az l else false := rfl; rw [e]; constructor
 .intro hb; cases ha : Nat.beq a 1 with
  | false => rw [ha] at hb; cases hb
  | true =>
   rw [ha] at hb; have hz := (Jgo l).1 hb; have ha1 := Nat.eq_of_beq_eq_true ha; subst ha1; rw [<- Jam (p := p) (m := m) (by omega) hx, <- Jam (p := p) (m := m) (x := 1) (by omega) (Nat.one_lt_pow (by omega) (by omega))]; refine Jo6 fun i hi => ?_; rw [Jgh hp, Jar, <- Jar, <- h.2 i hi]; cases i with
   | zero =>
    show (1 : Int) = e0 0 % p; simp only [e0, if_pos]; exact (Int.emod_eq_of_lt (by omega) (by omega)).symm
   | succ i =>
    show ((l.getD i 0 : Nat) : Int) = e0 (i + 1) % p; rw [hz i (by omega)]; simp [e0]
 .intro hx1; subst hx1; have ha : a = 1 := by
   have : ((a : Nat) : Int) = Go.Proofs.Ytiboieijhehjnaa.dv p 1 0 % p := h0; rw [Jar, Jgh hp] at this; simp [e0] at this; omega
  subst ha; show az l = true; refine (Jgo l).2 fun i hi => ?_; have : ((l.getD i 0 : Nat) : Int) = Go.Proofs.Ytiboieijhehjnaa.dv p 1 (i + 1) % p := h.2 (i + 1) (by omega); rw [Jar, Jgh hp] at this; simp only [e0] at this; rw [if_neg (by omega)] at this; exact Int.ofNat_eq_zero.1 this
def gel (p m : Nat) (c : Vec) (gs : List Nat) : Nat := nm p m (hl m c e0 gs e0)
theorem Jiu {p m x : Nat} {cs L gs : List Nat} {c : Vec} (hp : 2 <= p) (hm : 0 < m) (hx : x < p ^ m) (hc : Rep p m cs c) (h : Rep p m L (Go.Proofs.Ytiboieijhehjnaa.dv p x)) : Rep p m (Jjo p cs L gs L) (Go.Proofs.Ytiboieijhehjnaa.dv p (Jw p m c x (gel p m c gs))) := by
 have h1 := Rep.mul (gs := gs) (by omega) hm hc h h; rw [hl_mul hm (Yb hx)] at h1; refine h1.cg fun i hi => ?_; have hs := Jjt (c := c) (gs := gs) (Jgg hm) (Jgg hm); have e1 := Jbi (p := p) (m := m) (c := c) (by omega) hx (y := gel p m c gs); have e2 := vcg.mul (m := m) (vcg.refl (p := p) c) (vcg.refl (Go.Proofs.Ytiboieijhehjnaa.dv p x)) (Jig (p := p) (m := m) (by omega) hs); exact ((e1.trans e2) i).symm
theorem Joo (p : Nat) (cs gs : List Nat) (n : Nat) (y : List Nat) : run p cs gs (n + 1) y = bif is1 y then false else run p cs gs n (Jjo p cs y gs y) := rfl
theorem Jop {p m : Nat} {cs gs : List Nat} {c : Vec} (hp : 2 <= p) (hm : 0 < m) (hc : Rep p m cs c) : ∀ {n : Nat} {L : List Nat} {x : Nat}, x < p ^ m -> Rep p m L (Go.Proofs.Ytiboieijhehjnaa.dv p x) -> run p cs gs n L = true ->
  (∀ k, k < n -> Jw p m c x (pw (Jw p m c) (gel p m c gs) k) ≠ 1) /\ Jw p m c x (pw (Jw p m c) (gel p m c gs) n) = 1
 | 0, L, x, hx, h, hr => by
  refine ⟨fun k hk => by omega, ?_⟩; show Jw p m c x 1 = 1; rw [Jd6 hp hm hx]; exact (Jlj hp hm hx h).1 hr
 | n + 1, L, x, hx, h, hr => by
  rw [Joo] at hr; cases h1 : is1 L with
  | true => rw [h1] at hr; cases hr
  | false =>
   rw [h1] at hr; have R := Jkr (p := p) (m := m) c hp hm; have hg : gel p m c gs < p ^ m := Jal (by omega) _; have ih := Jop hp hm hc (Jge (by omega) x _) (Jiu (gs := gs) hp hm hx hc h) hr; have e : ∀ k, Jw p m c (Jw p m c x (gel p m c gs)) (pw (Jw p m c) (gel p m c gs) k) = Jw p m c x (pw (Jw p m c) (gel p m c gs) (k + 1)) := fun k => by
    rw [R.Ma hx hg (R.pw_lt _ k), R.Mc hg (R.pw_lt _ k)]; rfl
   refine ⟨fun k hk => ?_, by rw [<- e]; exact ih.2⟩; cases k with
   | zero =>
    show Jw p m c x 1 ≠ 1; rw [Jd6 hp hm hx]; intro hx1; rw [(Jlj hp hm hx h).2 hx1] at h1; cases h1
   | succ k => rw [<- e]; exact ih.1 k (by omega)
theorem Jrw {p m : Nat} {cs gs : List Nat} {c : Vec} (hp : 2 <= p) (hm : 0 < m) (hc : Rep p m cs c) (h : gen1 p m cs gs = true) : Gn (p ^ m) (Jw p m c) (gel p m c gs) := by
 have R := Jkr (p := p) (m := m) c hp hm; have hg : gel p m c gs < p ^ m := Jal (by omega) _; have h1 := Jiu (gs := gs) hp hm R.one_lt hc Jqv; rw [R.I1 hg] at h1; obtain ⟨h2, h3⟩ := Jop hp hm hc hg h1 h; have hq := R.q2; have e : ∀ k, Jw p m c (gel p m c gs) (pw (Jw p m c) (gel p m c gs) k) = pw (Jw p m c) (gel p m c gs) (k + 1) := fun k => R.Mc hg (R.pw_lt _ k); refine ⟨hg, ?_, fun k h0 hk => ?_⟩
 .rw [show p ^ m - 1 = (p ^ m - 2) + 1 by omega, <- e]; exact h3
 .rw [show k = (k - 1) + 1 by omega, <- e]; exact h2 (k - 1) (by omega)
theorem Jo5 (f : Nat -> Bool) (n : Nat) : nob f (n + 1) = bif f n then false else nob f n := rfl
theorem Z3 (f : Nat -> Bool) : ∀ n, nob f n = true ↔ ∀ i, i < n -> f i = false
 | 0 => ⟨fun _ i h => by omega, fun _ => rfl⟩
 | n + 1 => by
  rw [Jo5]; cases h : f n with
  | true =>
   refine ⟨fun h' => ?_, fun h' => ?_⟩
   .cases h'
   .rw [h' n (by omega)] at h; cases h
  | false =>
   show nob f n = true ↔ _; rw [Z3 f n]; refine ⟨fun h' i hi => ?_, fun h' i hi => h' i (by omega)⟩; rcases Nat.lt_or_ge i n with h1 | h1
   .exact h' i h1
   .rw [show i = n by omega]; exact h
theorem Jmp (f : Nat -> Bool) (n : Nat) (h : nob f n = false) : ∃ i, i < n /\ f i = true := by
 have hn : ¬ ∀ i, i < n -> f i = false := fun h' => by rw [(Z3 f n).2 h'] at h; cases h
 have := Classical.not_forall.1 hn; obtain ⟨i, hi⟩ := this; have h2 := Classical.not_imp.1 hi; exact ⟨i, h2.1, by cases hf : f i with | true => rfl | false => exact absurd hf h2.2⟩
theorem Jlm {p m : Nat} {cs : List Nat} {c : Vec} (hp : 2 <= p) (hm : 0 < m) (hc : Rep p m cs c) (h : Jjx p m cs = true) : ∃ g, Gn (p ^ m) (Jw p m c) g := by
 unfold Jjx at h; obtain ⟨i, _, hi⟩ := Jmp _ _ (by simpa using h); exact ⟨_, Jrw hp hm hc hi⟩
def rst (p d i : Nat) (l R : Vec) : Vec := fun j => if i <= j + d /\ j < i then (R j - l (j + d - i) * R i) % (p : Int) else R j
def rem (p d : Nat) (l R : Vec) (n : Nat) : Nat -> Vec
  | 0 => R
  | k + 1 => rst p d (n - 1 - k) l (rem p d l R n k)
def Dvd (p d : Nat) (l R : Vec) (n : Nat) : Prop := ∀ j, j < d -> rem p d l R n (n - d) j = 0
def Irr (p m : Nat) (c : Vec) : Prop := ∀ d, 0 < d -> 2 * d <= m -> ∀ w, w < p ^ d -> ¬ Dvd p d (dv p w) (fun i => if i = m then 1 else c i) (m + 1)
theorem Jbz (p c a : Nat) (al bs : List Nat) : Jhc p c (a :: al) bs = ((hd0 bs + (p - a) * c) % p) :: Jhc p c al (tl0 bs) := rfl
theorem Jhb (p c : Nat) : ∀ al bs : List Nat, al.length <= bs.length -> (Jhc p c al bs).length = bs.length
 | [], _, _ => rfl
 | a :: al, [], h => by simp at h
 | a :: al, b :: bs, h => by
  rw [Jbz, List.length_cons]; show (Jhc p c al bs).length + 1 = _; rw [Jhb p c al bs (by simpa using h)]; rfl
theorem Jk2 (p c : Nat) : ∀ (al bs : List Nat) (t : Nat), (Jhc p c al bs).getD t 0 = if t < al.length then (bs.getD t 0 + (p - al.getD t 0) * c) % p else bs.getD t 0
 | [], bs, t => by simp; rfl
 | a :: al, bs, 0 => by rw [Jbz, Jgb]; simp
 | a :: al, bs, t + 1 => by
  rw [Jbz]; show (Jhc p c al (tl0 bs)).getD t 0 = _; rw [Jk2 p c al (tl0 bs) t, Jds]; simp
theorem Jpo (p : Nat) (low : List Nat) (k : Nat) (r : List Nat) : dvg p low (k + 1) r = dvg p low k (Jhc p (hd0 r) low (tl0 r)) := rfl
theorem Jpp {p d n : Nat} {l R : Vec} {low : List Nat} (hp : 0 < p) (hl : low.length = d) (hlow : ∀ t, t < d -> ((low.getD t 0 : Nat) : Int) = l (d - 1 - t)) (hlp : ∀ t, t < d -> low.getD t 0 <= p) : ∀ (s k : Nat) (r : List Nat), s + k + d = n -> r.length = n - k ->
  (∀ t, t < n - k -> ((r.getD t 0 : Nat) : Int) = rem p d l R n k (n - 1 - k - t)) -> (dvg p low s r = true ↔ Dvd p d l R n)
 | 0, k, r, hs, hr, hv => by
  have : n - k = d := by omega
  rw [this] at hr hv; show az r = true ↔ _; rw [Jgo, hr]; have hk : n - d = k := by omega
  unfold Dvd; rw [hk]; constructor
  .intro h j hj; have := hv (d - 1 - j) (by omega); rw [h (d - 1 - j) (by omega), show n - 1 - k - (d - 1 - j) = j by omega] at this; exact this.symm
  .intro h t ht; have := hv t ht; rw [h (n - 1 - k - t) (by omega)] at this; exact Int.ofNat_eq_zero.1 this
 | s + 1, k, r, hs, hr, hv => by
  rw [Jpo]; have htl : (tl0 r).length = n - (k + 1) := by rw [Jq6, hr]; omega
  refine Jpp hp hl hlow hlp s (k + 1) _ (by omega) (by rw [Jhb _ _ _ _ (by rw [htl, hl]; omega), htl]) fun t ht => ?_; rw [Jk2, hl, Jds, Jgb]; have h0 := hv 0 (by omega); rw [Nat.sub_zero] at h0; have h1 := hv (t + 1) (by omega); rw [show n - 1 - k - (t + 1) = n - 1 - (k + 1) - t by omega] at h1; show _ = rst p d (n - 1 - k) l (rem p d l R n k) (n - 1 - (k + 1) - t); unfold rst; by_cases htd : t < d
  .rw [if_pos htd, if_pos (by omega)]; have h2 := hlow t htd; have h3 := hlp t htd; rw [show n - 1 - (k + 1) - t + d - (n - 1 - k) = d - 1 - t by omega, <- h0, <- h1, <- h2]; generalize r.getD (t + 1) 0 = X at *
   generalize low.getD t 0 = Y at *
   generalize r.getD 0 0 = Z at *
   obtain ⟨D, hD⟩ : ∃ D, p = Y + D := ⟨p - Y, by omega⟩
   rw [show p - Y = D by omega, Int.natCast_emod]; have hcast : ((X + D * Z : Nat) : Int) = ((X : Int) - Y * Z) + p * Z := by
    have : (p : Int) = Y + D := by omega
    rw [this]; push_cast; rw [Int.add_mul]; omega
   rw [hcast, Int.add_mul_emod_self_left]
  .rw [if_neg htd, if_neg (by omega)]; exact h1
theorem Jd5 (l : List Nat) (t : Nat) (h : t < l.length) : l.reverse.getD t 0 = l.getD (l.length - 1 - t) 0 := by
 rw [List.getD_eq_getElem?_getD, List.getD_eq_getElem?_getD, List.getElem?_reverse h]
theorem Jfb {p : Nat} (hp : 0 < p) (x i : Nat) : 0 <= dv p x i /\ dv p x i < p := Jfc hp x (i + 1) i (by omega)
theorem Jpc {p m v : Nat} (hp : 0 < p) (hv : v < p ^ m) : irrB p m (dgl p m v) = true ↔ Irr p m (dv p v) := by
 have key : ∀ d w, 0 < d -> 2 * d <= m -> (dvg p (dgl p d w).reverse (m + 1 - d) (1 :: (dgl p m v).reverse) = true ↔ Dvd p d (dv p w) (fun i => if i = m then 1 else dv p v i) (m + 1)) := fun d w hd h2 => by
  refine Jpp hp (by rw [List.length_reverse, QT]) (fun t ht => ?_) (fun t ht => ?_) (m + 1 - d) 0 _ (by omega) (by simp [QT]) fun t ht => ?_
  .rw [Jd5 _ _ (by rw [QT]; exact ht), QT, Jcb _ _ _ _ (by omega)]
  .rw [Jd5 _ _ (by rw [QT]; exact ht), QT]; have := Jcb p d w (d - 1 - t) (by omega); have := Jfb hp w (d - 1 - t); omega
  .show _ = if m + 1 - 1 - 0 - t = m then (1 : Int) else dv p v (m + 1 - 1 - 0 - t)
   cases t with
   | zero => rw [if_pos (by omega)]; rfl
   | succ t =>
    rw [if_neg (by omega)]; show (((dgl p m v).reverse.getD t 0 : Nat) : Int) = _; rw [Jd5 _ _ (by rw [QT]; omega), QT, Jcb _ _ _ _ (by omega), show m + 1 - 1 - 0 - (t + 1) = m - 1 - t by omega]
 unfold irrB; rw [Z3]; constructor
 .intro h d hd h2 w hw hD; have h3 := h (d - 1) (by omega); have h4 := (Z3 _ _).1 (by simpa using h3) w (by rw [show d - 1 + 1 = d by omega]; exact hw); rw [show d - 1 + 1 = d by omega, show m - (d - 1) = m + 1 - d by omega, (key d w hd h2).2 hD] at h4; cases h4
 .intro h d hd; have : nob (fun w => dvg p (dgl p (d + 1) w).reverse (m - d) (1 :: (dgl p m v).reverse)) (p ^ (d + 1)) = true := (Z3 _ _).2 fun w hw => by
   cases hb : dvg p (dgl p (d + 1) w).reverse (m - d) (1 :: (dgl p m v).reverse) with
   | false => rfl
   | true =>
    rw [show m - d = m + 1 - (d + 1) by omega] at hb; exact absurd ((key (d + 1) w (by omega) (by omega)).1 hb) (h (d + 1) (by omega) (by omega) w hw)
  rw [this]; rfl
theorem JS {p m lo n v : Nat} (hp : 2 <= p) (hm : 0 < m) (h : chk p m lo n = true) (h1 : lo <= v) (h2 : v < lo + n) (hv : v < p ^ m) (hi : Irr p m (dv p v)) : ∃ g, Gn (p ^ m) (Jw p m (dv p v)) g := by
 have h3 := (Z3 _ _).1 h (v - lo) (by omega); simp only [show lo + (v - lo) = v by omega, (Jpc (by omega) hv).2 hi, cond_true] at h3; exact Jlm hp hm Jqv (by simpa using h3)
end Go.Proofs.Ytiboieijhehjnaa
set_option linter.unusedVariables false
namespace Go.Proofs.Ytiboieijhehjnaa
theorem Jnc : chk 2 2 0 4 = true := by decide +kernel
theorem Jnb : chk 2 3 0 8 = true := by decide +kernel
theorem Jna : chk 2 4 0 16 = true := by decide +kernel
theorem Jm9 : chk 2 5 0 32 = true := by decide +kernel
theorem Jm8 : chk 2 6 0 64 = true := by decide +kernel
theorem Jm7 : chk 2 7 0 64 = true := by decide +kernel
theorem Jke : chk 2 7 64 64 = true := by decide +kernel
theorem Jm6 : chk 2 8 0 24 = true := by decide +kernel
theorem Jkd : chk 2 8 24 24 = true := by decide +kernel
theorem Jkc : chk 2 8 48 24 = true := by decide +kernel
theorem Jkb : chk 2 8 72 24 = true := by decide +kernel
theorem Jka : chk 2 8 96 24 = true := by decide +kernel
theorem Jid : chk 2 8 120 24 = true := by decide +kernel
theorem Jic : chk 2 8 144 24 = true := by decide +kernel
theorem Jib : chk 2 8 168 24 = true := by decide +kernel
theorem Jia : chk 2 8 192 24 = true := by decide +kernel
theorem Jh9 : chk 2 8 216 24 = true := by decide +kernel
theorem Jh8 : chk 2 8 240 16 = true := by decide +kernel
theorem Jm5 : chk 3 2 0 9 = true := by decide +kernel
theorem Jm4 : chk 3 3 0 27 = true := by decide +kernel
theorem Jm3 : chk 3 4 0 64 = true := by decide +kernel
theorem Jj9 : chk 3 4 64 17 = true := by decide +kernel
theorem Jm2 : chk 3 5 0 24 = true := by decide +kernel
theorem Jj8 : chk 3 5 24 24 = true := by decide +kernel
theorem Jj7 : chk 3 5 48 24 = true := by decide +kernel
theorem Jj6 : chk 3 5 72 24 = true := by decide +kernel
theorem Jj5 : chk 3 5 96 24 = true := by decide +kernel
theorem Jh7 : chk 3 5 120 24 = true := by decide +kernel
theorem Jh6 : chk 3 5 144 24 = true := by decide +kernel
theorem Jh5 : chk 3 5 168 24 = true := by decide +kernel
theorem Jh4 : chk 3 5 192 24 = true := by decide +kernel
theorem Jh3 : chk 3 5 216 24 = true := by decide +kernel
theorem Jh2 : chk 3 5 240 3 = true := by decide +kernel
theorem Jm1 : chk 5 2 0 25 = true := by decide +kernel
theorem Jm0 : chk 5 3 0 64 = true := by decide +kernel
theorem Jj4 : chk 5 3 64 61 = true := by decide +kernel
theorem Jmz : chk 7 2 0 49 = true := by decide +kernel
theorem Jkg : chk 11 2 0 64 = true := by decide +kernel
theorem Jif : chk 11 2 64 57 = true := by decide +kernel
theorem Jkf : chk 13 2 0 64 = true := by decide +kernel
theorem Jie : chk 13 2 64 64 = true := by decide +kernel
theorem Jgj : chk 13 2 128 41 = true := by decide +kernel
theorem chk1_0 : ([2, 3, 5, 7, 11, 13, 17, 19, 23, 29, 31, 37, 41, 43, 47, 53, 59, 61] : List Nat).all (fun p => Jjx p 1 [0]) = true := by decide +kernel
theorem chk1_1 : ([67, 71, 73, 79, 83, 89, 97, 101, 103, 107, 109, 113, 127, 131, 137, 139, 149, 151] : List Nat).all (fun p => Jjx p 1 [0]) = true := by decide +kernel
theorem chk1_2 : ([157, 163, 167, 173, 179, 181, 191, 193, 197, 199, 211, 223, 227, 229, 233, 239, 241, 251] : List Nat).all (fun p => Jjx p 1 [0]) = true := by decide +kernel
theorem gx_2_2 {v : Nat} (hv : v < 2 ^ 2) (hI : Irr 2 2 (dv 2 v)) : ∃ g, Gn (2 ^ 2) (Jw 2 2 (dv 2 v)) g := by
 have hv2 : v < 4 := hv; exact JS (by decide) (by decide) Jnc (by omega) (by omega) hv hI
theorem gx_2_3 {v : Nat} (hv : v < 2 ^ 3) (hI : Irr 2 3 (dv 2 v)) : ∃ g, Gn (2 ^ 3) (Jw 2 3 (dv 2 v)) g := by
 have hv2 : v < 8 := hv; exact JS (by decide) (by decide) Jnb (by omega) (by omega) hv hI
theorem gx_2_4 {v : Nat} (hv : v < 2 ^ 4) (hI : Irr 2 4 (dv 2 v)) : ∃ g, Gn (2 ^ 4) (Jw 2 4 (dv 2 v)) g := by
 have hv2 : v < 16 := hv; exact JS (by decide) (by decide) Jna (by omega) (by omega) hv hI
theorem gx_2_5 {v : Nat} (hv : v < 2 ^ 5) (hI : Irr 2 5 (dv 2 v)) : ∃ g, Gn (2 ^ 5) (Jw 2 5 (dv 2 v)) g := by
 have hv2 : v < 32 := hv; exact JS (by decide) (by decide) Jm9 (by omega) (by omega) hv hI
theorem gx_2_6 {v : Nat} (hv : v < 2 ^ 6) (hI : Irr 2 6 (dv 2 v)) : ∃ g, Gn (2 ^ 6) (Jw 2 6 (dv 2 v)) g := by
 have hv2 : v < 64 := hv; exact JS (by decide) (by decide) Jm8 (by omega) (by omega) hv hI
theorem gx_2_7 {v : Nat} (hv : v < 2 ^ 7) (hI : Irr 2 7 (dv 2 v)) : ∃ g, Gn (2 ^ 7) (Jw 2 7 (dv 2 v)) g := by
 have hv2 : v < 128 := hv; rcases Nat.lt_or_ge v 64 with h | h
 .exact JS (by decide) (by decide) Jm7 (by omega) (by omega) hv hI
 exact JS (by decide) (by decide) Jke (by omega) (by omega) hv hI
theorem gx_2_8 {v : Nat} (hv : v < 2 ^ 8) (hI : Irr 2 8 (dv 2 v)) : ∃ g, Gn (2 ^ 8) (Jw 2 8 (dv 2 v)) g := by
 have hv2 : v < 256 := hv; rcases Nat.lt_or_ge v 24 with h | h
 .exact JS (by decide) (by decide) Jm6 (by omega) (by omega) hv hI
 rcases Nat.lt_or_ge v 48 with h | h
 .exact JS (by decide) (by decide) Jkd (by omega) (by omega) hv hI
 rcases Nat.lt_or_ge v 72 with h | h
 .exact JS (by decide) (by decide) Jkc (by omega) (by omega) hv hI
 rcases Nat.lt_or_ge v 96 with h | h
 .exact JS (by decide) (by decide) Jkb (by omega) (by omega) hv hI
 rcases Nat.lt_or_ge v 120 with h | h
 .exact JS (by decide) (by decide) Jka (by omega) (by omega) hv hI
 rcases Nat.lt_or_ge v 144 with h | h
 .exact JS (by decide) (by decide) Jid (by omega) (by omega) hv hI
 rcases Nat.lt_or_ge v 168 with h | h
 .exact JS (by decide) (by decide) Jic (by omega) (by omega) hv hI
 rcases Nat.lt_or_ge v 192 with h | h
 .exact JS (by decide) (by decide) Jib (by omega) (by omega) hv hI
 rcases Nat.lt_or_ge v 216 with h | h
 .exact JS (by decide) (by decide) Jia (by omega) (by omega) hv hI
 rcases Nat.lt_or_ge v 240 with h | h
 .exact JS (by decide) (by decide) Jh9 (by omega) (by omega) hv hI
 exact JS (by decide) (by decide) Jh8 (by omega) (by omega) hv hI
theorem gx_3_2 {v : Nat} (hv : v < 3 ^ 2) (hI : Irr 3 2 (dv 3 v)) : ∃ g, Gn (3 ^ 2) (Jw 3 2 (dv 3 v)) g := by
 have hv2 : v < 9 := hv; exact JS (by decide) (by decide) Jm5 (by omega) (by omega) hv hI
theorem gx_3_3 {v : Nat} (hv : v < 3 ^ 3) (hI : Irr 3 3 (dv 3 v)) : ∃ g, Gn (3 ^ 3) (Jw 3 3 (dv 3 v)) g := by
 have hv2 : v < 27 := hv; exact JS (by decide) (by decide) Jm4 (by omega) (by omega) hv hI
theorem gx_3_4 {v : Nat} (hv : v < 3 ^ 4) (hI : Irr 3 4 (dv 3 v)) : ∃ g, Gn (3 ^ 4) (Jw 3 4 (dv 3 v)) g := by
 have hv2 : v < 81 := hv; rcases Nat.lt_or_ge v 64 with h | h
 .exact JS (by decide) (by decide) Jm3 (by omega) (by omega) hv hI
 exact JS (by decide) (by decide) Jj9 (by omega) (by omega) hv hI
theorem gx_3_5 {v : Nat} (hv : v < 3 ^ 5) (hI : Irr 3 5 (dv 3 v)) : ∃ g, Gn (3 ^ 5) (Jw 3 5 (dv 3 v)) g := by
 have hv2 : v < 243 := hv; rcases Nat.lt_or_ge v 24 with h | h
 .exact JS (by decide) (by decide) Jm2 (by omega) (by omega) hv hI
 rcases Nat.lt_or_ge v 48 with h | h
 .exact JS (by decide) (by decide) Jj8 (by omega) (by omega) hv hI
 rcases Nat.lt_or_ge v 72 with h | h
 .exact JS (by decide) (by decide) Jj7 (by omega) (by omega) hv hI
 rcases Nat.lt_or_ge v 96 with h | h
 .exact JS (by decide) (by decide) Jj6 (by omega) (by omega) hv hI
 rcases Nat.lt_or_ge v 120 with h | h
 .exact JS (by decide) (by decide) Jj5 (by omega) (by omega) hv hI
 rcases Nat.lt_or_ge v 144 with h | h
 .exact JS (by decide) (by decide) Jh7 (by omega) (by omega) hv hI
 rcases Nat.lt_or_ge v 168 with h | h
 .exact JS (by decide) (by decide) Jh6 (by omega) (by omega) hv hI
 rcases Nat.lt_or_ge v 192 with h | h
 .exact JS (by decide) (by decide) Jh5 (by omega) (by omega) hv hI
 rcases Nat.lt_or_ge v 216 with h | h
 .exact JS (by decide) (by decide) Jh4 (by omega) (by omega) hv hI
 rcases Nat.lt_or_ge v 240 with h | h
 .exact JS (by decide) (by decide) Jh3 (by omega) (by omega) hv hI
 exact JS (by decide) (by decide) Jh2 (by omega) (by omega) hv hI
theorem gx_5_2 {v : Nat} (hv : v < 5 ^ 2) (hI : Irr 5 2 (dv 5 v)) : ∃ g, Gn (5 ^ 2) (Jw 5 2 (dv 5 v)) g := by
 have hv2 : v < 25 := hv; exact JS (by decide) (by decide) Jm1 (by omega) (by omega) hv hI
theorem gx_5_3 {v : Nat} (hv : v < 5 ^ 3) (hI : Irr 5 3 (dv 5 v)) : ∃ g, Gn (5 ^ 3) (Jw 5 3 (dv 5 v)) g := by
 have hv2 : v < 125 := hv; rcases Nat.lt_or_ge v 64 with h | h
 .exact JS (by decide) (by decide) Jm0 (by omega) (by omega) hv hI
 exact JS (by decide) (by decide) Jj4 (by omega) (by omega) hv hI
theorem gx_7_2 {v : Nat} (hv : v < 7 ^ 2) (hI : Irr 7 2 (dv 7 v)) : ∃ g, Gn (7 ^ 2) (Jw 7 2 (dv 7 v)) g := by
 have hv2 : v < 49 := hv; exact JS (by decide) (by decide) Jmz (by omega) (by omega) hv hI
theorem Jrv {v : Nat} (hv : v < 11 ^ 2) (hI : Irr 11 2 (dv 11 v)) : ∃ g, Gn (11 ^ 2) (Jw 11 2 (dv 11 v)) g := by
 have hv2 : v < 121 := hv; rcases Nat.lt_or_ge v 64 with h | h
 .exact JS (by decide) (by decide) Jkg (by omega) (by omega) hv hI
 exact JS (by decide) (by decide) Jif (by omega) (by omega) hv hI
theorem Jru {v : Nat} (hv : v < 13 ^ 2) (hI : Irr 13 2 (dv 13 v)) : ∃ g, Gn (13 ^ 2) (Jw 13 2 (dv 13 v)) g := by
 have hv2 : v < 169 := hv; rcases Nat.lt_or_ge v 64 with h | h
 .exact JS (by decide) (by decide) Jkf (by omega) (by omega) hv hI
 rcases Nat.lt_or_ge v 128 with h | h
 .exact JS (by decide) (by decide) Jie (by omega) (by omega) hv hI
 exact JS (by decide) (by decide) Jgj (by omega) (by omega) hv hI
noncomputable def prL : List Nat := [2, 3, 5, 7, 11, 13, 17, 19, 23, 29, 31, 37, 41, 43, 47, 53, 59, 61, 67, 71, 73, 79, 83, 89, 97, 101, 103, 107, 109, 113, 127, 131, 137, 139, 149, 151, 157, 163, 167, 173, 179, 181, 191, 193, 197, 199, 211, 223, 227, 229, 233, 239, 241, 251]
theorem Jrb : (List.range 257).all (fun p => prL.contains p || Nat.blt p 2 || (List.range p).any (fun e => Nat.ble 2 e && Nat.beq (p % e) 0)) = true := by decide +kernel
theorem Jra {p : Nat} (hp : IsLf p p) (h : p <= 256) : p ∈ prL := by
 have h1 := List.all_eq_true.1 Jrb p (List.mem_range.2 (by omega)); simp only [Bool.or_eq_true, List.contains_iff_mem, List.any_eq_true, List.mem_range, Bool.and_eq_true] at h1; rcases h1 with (h1 | h1) | ⟨e, he, h2, h3⟩
 .exact h1
 .have := hp.two; have := Nat.le_of_ble_eq_true h1; omega
 .have := hp.min e (Nat.le_of_ble_eq_true h2) (Nat.eq_of_beq_eq_true h3); omega
theorem gx_1 {p : Nat} (hp : IsLf p p) (h : p <= 256) : ∃ g, Gn (p ^ 1) (Jw p 1 (dv p 0)) g := by
 have hm := Jra hp h; have hg : Jjx p 1 [0] = true := by
  unfold prL at hm; rw [show ([2, 3, 5, 7, 11, 13, 17, 19, 23, 29, 31, 37, 41, 43, 47, 53, 59, 61, 67, 71, 73, 79, 83, 89, 97, 101, 103, 107, 109, 113, 127, 131, 137, 139, 149, 151, 157, 163, 167, 173, 179, 181, 191, 193, 197, 199, 211, 223, 227, 229, 233, 239, 241, 251] : List Nat) = ([2, 3, 5, 7, 11, 13, 17, 19, 23, 29, 31, 37, 41, 43, 47, 53, 59, 61] : List Nat) ++ ([67, 71, 73, 79, 83, 89, 97, 101, 103, 107, 109, 113, 127, 131, 137, 139, 149, 151] : List Nat) ++ ([157, 163, 167, 173, 179, 181, 191, 193, 197, 199, 211, 223, 227, 229, 233, 239, 241, 251] : List Nat) from rfl] at hm; simp only [List.mem_append] at hm; rcases hm with (h | h) | h
  .exact List.all_eq_true.1 chk1_0 p h
  .exact List.all_eq_true.1 chk1_1 p h
  .exact List.all_eq_true.1 chk1_2 p h
 refine Jlm hp.two (by decide) ⟨rfl, fun i hi => ?_⟩ hg; rw [show i = 0 by omega, Jd9]; simp [vz]
theorem Jov {p m : Nat} (hp : IsLf p p) (hm : 2 <= m) (hq : p ^ m <= 256) : (p = 2 /\ m = 2) ∨ (p = 2 /\ m = 3) ∨ (p = 2 /\ m = 4) ∨ (p = 2 /\ m = 5) ∨ (p = 2 /\ m = 6) ∨ (p = 2 /\ m = 7) ∨ (p = 2 /\ m = 8) ∨ (p = 3 /\ m = 2) ∨ (p = 3 /\ m = 3) ∨ (p = 3 /\ m = 4) ∨ (p = 3 /\ m = 5) ∨ (p = 5 /\ m = 2) ∨ (p = 5 /\ m = 3) ∨ (p = 7 /\ m = 2) ∨ (p = 11 /\ m = 2) ∨ (p = 13 /\ m = 2) := by
  have h2 := hp.two
  have hpow : ∀ k, k <= m -> p ^ k <= 256 := fun k hk => Nat.le_trans (Nat.pow_le_pow_right (by omega) hk) hq
  have hp2 : p <= 16 := by
    rcases Nat.lt_or_ge 16 p with h | h
    . have h1 := hpow 2 hm
      have h3 : 17 ^ 2 <= p ^ 2 := Nat.pow_le_pow_left h 2
      omega
    . exact h
  have hnd : ∀ e, 2 <= e -> e < p -> p % e ≠ 0 := fun e he hlt h0 => by have := hp.min e he h0; omega
  have hc : p = 2 ∨ p = 3 ∨ p = 5 ∨ p = 7 ∨ p = 11 ∨ p = 13 := by
    have h3 := hnd 2 (by omega)
    have h4 := hnd 3 (by omega)
    omega
  rcases hc with rfl | rfl | rfl | rfl | rfl | rfl
  . have : m <= 8 := by
      rcases Nat.lt_or_ge 8 m with h | h
      . have := hpow 9 h; omega
      . exact h
    omega
  . have : m <= 5 := by
      rcases Nat.lt_or_ge 5 m with h | h
      . have := hpow 6 h; omega
      . exact h
    omega
  . have : m <= 3 := by
      rcases Nat.lt_or_ge 3 m with h | h
      . have := hpow 4 h; omega
      . exact h
    omega
  . have : m <= 2 := by
      rcases Nat.lt_or_ge 2 m with h | h
      . have := hpow 3 h; omega
      . exact h
    omega
  . have : m <= 2 := by
      rcases Nat.lt_or_ge 2 m with h | h
      . have := hpow 3 h; omega
      . exact h
    omega
  . have : m <= 2 := by
      rcases Nat.lt_or_ge 2 m with h | h
      . have := hpow 3 h; omega
      . exact h
    omega
theorem gen_ex {p m v : Nat} (hp : IsLf p p) (hm : 0 < m) (hq : p ^ m <= 256) (hv : v < p ^ m) (h1 : m = 1 -> v = 0) (hI : Irr p m (dv p v)) : ∃ g, Gn (p ^ m) (Jw p m (dv p v)) g := by
  rcases Nat.lt_or_ge m 2 with h | h
  . have : m = 1 := by omega
    subst this
    rw [h1 rfl]
    exact gx_1 hp (by simpa using hq)
  . rcases Jov hp h hq with ⟨rfl, rfl⟩ | ⟨rfl, rfl⟩ | ⟨rfl, rfl⟩ | ⟨rfl, rfl⟩ | ⟨rfl, rfl⟩ | ⟨rfl, rfl⟩ | ⟨rfl, rfl⟩ | ⟨rfl, rfl⟩ | ⟨rfl, rfl⟩ | ⟨rfl, rfl⟩ | ⟨rfl, rfl⟩ | ⟨rfl, rfl⟩ | ⟨rfl, rfl⟩ | ⟨rfl, rfl⟩ | ⟨rfl, rfl⟩ | ⟨rfl, rfl⟩
    . exact gx_2_2 hv hI
    . exact gx_2_3 hv hI
    . exact gx_2_4 hv hI
    . exact gx_2_5 hv hI
    . exact gx_2_6 hv hI
    . exact gx_2_7 hv hI
    . exact gx_2_8 hv hI
    . exact gx_3_2 hv hI
    . exact gx_3_3 hv hI
    . exact gx_3_4 hv hI
    . exact gx_3_5 hv hI
    . exact gx_5_2 hv hI
    . exact gx_5_3 hv hI
    . exact gx_7_2 hv hI
    . exact Jrv hv hI
    . exact Jru hv hI
end Go.Proofs.Ytiboieijhehjnaa
set_option linter.unusedVariables false
set_option linter.unusedSimpArgs false
namespace Go.Proofs.Ytiboieijhehjnaa
def vo (l : List Int) : Vec := fun i => l.getD i 0
theorem JQ (l : List Int) (i : Nat) : gi l (i : Int) = vo l i := rfl
theorem QA (l : List Int) (i : Nat) (x : Int) : si l (i : Int) x = l.set i x := rfl
theorem Jck (a b : Nat) : (a : Int).tmod (b : Int) = ((a % b : Nat) : Int) := rfl
theorem Joc (a b : Nat) : (a : Int).tdiv (b : Int) = ((a / b : Nat) : Int) := rfl
theorem Ql (l : List Int) (i j : Nat) (x : Int) : vo (l.set i x) j = if i = j /\ i < l.length then x else vo l j := by
 unfold vo; rw [List.getD_eq_getElem?_getD, List.getD_eq_getElem?_getD, List.getElem?_set]; by_cases h : i = j
 .subst h; by_cases h2 : i < l.length
  .simp [h2]
  .simp [h2]
 .simp [h]
theorem Jfm (n : Nat) (i : Nat) : vo (List.replicate n (0 : Int)) i = 0 := by
 unfold vo; rw [List.getD_eq_getElem?_getD, List.getElem?_replicate]; split <;> rfl
theorem Jcj {l : List Int} {i : Nat} (h : l.length <= i) : vo l i = 0 := by
 unfold vo; rw [List.getD_eq_getElem?_getD, List.getElem?_eq_none h]; rfl
theorem YU {l o : List Int} (h : l.length = o.length) (hv : ∀ i, i < l.length -> vo l i = vo o i) : l = o := by
 refine List.ext_getElem h fun i h1 h2 => ?_; have := hv i h1; unfold vo at this; rw [List.getD_eq_getElem?_getD, List.getD_eq_getElem?_getD, List.getElem?_eq_getElem h1, List.getElem?_eq_getElem h2] at this; exact this
theorem Jv {x : Int} (h : -1000000000000 <= x) (h2 : x <= 1000000000000) : I64 x := ⟨by omega, by omega⟩
theorem YV {n : Nat} (h : n <= 1000000000000) : I64 (n : Int) := Jv (by omega) (by omega)
def dgi (p n x : Nat) : List Int := (dgl p n x).map fun (a : Nat) => (a : Int)
theorem J4 (p n x : Nat) : (dgi p n x).length = n := by simp [dgi, QT]
theorem Yc {p n x i : Nat} (h : i < n) : vo (dgi p n x) i = dv p x i := by
 rw [<- Jcb p n x i h]; unfold vo dgi; rw [List.getD_eq_getElem?_getD, List.getElem?_map, List.getD_eq_getElem?_getD]; rw [List.getElem?_eq_getElem (by rw [QT]; exact h)]; rfl
theorem Joa {b : Bool} {Q : Int -> Prop} (h : Q (if b = true then 0 else 1)) : Jei b Q := by
 cases b
 .exact ⟨fun h' => absurd h' (by decide), fun _ => h⟩
 .exact ⟨fun _ => h, fun h' => absurd h' (by decide)⟩
theorem Jrq {n k : Nat} (hn : 2 <= n) (hk : n < k * k) (h : ∀ e, e < k -> 2 <= e -> n % e ≠ 0) : IsLf n n := by
 refine ⟨hn, Nat.mod_self n, fun e he hm => ?_⟩; rcases Nat.lt_or_ge e k with hc | hc
 .exact absurd hm (h e hc he)
 .obtain ⟨t, ht⟩ := Nat.dvd_of_mod_eq_zero hm; have hq1 : t < k := by
   rcases Nat.lt_or_ge t k with h1 | h1
   .exact h1
   .have := Nat.mul_le_mul hc h1; omega
  rcases Nat.lt_or_ge t 2 with h2 | h2
  .have : t = 0 ∨ t = 1 := by omega
   rcases this with rfl | rfl
   .omega
   .omega
  .exact absurd (Nat.mod_eq_zero_of_dvd ⟨e, by rw [ht, Nat.mul_comm]⟩) (h t hq1 h2)
theorem Jdo {x : Nat} {Q : Int -> Prop} (h2 : 2 <= x) (hx : x <= 256) (h : ∀ d : Nat, IsLf x d -> Q d) : Yg x Q := by
 refine ⟨fun z => ∃ k : Nat, z = k /\ 2 <= k /\ k <= 17 /\ ∀ e, e < k -> 2 <= e -> x % e ≠ 0, fun z => (20 - z).toNat, ⟨2, rfl, by omega, by omega, fun e _ _ => by omega⟩, ?_⟩; rintro _ ⟨k, rfl, hk2, hk, hm⟩; dsimp only; have e1 : ((k : Nat) : Int) * (k : Int) = ((k * k : Nat) : Int) := by push_cast; rfl
 have hb : k * k <= 17 * 17 := Nat.mul_le_mul hk hk; rw [e1]; refine ⟨Jv (by omega) (by omega), fun hle => ⟨by omega, ?_, ?_⟩, fun hgt => ?_⟩
 .intro h0; rw [Jck] at h0; refine h k ⟨hk2, by omega, fun e he h3 => ?_⟩; rcases Nat.lt_or_ge e k with hc | hc
  .exact absurd h3 (hm e hc he)
  .exact hc
 .intro h0; rw [Jck] at h0; have hk16 : k <= 16 := by
   rcases Nat.lt_or_ge 16 k with hc | hc
   .have := Nat.mul_le_mul hc hc; omega
   .exact hc
  refine ⟨Jv (by omega) (by omega), ⟨k + 1, by push_cast; rfl, by omega, by omega, fun e he h3 => ?_⟩, by omega⟩; rcases Nat.lt_or_ge e k with hc | hc
  .exact hm e hc h3
  .rw [show e = k by omega]; omega
 .exact h x (Jrq h2 (by omega) hm)
theorem IsLf.uniq {n d e : Nat} (h : IsLf n d) (h' : IsLf n e) : d = e := Nat.le_antisymm (h.min e h'.two h'.dvd) (h'.min d h.two h.dvd)
theorem Jmb {x : Int} {Q : Bool -> Prop} (hx : x <= 256) (h : ∀ b : Bool, (b = true ↔ 2 <= x /\ IsLf x.toNat x.toNat) -> Q b) : Jaa x Q := by
 refine ⟨fun h2 => ?_, fun h2 => h false ⟨fun h' => by (cases h'), fun h' => absurd h'.1 h2⟩⟩; obtain ⟨n, rfl⟩ := Int.eq_ofNat_of_zero_le (show 0 <= x by omega); refine Jdo (by omega) (by omega) fun d hd => h _ ?_; rw [decide_eq_true_iff, Int.toNat_natCast]; constructor
 .intro he; have : d = n := by omega
  subst this; exact ⟨h2, hd⟩
 .rintro ⟨_, hn⟩; rw [hd.uniq hn]
theorem Jn5 {x : Nat} {Q : Bool -> Prop} (h2 : 2 <= x) (hx : x <= 256) (h : ∀ b : Bool, (b = true ↔ IsLf x x) -> Q b) : Jbq x Q := by
 refine ⟨fun z => ∃ k : Nat, z = k /\ 2 <= k /\ k <= x /\ ∀ e, e < k -> 2 <= e -> x % e ≠ 0, fun z => (x - z).toNat, ⟨2, rfl, by omega, by omega, fun e _ _ => by omega⟩, ?_⟩; rintro _ ⟨k, rfl, hk2, hk, hm⟩; dsimp only; refine ⟨fun hlt => ⟨by omega, fun h0 => ?_, fun h0 => ?_⟩, fun hge => ?_⟩
 .rw [Jck] at h0; refine h false ⟨fun h' => by (cases h'), fun hp => ?_⟩; have := hp.min k hk2 (by omega); omega
 .rw [Jck] at h0; refine ⟨Jv (by omega) (by omega), ⟨k + 1, by push_cast; rfl, by omega, by omega, fun e he h3 => ?_⟩, by omega⟩; rcases Nat.lt_or_ge e k with hc | hc
  .exact hm e hc h3
  .rw [show e = k by omega]; omega
 .refine h true ⟨fun _ => ⟨h2, Nat.mod_self x, fun e he h0 => ?_⟩, fun _ => rfl⟩; rcases Nat.lt_or_ge e x with hc | hc
  .exact absurd h0 (hm e (by omega) he)
  .exact hc
theorem Qw {p a b : Nat} (hp : 0 < p) (h : a <= b) : p ^ a <= p ^ b := Nat.pow_le_pow_right hp h
theorem Jfn {p : Nat} {M : Int} {mf : List Int} {Q : Int -> Prop} (hp : 2 <= p) (hp2 : p <= 256) (h : ∀ r : Int, (p ^ M.toNat <= 256 -> r = ((p ^ M.toNat : Nat) : Int)) -> (256 < p ^ M.toNat -> 256 < r) -> Q r) : Zz p M mf Q := by
 refine ⟨fun r => (p ^ M.toNat <= 256 -> r = ((p ^ M.toNat : Nat) : Int)) /\ (256 < p ^ M.toNat -> 256 < r), ⟨fun z i => ∃ k : Nat, i = k /\ k <= M.toNat /\ z = ((p ^ k : Nat) : Int) /\ p ^ k <= 65536 /\ k <= 16, fun z i => (20 - i).toNat, ⟨0, rfl, Nat.zero_le _, by simp, by simp, by omega⟩, ?_⟩, fun r hr => h r hr.1 hr.2⟩; rintro _ _ ⟨k, rfl, hk, rfl, hb, hk16⟩; dsimp only; refine ⟨fun hlt => ⟨fun hle => ?_, fun hgt => ?_⟩, fun hge => ?_⟩
 .have hk8 : p ^ k <= 256 := by omega
  have hkk : k < 16 := by
   rcases Nat.lt_or_ge k 16 with hc | hc
   .exact hc
   .have h1 := Qw (p := p) (by omega) hc; have h2 : 2 ^ 16 <= p ^ 16 := Nat.pow_le_pow_left hp 16; omega
  have e1 : ((p ^ k : Nat) : Int) * (p : Int) = ((p ^ (k + 1) : Nat) : Int) := by rw [Nat.pow_succ]; push_cast; rfl
  have hb2 : p ^ (k + 1) <= 65536 := by
   rw [Nat.pow_succ]; have := Nat.mul_le_mul hk8 hp2; omega
  rw [e1]; exact ⟨Jv (by omega) (by omega), Jv (by omega) (by omega), ⟨k + 1, by push_cast; rfl, by omega, rfl, hb2, by omega⟩, by omega⟩
 .have := Qw (p := p) (by omega) hk; exact ⟨fun h' => by omega, fun _ => by omega⟩
 .have : k = M.toNat := by omega
  subst this; exact ⟨fun _ => rfl, fun h' => by omega⟩
def Jdw (P M : Int) : Int := if 2 <= P /\ 1 <= M /\ P.toNat ^ M.toNat <= 256 then ((P.toNat ^ M.toNat : Nat) : Int) else 0
theorem Jdn {P M : Int} {mf : List Int} {Q : Int -> Prop} (h : Q (Jdw P M)) : Y9 P M mf Q := by
 refine ⟨fun h1 => ?_, fun h1 => ⟨fun h2 => ?_, fun h2 => ⟨fun h3 => ?_, fun h3 => ?_⟩⟩⟩
 .rw [Jdw, if_neg (by omega)] at h; exact h
 .rw [Jdw, if_neg (by omega)] at h; exact h
 .rw [Jdw, if_neg] at h
  .exact h
  .rintro ⟨h4, h5, h6⟩; have e1 : 2 ^ 9 <= P.toNat ^ 9 := Nat.pow_le_pow_left (by omega) 9; have e2 := Qw (p := P.toNat) (by omega) (show 9 <= M.toNat by omega); omega
 .obtain ⟨p, rfl⟩ := Int.eq_ofNat_of_zero_le (show 0 <= P by omega); obtain ⟨m, rfl⟩ := Int.eq_ofNat_of_zero_le (show 0 <= M by omega); refine ⟨fun z i => ∃ k : Nat, i = k /\ k <= m /\ z = ((p ^ k : Nat) : Int) /\ p ^ k <= 256, fun z i => (20 - i).toNat, ⟨0, rfl, Nat.zero_le _, by simp, by simp⟩, ?_⟩; rintro _ _ ⟨k, rfl, hk, rfl, hb⟩; dsimp only; rw [show (256 : Int) = ((256 : Nat) : Int) from rfl, Joc]; have hd : 256 / p <= 256 := Nat.div_le_self _ _; have hdm : ∀ a, a <= 256 / p ↔ a * p <= 256 := fun a => Nat.le_div_iff_mul_le (show 0 < p by omega); generalize 256 / p = D at *
  refine ⟨fun hlt => ⟨⟨by omega, Jv (by omega) (by omega)⟩, fun hgt => ?_, fun hle => ?_⟩, fun hge => ?_⟩
  .rw [Jdw, if_neg] at h
   .exact h
   .rintro ⟨_, _, h6⟩; simp only [Int.toNat_natCast] at h6; have h7 : p ^ (k + 1) <= 256 := Nat.le_trans (Qw (by omega) (by omega)) h6; rw [Nat.pow_succ] at h7; have := (hdm _).2 h7; omega
  .have h7 : p ^ (k + 1) <= 256 := by rw [Nat.pow_succ]; exact (hdm _).1 (by omega)
   have e1 : ((p ^ k : Nat) : Int) * (p : Int) = ((p ^ (k + 1) : Nat) : Int) := by rw [Nat.pow_succ]; push_cast; rfl
   rw [e1]; exact ⟨Jv (by omega) (by omega), Jv (by omega) (by omega), ⟨k + 1, by push_cast; rfl, by omega, rfl, h7⟩, by omega⟩
  .have : k = m := by omega
   subst this; rw [Jdw, if_pos ⟨by omega, by omega, by simpa using hb⟩] at h
   simpa using h
theorem Jbj (x p i : Nat) : x / p ^ i / p = x / p ^ (i + 1) := by rw [Nat.div_div_eq_div_mul, Nat.pow_succ]
theorem Jdq {p n x : Nat} {Q : List Int -> Prop} (hp : 0 < p) (hn : n <= 1000) (hx : x <= 1000) (h : Q (dgi p n x)) : Zd p n x Q := by
 refine ⟨⟨by omega, by omega, by omega⟩, fun l z i => ∃ k : Nat, i = k /\ k <= n /\ z = ((x / p ^ k : Nat) : Int) /\ l.length = n /\ ∀ j, j < k -> vo l j = dv p x j, fun l z i => (n - i).toNat, ⟨0, rfl, Nat.zero_le _, by simp, by simp, fun j hj => by omega⟩, ?_⟩; rintro l _ _ ⟨k, rfl, hk, rfl, hl, hv⟩; dsimp only; have hd : x / p ^ k <= x := Nat.div_le_self _ _; have hd2 : x / p ^ k / p <= x / p ^ k := Nat.div_le_self _ _; rw [Joc, Jck, QA]; simp only [Int.toNat_natCast]; refine ⟨fun hlt => ⟨by omega, ⟨by omega, by omega⟩, ⟨by omega, YV (by omega)⟩, Jv (by omega) (by omega), ⟨k + 1, by push_cast; rfl, by omega, by rw [Jbj], by rw [List.length_set, hl], fun j hj => ?_⟩, by omega⟩, fun hge => ?_⟩
 .rw [Ql]; by_cases hjk : k = j
  .subst hjk; rw [if_pos ⟨rfl, by omega⟩]; rfl
  .rw [if_neg (by omega)]; exact hv j (by omega)
 .have : l = dgi p n x := YU (by rw [hl, J4]) fun j hj => by rw [hv j (by omega), Yc (by omega)]
  rw [this]; exact h
theorem Jeu {p n x : Nat} {Q : List Int -> Prop} (hp : 0 < p) (hn : n <= 1000) (hx : x <= 1000) (h : Q (dgi p n x)) : Y7 x p n Q := by
 refine ⟨⟨by omega, by omega, by omega⟩, fun l z i => ∃ k : Nat, i = k /\ k <= n /\ z = ((x / p ^ k : Nat) : Int) /\ l.length = n /\ ∀ j, j < k -> vo l j = dv p x j, fun l z i => (n - i).toNat, ⟨0, rfl, Nat.zero_le _, by simp, by simp, fun j hj => by omega⟩, ?_⟩; rintro l _ _ ⟨k, rfl, hk, rfl, hl, hv⟩; dsimp only; have hd : x / p ^ k <= x := Nat.div_le_self _ _; have hd2 : x / p ^ k / p <= x / p ^ k := Nat.div_le_self _ _; rw [Joc, Jck, QA]; simp only [Int.toNat_natCast]; refine ⟨fun hlt => ⟨by omega, ⟨by omega, by omega⟩, ⟨by omega, YV (by omega)⟩, Jv (by omega) (by omega), ⟨k + 1, by push_cast; rfl, by omega, by rw [Jbj], by rw [List.length_set, hl], fun j hj => ?_⟩, by omega⟩, fun hge => ?_⟩
 .rw [Ql]; by_cases hjk : k = j
  .subst hjk; rw [if_pos ⟨rfl, by omega⟩]; rfl
  .rw [if_neg (by omega)]; exact hv j (by omega)
 .have : l = dgi p n x := YU (by rw [hl, J4]) fun j hj => by rw [hv j (by omega), Yc (by omega)]
  rw [this]; exact h
theorem Jg7 {p m x : Nat} {mf : List Int} {Q : Int -> Prop} (hp : 2 <= p) (hp2 : p <= 256) (hx : x <= 256) (h : Q ((if x % p = p - 1 then x - x % p else x + 1 : Nat) : Int)) : YR p m mf x Q := by
 have hm := Nat.mod_lt x (show 0 < p by omega); have hm2 := Nat.mod_le x p; refine ⟨by omega, Jv (by omega) (by omega), fun h0 => ⟨by omega, ?_⟩, fun h0 => ?_⟩
 .rw [Jck] at h0 ⊢; rw [if_pos (by omega)] at h; refine ⟨Jv (by omega) (by omega), ?_⟩; rw [show (x : Int) - ((x % p : Nat) : Int) = ((x - x % p : Nat) : Int) by omega]; exact h
 .rw [Jck] at h0; rw [if_neg (by omega)] at h; exact ⟨Jv (by omega) (by omega), by push_cast at h ⊢; exact h⟩
theorem Jc3 {l : List Int} {Q : List Int -> Prop} (hl : l.length <= 1000000) (h : Q l) : ZB l Q := by
 intro b hb; refine ⟨fun h1 => by rw [<- hb h1]; exact h, fun _ => ⟨by omega, by simpa using h⟩⟩
end Go.Proofs.Ytiboieijhehjnaa
