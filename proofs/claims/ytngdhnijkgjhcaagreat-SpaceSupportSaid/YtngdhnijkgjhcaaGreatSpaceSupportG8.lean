/- Contracts of functions of the program, and what they lean on: D18, D13, D14, D17, Xm, Bl2, Xo, D23, D19, Fa, Fb, Fg, Fp, Fk, Fc, V1. -/
import Derived.Test.YtngdhnijkgjhcaaGreatSpaceSupportG7
set_option linter.unusedSimpArgs false
set_option linter.unusedVariables false
set_option maxRecDepth 4000
set_option maxHeartbeats 4000000
namespace Go.Proofs.YtngdhnijkgjhcaaGreat
open Go.RowKit
def Jch  (Q : Bool -> Prop) : Prop :=
  Jr5 (2 : Int) (1 : Int) ([] : List Int) (3 : Int) ([([(1 : Int), (0 : Int), (1 : Int)] : List Int), ([(0 : Int), (1 : Int), (1 : Int)] : List Int)] : List (List Int)) (3 : Int) ([([(1 : Int), (0 : Int), (0 : Int)] : List Int)] : List (List Int)) (fun q => match q with | (c36, x37, r38) => Jj9 (2 : Int) (1 : Int) ([] : List Int) (3 : Int) ([([(1 : Int), (0 : Int), (1 : Int)] : List Int), ([(0 : Int), (1 : Int), (1 : Int)] : List Int)] : List (List Int)) (3 : Int) ([([(1 : Int), (0 : Int), (0 : Int)] : List Int)] : List (List Int)) (fun q => match q with | (c47, x48, r49) => Jka (2 : Int) (1 : Int) ([] : List Int) (3 : Int) ([([(1 : Int), (0 : Int), (1 : Int)] : List Int), ([(0 : Int), (1 : Int), (1 : Int)] : List Int)] : List (List Int)) (fun q => match q with | (c58, x59, r60) => YT (2 : Int) (1 : Int) ([] : List Int) (3 : Int) ([([(1 : Int), (0 : Int), (1 : Int)] : List Int), ([(0 : Int), (1 : Int), (1 : Int)] : List Int)] : List (List Int)) ([(1 : Int), (1 : Int), (0 : Int)] : List Int) (fun q => match q with | (x72, r73) => Jd5 (2 : Int) (1 : Int) ([] : List Int) (3 : Int) ([([(1 : Int), (0 : Int), (1 : Int)] : List Int), ([(0 : Int), (1 : Int), (1 : Int)] : List Int)] : List (List Int)) ([(1 : Int), (0 : Int), (0 : Int)] : List Int) (fun q => match q with | (x81, r82) => Ja6 (2 : Int) (1 : Int) ([] : List Int) (3 : Int) ([([(1 : Int), (0 : Int), (0 : Int)] : List Int)] : List (List Int)) c36 x37 (fun q => match q with | (c87, x88, r89) => Y4 (2 : Int) (1 : Int) ([] : List Int) (3 : Int) ([([(1 : Int), (0 : Int), (1 : Int)] : List Int), ([(0 : Int), (1 : Int), (1 : Int)] : List Int)] : List (List Int)) ([(1 : Int), (2 : Int)] : List Int) (fun q => match q with | (c101, x102, r103) => Jmn (2 : Int) (1 : Int) ([] : List Int) (3 : Int) ([([(1 : Int), (0 : Int), (1 : Int)] : List Int), ([(0 : Int), (1 : Int), (1 : Int)] : List Int)] : List (List Int)) ([(1 : Int), (0 : Int), (0 : Int)] : List Int) (fun q => match q with | (r115, r116) => Jad (2 : Int) (1 : Int) ([] : List Int) (3 : Int) ([([(1 : Int), (0 : Int), (0 : Int)] : List Int)] : List (List Int)) c36 x37 (fun q => match q with | (r118, r119) => ∃ J121 : Bool -> Prop, (((r38 = (0 : Int)) -> (((r49 = (0 : Int)) -> (((r60 = (0 : Int)) -> (((r73 = (0 : Int)) -> (((r82 = (0 : Int)) -> (((r89 = (0 : Int)) -> (((r103 = (0 : Int)) -> (((r116 = (0 : Int)) -> (J121 (decide (r119 = (0 : Int))))) /\ (¬ (r116 = (0 : Int)) -> J121 false))) /\ (¬ (r103 = (0 : Int)) -> J121 false))) /\ (¬ (r89 = (0 : Int)) -> J121 false))) /\ (¬ (r82 = (0 : Int)) -> J121 false))) /\ (¬ (r73 = (0 : Int)) -> J121 false))) /\ (¬ (r60 = (0 : Int)) -> J121 false))) /\ (¬ (r49 = (0 : Int)) -> J121 false))) /\ (¬ (r38 = (0 : Int)) -> J121 false)) /\ ∀ (b120 : Bool), (J121 b120 -> ((b120 = true) /\ (∃ (x137 : List (List Int)), Jfq (3 : Int) (fun q => q = x137) /\ ((Q3 x37 x137 (fun q => q = true)) /\ ((c47 = (3 : Int)) /\ (((x48.length : Int) = (0 : Int)) /\ ((Q3 x59 ([([(1 : Int), (1 : Int), (1 : Int)] : List Int)] : List (List Int)) (fun q => q = true)) /\ ((Yo x72 ([(1 : Int), (1 : Int)] : List Int) (fun q => q = true)) /\ ((Yo x81 ([(0 : Int), (0 : Int), (1 : Int)] : List Int) (fun q => q = true)) /\ ((Q3 x88 ([([(0 : Int), (1 : Int), (0 : Int)] : List Int), ([(0 : Int), (0 : Int), (1 : Int)] : List Int)] : List (List Int)) (fun q => q = true)) /\ ((Q3 x102 ([([(0 : Int), (1 : Int), (1 : Int)] : List Int)] : List (List Int)) (fun q => q = true)) /\ ((r115 = false) /\ ((r118 = true) /\ (∃ (r277 : Int), YC (2 : Int) (1 : Int) ([] : List Int) c36 x37 (fun q => q = r277) /\ (Q (decide (r277 = (0 : Int)))))))))))))))))))))))))))
theorem Jgo {w : World} {Q : Bool -> Prop}   (hv : Jch  Q) :
   Calls Tryz.prog 11 #[] w fun e w' => ∃ v Qr, e = .returned v /\ w.grownBy w' none /\ Rows w.heap.size none w' Qr /\ News w.heap.size Qr /\ ∃ (r0 : Bool), v = .bool r0 /\ Qr = [] /\ Q r0 := by
 refine Jk <| Jj (vs := []) [0] XF11 rfl rfl rfl rfl ?_; have hS := Jr w; unfold Jch at hv; refine Jd 6 <| JP (cells := #[nI 2, nI 1, .slice none 0 0]) XB24 rfl rfl rfl <| SL.alloc (cs := [nI 0, nI 0, .slice none 0 0]) hS JY rfl rfl ?_; intro g11 w12 hS; refine Jq (cs := [nI 2, nI 1, .slice none 0 0]) 0 hS rfl JY rfl rfl rfl rfl rfl ?_; intro w13 hS; refine Ja <| Jd 2 <| J3 (vs := is ([(1 : Int), (0 : Int), (1 : Int)] : List Int)) hS Js XE3 rfl rfl rfl rfl (Qd _) rfl ?_; intro A14 w15 hS; refine J3 (vs := is ([(0 : Int), (1 : Int), (1 : Int)] : List Int)) hS Js XE3 rfl rfl rfl rfl (Qd _) rfl ?_; intro A17 w18 hS; refine J3 (vs := [.slice A14 3 3, .slice A17 3 3]) hS Jy JE rfl rfl rfl rfl (by simp [Value.oneCell']) rfl ?_; intro A20 w21 hS; refine JP (cells := #[nI 3, .slice A20 2 2]) Q6 rfl rfl rfl <| SL.alloc (cs := [nI 0, .slice none 0 0]) hS Ju rfl rfl ?_; intro g23 w24 hS; refine Jq (cs := [nI 3, .slice A20 2 2]) 0 hS rfl Ju rfl rfl rfl rfl rfl ?_; intro w25 hS; refine Ja <| Jd 2 <| J3 (vs := is ([(1 : Int), (0 : Int), (0 : Int)] : List Int)) hS Js XE3 rfl rfl rfl rfl (Qd _) rfl ?_; intro A26 w27 hS; refine J3 (vs := [.slice A26 3 3]) hS Jy JE rfl rfl rfl rfl (by simp [Value.oneCell']) rfl ?_; intro A29 w30 hS; refine JP (cells := #[nI 3, .slice A29 1 1]) Q6 rfl rfl rfl <| SL.alloc (cs := [nI 0, .slice none 0 0]) hS Ju rfl rfl ?_; intro g32 w33 hS; refine Jq (cs := [nI 3, .slice A29 1 1]) 0 hS rfl Ju rfl rfl rfl rfl rfl ?_; intro w34 hS; refine Ja <| Jd 2 <| Jh (cs := [nI 2, nI 1, .slice none 0 0]) JY J2 rfl rfl (Jc (hS.own (i := 7) rfl)) rfl <| Jh (cs := [nI 3, .slice A20 2 2]) Ju JL rfl rfl (Jc (hS.own (i := 3) rfl)) rfl <| Jh (cs := [nI 3, .slice A29 1 1]) Ju JL rfl rfl (Jc (hS.own (i := 0) rfl)) rfl <| SL.call hS (ok_Sum (YV w34) (⟨_, _, (hS.rd (i := 4) rfl), ⟨⟨_, _, _, rfl, (Qh (hS.rd (i := 6) rfl))⟩, ⟨_, _, _, rfl, (Qh (hS.rd (i := 5) rfl))⟩, trivial⟩⟩ : Rl _ _ _ _ ([([(1 : Int), (0 : Int), (1 : Int)] : List Int), ([(0 : Int), (1 : Int), (1 : Int)] : List Int)] : List (List Int))) (⟨_, _, (hS.rd (i := 1) rfl), ⟨⟨_, _, _, rfl, (Qh (hS.rd (i := 2) rfl))⟩, trivial⟩⟩ : Rl _ _ _ _ ([([(1 : Int), (0 : Int), (0 : Int)] : List Int)] : List (List Int))) hv) XF13 rfl XN13 rfl rfl ?_; rintro _ _ w35 ⟨c36, x37, r38, A39, k40, hs41, rfl, rfl, hv⟩ hGw35 hS; have hS := hS.n1; refine Jb 3 <| SL.alloc (cs := [nI 0, .slice none 0 0]) hS Ju rfl rfl ?_; intro g43 w44 hS; refine Jq (cs := [nI c36, nS A39 x37 k40]) 0 hS rfl Ju rfl rfl rfl rfl rfl ?_; intro w45 hS; refine Jb 2 <| Jd 2 <| Jh (cs := [nI 2, nI 1, .slice none 0 0]) JY J2 rfl rfl (Jc (hS.own (i := 9) rfl)) rfl <| Jh (cs := [nI 3, .slice A20 2 2]) Ju JL rfl rfl (Jc (hS.own (i := 5) rfl)) rfl <| Jh (cs := [nI 3, .slice A29 1 1]) Ju JL rfl rfl (Jc (hS.own (i := 2) rfl)) rfl <| SL.call hS (Jz6 (YV w45) (⟨_, _, (hS.rd (i := 6) rfl), ⟨⟨_, _, _, rfl, (Qh (hS.rd (i := 8) rfl))⟩, ⟨_, _, _, rfl, (Qh (hS.rd (i := 7) rfl))⟩, trivial⟩⟩ : Rl _ _ _ _ ([([(1 : Int), (0 : Int), (1 : Int)] : List Int), ([(0 : Int), (1 : Int), (1 : Int)] : List Int)] : List (List Int))) (⟨_, _, (hS.rd (i := 3) rfl), ⟨⟨_, _, _, rfl, (Qh (hS.rd (i := 4) rfl))⟩, trivial⟩⟩ : Rl _ _ _ _ ([([(1 : Int), (0 : Int), (0 : Int)] : List Int)] : List (List Int))) hv) XF16 rfl XN16 rfl rfl ?_; rintro _ _ w46 ⟨c47, x48, r49, A50, k51, hs52, rfl, rfl, hv⟩ hGw46 hS; have hS := hS.n1; refine Jb 3 <| SL.alloc (cs := [nI 0, .slice none 0 0]) hS Ju rfl rfl ?_; intro g54 w55 hS; refine Jq (cs := [nI c47, nS A50 x48 k51]) 0 hS rfl Ju rfl rfl rfl rfl rfl ?_; intro w56 hS; refine Jb 2 <| Jd 2 <| Jh (cs := [nI 2, nI 1, .slice none 0 0]) JY J2 rfl rfl (Jc (hS.own (i := 11) rfl)) rfl <| Jh (cs := [nI 3, .slice A20 2 2]) Ju JL rfl rfl (Jc (hS.own (i := 7) rfl)) rfl <| SL.call hS (Jz8 (YV w56) (⟨_, _, (hS.rd (i := 8) rfl), ⟨⟨_, _, _, rfl, (Qh (hS.rd (i := 10) rfl))⟩, ⟨_, _, _, rfl, (Qh (hS.rd (i := 9) rfl))⟩, trivial⟩⟩ : Rl _ _ _ _ ([([(1 : Int), (0 : Int), (1 : Int)] : List Int), ([(0 : Int), (1 : Int), (1 : Int)] : List Int)] : List (List Int))) hv) XF18 rfl XN18 rfl rfl ?_; rintro _ _ w57 ⟨c58, x59, r60, A61, k62, hs63, rfl, rfl, hv⟩ hGw57 hS; have hS := hS.n1; refine Jb 3 <| SL.alloc (cs := [nI 0, .slice none 0 0]) hS Ju rfl rfl ?_; intro g65 w66 hS; refine Jq (cs := [nI c58, nS A61 x59 k62]) 0 hS rfl Ju rfl rfl rfl rfl rfl ?_; intro w67 hS; refine Jb 2 <| Jd 2 <| Jh (cs := [nI 2, nI 1, .slice none 0 0]) JY J2 rfl rfl (Jc (hS.own (i := 13) rfl)) rfl <| Jh (cs := [nI 3, .slice A20 2 2]) Ju JL rfl rfl (Jc (hS.own (i := 9) rfl)) rfl <| J3 (vs := is ([(1 : Int), (1 : Int), (0 : Int)] : List Int)) hS Js XE3 rfl rfl rfl rfl (Qd _) rfl ?_; intro A68 w69 hS; refine SL.call hS (Jgs (YV w69) (⟨_, _, (hS.rd (i := 11) rfl), ⟨⟨_, _, _, rfl, (Qh (hS.rd (i := 13) rfl))⟩, ⟨_, _, _, rfl, (Qh (hS.rd (i := 12) rfl))⟩, trivial⟩⟩ : Rl _ _ _ _ ([([(1 : Int), (0 : Int), (1 : Int)] : List Int), ([(0 : Int), (1 : Int), (1 : Int)] : List Int)] : List (List Int))) (hS.rd (i := 0) rfl) hv) XF31 rfl XN31 rfl rfl ?_; rintro _ _ w71 ⟨x72, r73, A74, k75, rfl, rfl, hv⟩ hGw71 hS; have hS := hS.n1; refine Jb 6 <| Jd 2 <| Jh (cs := [nI 2, nI 1, .slice none 0 0]) JY J2 rfl rfl (Jc (hS.own (i := 15) rfl)) rfl <| Jh (cs := [nI 3, .slice A20 2 2]) Ju JL rfl rfl (Jc (hS.own (i := 11) rfl)) rfl <| J3 (vs := is ([(1 : Int), (0 : Int), (0 : Int)] : List Int)) hS Js XE3 rfl rfl rfl rfl (Qd _) rfl ?_; intro A77 w78 hS; refine SL.call hS (Jsp (YV w78) (⟨_, _, (hS.rd (i := 13) rfl), ⟨⟨_, _, _, rfl, (Qh (hS.rd (i := 15) rfl))⟩, ⟨_, _, _, rfl, (Qh (hS.rd (i := 14) rfl))⟩, trivial⟩⟩ : Rl _ _ _ _ ([([(1 : Int), (0 : Int), (1 : Int)] : List Int), ([(0 : Int), (1 : Int), (1 : Int)] : List Int)] : List (List Int))) (hS.rd (i := 0) rfl) hv) XF28 rfl XN28 rfl rfl ?_; rintro _ _ w80 ⟨x81, r82, A83, k84, rfl, rfl, hv⟩ hGw80 hS; have hS := hS.n1; refine Jb 6 <| Jd 2 <| Jh (cs := [nI 2, nI 1, .slice none 0 0]) JY J2 rfl rfl (Jc (hS.own (i := 17) rfl)) rfl <| Jh (cs := [nI 3, .slice A29 1 1]) Ju JL rfl rfl (Jc (hS.own (i := 10) rfl)) rfl <| Jh (cs := [nI c36, nS A39 x37 k40]) Ju JL rfl rfl (Jc (hS.own (i := 8) rfl)) rfl <| SL.call hS (Jlk (YV w80) (⟨_, _, (hS.rd (i := 11) rfl), ⟨⟨_, _, _, rfl, (Qh (hS.rd (i := 12) rfl))⟩, trivial⟩⟩ : Rl _ _ _ _ ([([(1 : Int), (0 : Int), (0 : Int)] : List Int)] : List (List Int))) (hS.rl (i := 9) rfl) hv) XF24 rfl XN24 rfl rfl ?_; rintro _ _ w86 ⟨c87, x88, r89, A90, k91, hs92, rfl, rfl, hv⟩ hGw86 hS; have hS := hS.n1; refine Jb 3 <| SL.alloc (cs := [nI 0, .slice none 0 0]) hS Ju rfl rfl ?_; intro g94 w95 hS; refine Jq (cs := [nI c87, nS A90 x88 k91]) 0 hS rfl Ju rfl rfl rfl rfl rfl ?_; intro w96 hS; refine Jb 2 <| Jd 2 <| Jh (cs := [nI 2, nI 1, .slice none 0 0]) JY J2 rfl rfl (Jc (hS.own (i := 19) rfl)) rfl <| Jh (cs := [nI 3, .slice A20 2 2]) Ju JL rfl rfl (Jc (hS.own (i := 15) rfl)) rfl <| J3 (vs := is ([(1 : Int), (2 : Int)] : List Int)) hS Js XE3 rfl rfl rfl rfl (Qd _) rfl ?_; intro A97 w98 hS; refine SL.call hS (Jdn (YV w98) (⟨_, _, (hS.rd (i := 17) rfl), ⟨⟨_, _, _, rfl, (Qh (hS.rd (i := 19) rfl))⟩, ⟨_, _, _, rfl, (Qh (hS.rd (i := 18) rfl))⟩, trivial⟩⟩ : Rl _ _ _ _ ([([(1 : Int), (0 : Int), (1 : Int)] : List Int), ([(0 : Int), (1 : Int), (1 : Int)] : List Int)] : List (List Int))) (hS.rd (i := 0) rfl) hv) XF33 rfl XN33 rfl rfl ?_; rintro _ _ w100 ⟨c101, x102, r103, A104, k105, hs106, rfl, rfl, hv⟩ hGw100 hS; have hS := hS.n1; refine Jb 3 <| SL.alloc (cs := [nI 0, .slice none 0 0]) hS Ju rfl rfl ?_; intro g108 w109 hS; refine Jq (cs := [nI c101, nS A104 x102 k105]) 0 hS rfl Ju rfl rfl rfl rfl rfl ?_; intro w110 hS; refine Jb 2 <| Jd 2 <| Jh (cs := [nI 2, nI 1, .slice none 0 0]) JY J2 rfl rfl (Jc (hS.own (i := 22) rfl)) rfl <| Jh (cs := [nI 3, .slice A20 2 2]) Ju JL rfl rfl (Jc (hS.own (i := 18) rfl)) rfl <| J3 (vs := is ([(1 : Int), (0 : Int), (0 : Int)] : List Int)) hS Js XE3 rfl rfl rfl rfl (Qd _) rfl ?_; intro A111 w112 hS; refine SL.call hS (Jw3 (YV w112) (⟨_, _, (hS.rd (i := 20) rfl), ⟨⟨_, _, _, rfl, (Qh (hS.rd (i := 22) rfl))⟩, ⟨_, _, _, rfl, (Qh (hS.rd (i := 21) rfl))⟩, trivial⟩⟩ : Rl _ _ _ _ ([([(1 : Int), (0 : Int), (1 : Int)] : List Int), ([(0 : Int), (1 : Int), (1 : Int)] : List Int)] : List (List Int))) (hS.rd (i := 0) rfl) hv) XF26 rfl XN26 rfl rfl ?_; rintro _ _ w114 ⟨r115, r116, rfl, rfl, hv⟩ hGw114 hS; have hS := hS.n0; refine Jb 6 <| Jd 2 <| Jh (cs := [nI 2, nI 1, .slice none 0 0]) JY J2 rfl rfl (Jc (hS.own (i := 23) rfl)) rfl <| Jh (cs := [nI 3, .slice A29 1 1]) Ju JL rfl rfl (Jc (hS.own (i := 16) rfl)) rfl <| Jh (cs := [nI c36, nS A39 x37 k40]) Ju JL rfl rfl (Jc (hS.own (i := 14) rfl)) rfl <| SL.call hS (Jek (YV w114) (⟨_, _, (hS.rd (i := 17) rfl), ⟨⟨_, _, _, rfl, (Qh (hS.rd (i := 18) rfl))⟩, trivial⟩⟩ : Rl _ _ _ _ ([([(1 : Int), (0 : Int), (0 : Int)] : List Int)] : List (List Int))) (hS.rl (i := 15) rfl) hv) XF22 rfl XN22 rfl rfl ?_; rintro _ _ w117 ⟨r118, r119, rfl, rfl, hv⟩ hGw117 hS; have hS := hS.n0; refine Jb 6 <| JB ?_; obtain ⟨J121, hv, hk284⟩ := hv; refine QR (σ := Bool) (fun b120 w1 => J121 b120 /\ St TT w none w1 [.row 3 1 A111 3 3 (is ([(1 : Int), (0 : Int), (0 : Int)] : List Int)), .row 27 2 (nA g108) 1 1 [nI c101, nS A104 x102 k105], mx 22 3 A104 x102.length k105 hs106 x102, .row 3 1 A97 2 2 (is ([(1 : Int), (2 : Int)] : List Int)), .row 27 2 (nA g94) 1 1 [nI c87, nS A90 x88 k91], mx 22 3 A90 x88.length k91 hs92 x88, nR 3 A83 x81 k84, .row 3 1 A77 3 3 (is ([(1 : Int), (0 : Int), (0 : Int)] : List Int)), nR 3 A74 x72 k75, .row 3 1 A68 3 3 (is ([(1 : Int), (1 : Int), (0 : Int)] : List Int)), .row 27 2 (nA g65) 1 1 [nI c58, nS A61 x59 k62], mx 22 3 A61 x59.length k62 hs63 x59, .row 27 2 (nA g54) 1 1 [nI c47, nS A50 x48 k51], mx 22 3 A50 x48.length k51 hs52 x48, .row 27 2 (nA g43) 1 1 [nI c36, nS A39 x37 k40], mx 22 3 A39 x37.length k40 hs41 x37, .row 27 2 (nA g32) 1 1 [nI 3, .slice A29 1 1], .row 22 1 A29 1 1 [.slice A26 3 3], .row 3 1 A26 3 3 (is ([(1 : Int), (0 : Int), (0 : Int)] : List Int)), .row 27 2 (nA g23) 1 1 [nI 3, .slice A20 2 2], .row 22 1 A20 2 2 [.slice A14 3 3, .slice A17 3 3], .row 3 1 A17 3 3 (is ([(0 : Int), (1 : Int), (1 : Int)] : List Int)), .row 3 1 A14 3 3 (is ([(1 : Int), (0 : Int), (1 : Int)] : List Int)), .row 24 3 (nA g11) 1 1 [nI 2, nI 1, .slice none 0 0]]) (fun b120 => [(0, .bool false), (1, nP g11), (4, nP g43), (6, nP g54), (8, nP g65), (10, nS A74 x72 k75), (12, nS A83 x81 k84), (14, nP g94), (16, nP g108), (18, .bool r115), (20, .bool r118), (22, .bool b120)]) ?_ ?_
 .refine Jw ?_; refine Jb 2 <| Jm rfl rfl ?_; by_cases g122 : r38 = (0 : Int)
  .have hv := hv.1 g122; rw [decide_eq_true g122]; refine Jb 5 <| Jm rfl rfl ?_; by_cases g123 : r49 = (0 : Int)
   .have hv := hv.1 g123; rw [decide_eq_true g123]; refine Jb 5 <| Jm rfl rfl ?_; by_cases g124 : r60 = (0 : Int)
    .have hv := hv.1 g124; rw [decide_eq_true g124]; refine Jb 5 <| Jm rfl rfl ?_; by_cases g125 : r73 = (0 : Int)
     .have hv := hv.1 g125; rw [decide_eq_true g125]; refine Jb 5 <| Jm rfl rfl ?_; by_cases g126 : r82 = (0 : Int)
      .have hv := hv.1 g126; rw [decide_eq_true g126]; refine Jb 5 <| Jm rfl rfl ?_; by_cases g127 : r89 = (0 : Int)
       .have hv := hv.1 g127; rw [decide_eq_true g127]; refine Jb 5 <| Jm rfl rfl ?_; by_cases g128 : r103 = (0 : Int)
        .have hv := hv.1 g128; rw [decide_eq_true g128]; refine Jb 5 <| Jm rfl rfl ?_; by_cases g129 : r116 = (0 : Int)
         .have hv := hv.1 g129; rw [decide_eq_true g129]; refine Jb 7 ?_; exact ⟨(decide (r119 = (0 : Int))), ⟨rfl, rfl, rfl, rfl, rfl, rfl, rfl, rfl, rfl, rfl, rfl, rfl, trivial⟩, rfl, hv, hS⟩
         have hv := hv.2 g129; rw [decide_eq_false g129]; refine Jb 5 ?_; exact ⟨false, ⟨rfl, rfl, rfl, rfl, rfl, rfl, rfl, rfl, rfl, rfl, rfl, rfl, trivial⟩, rfl, hv, hS⟩
        have hv := hv.2 g128; rw [decide_eq_false g128]; refine Jb 9 ?_; exact ⟨false, ⟨rfl, rfl, rfl, rfl, rfl, rfl, rfl, rfl, rfl, rfl, rfl, rfl, trivial⟩, rfl, hv, hS⟩
       have hv := hv.2 g127; rw [decide_eq_false g127]; refine Jb 13 ?_; exact ⟨false, ⟨rfl, rfl, rfl, rfl, rfl, rfl, rfl, rfl, rfl, rfl, rfl, rfl, trivial⟩, rfl, hv, hS⟩
      have hv := hv.2 g126; rw [decide_eq_false g126]; refine Jb 17 ?_; exact ⟨false, ⟨rfl, rfl, rfl, rfl, rfl, rfl, rfl, rfl, rfl, rfl, rfl, rfl, trivial⟩, rfl, hv, hS⟩
     have hv := hv.2 g125; rw [decide_eq_false g125]; refine Jb 21 ?_; exact ⟨false, ⟨rfl, rfl, rfl, rfl, rfl, rfl, rfl, rfl, rfl, rfl, rfl, rfl, trivial⟩, rfl, hv, hS⟩
    have hv := hv.2 g124; rw [decide_eq_false g124]; refine Jb 25 ?_; exact ⟨false, ⟨rfl, rfl, rfl, rfl, rfl, rfl, rfl, rfl, rfl, rfl, rfl, rfl, trivial⟩, rfl, hv, hS⟩
   have hv := hv.2 g123; rw [decide_eq_false g123]; refine Jb 29 ?_; exact ⟨false, ⟨rfl, rfl, rfl, rfl, rfl, rfl, rfl, rfl, rfl, rfl, rfl, rfl, trivial⟩, rfl, hv, hS⟩
  have hv := hv.2 g122; rw [decide_eq_false g122]; refine Jb 33 ?_; exact ⟨false, ⟨rfl, rfl, rfl, rfl, rfl, rfl, rfl, rfl, rfl, rfl, rfl, rfl, trivial⟩, rfl, hv, hS⟩
 rintro b120 w130 ⟨hv, hS⟩; have hv := hk284 b120 hv; refine JB ?_; obtain ⟨o132, hv⟩ := hv; obtain ⟨x137, o144, hv⟩ := hv; obtain ⟨o148, hv⟩ := hv; obtain ⟨o154, hv⟩ := hv; obtain ⟨o161, hv⟩ := hv; obtain ⟨o183, hv⟩ := hv; obtain ⟨o197, hv⟩ := hv; obtain ⟨o211, hv⟩ := hv; obtain ⟨o240, hv⟩ := hv; obtain ⟨o262, hv⟩ := hv; obtain ⟨o266, hv⟩ := hv; obtain ⟨o271, hv⟩ := hv; obtain ⟨r277, o279, hv⟩ := hv; have hS0 := hS; refine QC 64 (fun iA => [false, false, false, false, true, false, false, false, false, false, false, false, false, false, false, false, false, false, false, false, false, true, true, false, false, false, false, true, false, false, false, false, true, false, false, false, false, false, true, true, true, false, false, false, false, false, true, true, false, false, false, false, false, false, false, false, false, false, false, false, false, false, false, false].getD iA false) (fun _ => none) (fun _ v u => u = v) [⟨[], [22], true⟩, ⟨[0], [], true⟩, ⟨[1], [4], true⟩, ⟨[1, 2], [], false⟩, ⟨[1], [], false⟩, ⟨[1, 3, 4], [], false⟩, ⟨[1, 5], [], true⟩, ⟨[6], [], true⟩, ⟨[7], [6], true⟩, ⟨[7, 8], [], false⟩, ⟨[7, 9], [], true⟩, ⟨[7, 10], [], true⟩, ⟨[11], [], true⟩, ⟨[12], [6], true⟩, ⟨[12, 13], [], false⟩, ⟨[12, 14], [], true⟩, ⟨[12, 15], [], true⟩, ⟨[12, 16], [], true⟩, ⟨[17], [], true⟩, ⟨[18], [8], true⟩, ⟨[18, 19], [], false⟩, ⟨[18], [], false⟩, ⟨[18, 21], [], false⟩, ⟨[18, 20, 22], [], false⟩, ⟨[18, 23], [], true⟩, ⟨[24], [], true⟩, ⟨[25], [10], true⟩, ⟨[25], [], false⟩, ⟨[25, 26, 27], [], false⟩, ⟨[25, 28], [], true⟩, ⟨[29], [], true⟩, ⟨[30], [12], true⟩, ⟨[30], [], false⟩, ⟨[30, 31, 32], [], false⟩, ⟨[30, 33], [], true⟩, ⟨[34], [], true⟩, ⟨[35], [14], true⟩, ⟨[35, 36], [], false⟩, ⟨[35], [], false⟩, ⟨[35], [], false⟩, ⟨[35, 38, 39], [], false⟩, ⟨[35, 37, 40], [], false⟩, ⟨[35, 41], [], true⟩, ⟨[42], [], true⟩, ⟨[43], [16], true⟩, ⟨[43, 44], [], false⟩, ⟨[43], [], false⟩, ⟨[43, 46], [], false⟩, ⟨[43, 45, 47], [], false⟩, ⟨[43, 48], [], true⟩, ⟨[49], [], true⟩, ⟨[50], [18], true⟩, ⟨[50, 51], [], true⟩, ⟨[50, 52], [], true⟩, ⟨[53], [], true⟩, ⟨[54], [20], true⟩, ⟨[54, 55], [], true⟩, ⟨[56], [], true⟩, ⟨[57], [1], false⟩, ⟨[57], [4], false⟩, ⟨[57, 58, 59], [], false⟩, ⟨[57, 60], [], true⟩, ⟨[57, 61], [], true⟩, ⟨[62], [], true⟩] [.k 127 (.bool true), .k 128 (.bool true), .k 129 (.pointer (some ((⟨g43, 0, none⟩ : Addr).add 1))), .k 130 (nS A39 x37 k40), eX w130 131 22 3 x137.length (fun A138_4 k139_4 hs140_4 => nS A138_4 x137 k139_4) x137, .k 132 (.bool true), .k 133 (.bool true), .k 134 (.bool true), .k 135 (nP g54), .k 136 (nI c47), .k 137 (.bool true), .k 138 (.bool true), .k 139 (.bool true), .k 140 (.pointer (some ((⟨g54, 0, none⟩ : Addr).add 1))), .k 141 (nS A50 x48 k51), .k 142 (nI (x48.length : Int)), .k 143 (.bool true), .k 144 (.bool true), .k 145 (.bool true), .k 146 (.pointer (some ((⟨g65, 0, none⟩ : Addr).add 1))), .k 147 (nS A61 x59 k62), eS w130 148 3 3 (is ([(1 : Int), (1 : Int), (1 : Int)] : List Int)), .m 149 (fun v wQ => ∃ A174_22 k177_22 A167_21_22 k170_21_22, v = .slice A174_22 1 k177_22 /\ Own 0 wQ 22 1 A174_22 1 k177_22 [.slice A167_21_22 3 k170_21_22] /\ (∀ g, bl A174_22 = some g -> w130.heap.size <= g) /\ Own 0 wQ 3 1 A167_21_22 3 k170_21_22 (is ([(1 : Int), (1 : Int), (1 : Int)] : List Int)) /\ (∀ g, bl A167_21_22 = some g -> w130.heap.size <= g)) fun _ _ _ ⟨A174_22, k177_22, A167_21_22, k170_21_22, hQe, hO178_22, hN179_22, hO171_21_22, hN172_21_22⟩ hQ2 => ⟨A174_22, k177_22, A167_21_22, k170_21_22, hQe, hO178_22.ext hQ2, hN179_22, hO171_21_22.ext hQ2, hN172_21_22⟩, .k 150 (.bool true), .k 151 (.bool true), .k 152 (.bool true), .k 153 (nS A74 x72 k75), eS w130 154 3 2 (is ([(1 : Int), (1 : Int)] : List Int)), .k 155 (.bool true), .k 156 (.bool true), .k 157 (.bool true), .k 158 (nS A83 x81 k84), eS w130 159 3 3 (is ([(0 : Int), (0 : Int), (1 : Int)] : List Int)), .k 160 (.bool true), .k 161 (.bool true), .k 162 (.bool true), .k 163 (.pointer (some ((⟨g94, 0, none⟩ : Addr).add 1))), .k 164 (nS A90 x88 k91), eS w130 165 3 3 (is ([(0 : Int), (1 : Int), (0 : Int)] : List Int)), eS w130 166 3 3 (is ([(0 : Int), (0 : Int), (1 : Int)] : List Int)), .m 167 (fun v wQ => ∃ A231_40 k234_40 A217_38_40 k220_38_40 A224_39_40 k227_39_40, v = .slice A231_40 2 k234_40 /\ Own 0 wQ 22 1 A231_40 2 k234_40 [.slice A217_38_40 3 k220_38_40, .slice A224_39_40 3 k227_39_40] /\ (∀ g, bl A231_40 = some g -> w130.heap.size <= g) /\ Own 0 wQ 3 1 A217_38_40 3 k220_38_40 (is ([(0 : Int), (1 : Int), (0 : Int)] : List Int)) /\ (∀ g, bl A217_38_40 = some g -> w130.heap.size <= g) /\ Own 0 wQ 3 1 A224_39_40 3 k227_39_40 (is ([(0 : Int), (0 : Int), (1 : Int)] : List Int)) /\ (∀ g, bl A224_39_40 = some g -> w130.heap.size <= g)) fun _ _ _ ⟨A231_40, k234_40, A217_38_40, k220_38_40, A224_39_40, k227_39_40, hQe, hO235_40, hN236_40, hO221_38_40, hN222_38_40, hO228_39_40, hN229_39_40⟩ hQ2 => ⟨A231_40, k234_40, A217_38_40, k220_38_40, A224_39_40, k227_39_40, hQe, hO235_40.ext hQ2, hN236_40, hO221_38_40.ext hQ2, hN222_38_40, hO228_39_40.ext hQ2, hN229_39_40⟩, .k 168 (.bool true), .k 169 (.bool true), .k 170 (.bool true), .k 171 (.pointer (some ((⟨g108, 0, none⟩ : Addr).add 1))), .k 172 (nS A104 x102 k105), eS w130 173 3 3 (is ([(0 : Int), (1 : Int), (1 : Int)] : List Int)), .m 174 (fun v wQ => ∃ A253_47 k256_47 A246_46_47 k249_46_47, v = .slice A253_47 1 k256_47 /\ Own 0 wQ 22 1 A253_47 1 k256_47 [.slice A246_46_47 3 k249_46_47] /\ (∀ g, bl A253_47 = some g -> w130.heap.size <= g) /\ Own 0 wQ 3 1 A246_46_47 3 k249_46_47 (is ([(0 : Int), (1 : Int), (1 : Int)] : List Int)) /\ (∀ g, bl A246_46_47 = some g -> w130.heap.size <= g)) fun _ _ _ ⟨A253_47, k256_47, A246_46_47, k249_46_47, hQe, hO257_47, hN258_47, hO250_46_47, hN251_46_47⟩ hQ2 => ⟨A253_47, k256_47, A246_46_47, k249_46_47, hQe, hO257_47.ext hQ2, hN258_47, hO250_46_47.ext hQ2, hN251_46_47⟩, .k 175 (.bool true), .k 176 (.bool true), .k 177 (.bool true), .k 178 (.bool false), .k 179 (.bool true), .k 180 (.bool true), .k 181 (.bool true), .k 182 (.bool true), .k 183 (.bool true), .k 184 (.bool true), .k 185 (.agg #[nI 2, nI 1, .slice none 0 0]), .k 186 (.agg #[nI c36, nS A39 x37 k40]), .k 187 (nI r277), .k 188 (.bool (decide (r277 = (0 : Int)))), .k 189 (.bool (decide (r277 = (0 : Int)))), .k 0 (.bool (decide (r277 = (0 : Int))))] (fun iD => [vbD, vbD, vbD, vbD, rch, vbD, vbD, vbD, vbD, vbD, vbD, vbD, vbD, vbD, vbD, vbD, vbD, vbD, vbD, vbD, vbD, vbD, vbD, vbD, vbD, vbD, vbD, vbD, vbD, vbD, vbD, vbD, vbD, vbD, vbD, vbD, vbD, vbD, vbD, vbD, vbD, vbD, vbD, vbD, vbD, vbD, vbD, vbD, vbD, vbD, vbD, vbD, vbD, vbD, vbD, vbD, vbD, vbD, vbD, vbD, vbD, vbD, vbD, vbD].getD iD vbD) Jz (by kernel_rfl) rfl rfl ?_ ?_ ?_
 . intro jD vD w1D w2D hvD hgD gD hD_; rcases jD with _ | _ | _ | _ | _ | _ | _ | _ | _ | _ | _ | _ | _ | _ | _ | _ | _ | _ | _ | _ | _ | _ | _ | _ | _ | _ | _ | _ | _ | _ | _ | _ | _ | _ | _ | _ | _ | _ | _ | _ | _ | _ | _ | _ | _ | _ | _ | _ | _ | _ | _ | _ | _ | _ | _ | _ | _ | _ | _ | _ | _ | _ | _ | _ | jD
   any_goals exact hD_
   obtain ⟨A138_4, k139_4, hs140_4, rfl, hR143_4⟩ := hvD; exact Q9 hR143_4 hgD hD_
 . refine ⟨?_, oB (fun _ => rfl) rfl, fun _ _ _ => WL.take rfl <| Je (off := 1) JM rfl rfl <| Ja ⟨rfl, rfl⟩, fun _ hE _ => have hS := hS.grow (hE rfl); WL.take rfl <| Jp 14 1 Jy hS rfl rfl rfl ⟨rfl, rfl⟩ <| Ja ⟨rfl, Jg _⟩, ?_, ?_, oB (fun _ => rfl) rfl, oB (fun _ => rfl) rfl, fun _ _ _ => WL.take rfl <| Je (off := 0) Qf rfl rfl <| Ja ⟨rfl, rfl⟩, fun _ hE _ => have hS := hS.grow (hE rfl); WL.take rfl <| Jp 12 0 XU3 hS rfl rfl rfl ⟨rfl, rfl⟩ <| Ja ⟨rfl, Jg _⟩, ?_, oB (fun _ => rfl) rfl, oB (fun _ => rfl) rfl, fun _ _ _ => WL.take rfl <| Je (off := 1) JM rfl rfl <| Ja ⟨rfl, rfl⟩, fun _ hE _ => have hS := hS.grow (hE rfl); WL.take rfl <| Jp 12 1 Jy hS rfl rfl rfl ⟨rfl, rfl⟩ <| Ja ⟨rfl, Jg _⟩, fun _ _ _ => WL.take rfl <| WL.len Jy rfl rfl <| Ja ⟨rfl, rfl⟩, ?_, oB (fun _ => rfl) rfl, oB (fun _ => rfl) rfl, fun _ _ _ => WL.take rfl <| Je (off := 1) JM rfl rfl <| Ja ⟨rfl, rfl⟩, fun _ hE _ => have hS := hS.grow (hE rfl); WL.take rfl <| Jp 10 1 Jy hS rfl rfl rfl ⟨rfl, rfl⟩ <| Ja ⟨rfl, Jg _⟩, ?_, ?_, ?_, oB (fun _ => rfl) rfl, oB (fun _ => rfl) rfl, oB (fun _ => rfl) rfl, ?_, ?_, oB (fun _ => rfl) rfl, oB (fun _ => rfl) rfl, oB (fun _ => rfl) rfl, ?_, ?_, oB (fun _ => rfl) rfl, oB (fun _ => rfl) rfl, fun _ _ _ => WL.take rfl <| Je (off := 1) JM rfl rfl <| Ja ⟨rfl, rfl⟩, fun _ hE _ => have hS := hS.grow (hE rfl); WL.take rfl <| Jp 4 1 Jy hS rfl rfl rfl ⟨rfl, rfl⟩ <| Ja ⟨rfl, Jg _⟩, ?_, ?_, ?_, ?_, oB (fun _ => rfl) rfl, oB (fun _ => rfl) rfl, fun _ _ _ => WL.take rfl <| Je (off := 1) JM rfl rfl <| Ja ⟨rfl, rfl⟩, fun _ hE _ => have hS := hS.grow (hE rfl); WL.take rfl <| Jp 1 1 Jy hS rfl rfl rfl ⟨rfl, rfl⟩ <| Ja ⟨rfl, Jg _⟩, ?_, ?_, ?_, oB (fun _ => rfl) rfl, oB (fun _ => rfl) rfl, ?_, oB (fun _ => rfl) rfl, oB (fun _ => rfl) rfl, oB (fun _ => rfl) rfl, ?_, oB (fun _ => rfl) rfl, oB (fun _ => rfl) rfl, fun _ hE _ => have hS := hS.grow (hE rfl); WL.take rfl <| Jh (cs := [nI 2, nI 1, .slice none 0 0]) JY J2 rfl rfl (Jc (hS.own (i := 23) rfl)) rfl <| Ja ⟨rfl, Jg _⟩, fun _ hE _ => have hS := hS.grow (hE rfl); WL.take rfl <| Jh (cs := [nI c36, nS A39 x37 k40]) Ju JL rfl rfl (Jc (hS.own (i := 14) rfl)) rfl <| Ja ⟨rfl, Jg _⟩, ?_, oB (fun _ => rfl) rfl, oB (fun _ => rfl) rfl, oB (fun _ => rfl) rfl, trivial⟩
   . intro w131 hE; intro RR; refine Jm rfl rfl ?_; rw [o132]; exact Ja ⟨rfl, rfl⟩
   . intro w136 hE; have hE := hE rfl; have hS := hS.grow hE; intro RR; refine WL.take rfl <| WL.call XF43 rfl XN43 rfl rfl (JQ (Jwz  o144)) ?_; rintro _ w142 ⟨_, hGw142, hRww142, hNww142, x137q, A138, k139, hs140, rfl, rfl, he⟩; subst he; have hR143 := hRww142.mxbase hE.size; exact Ja ⟨_, rfl, hGw142, ⟨A138, k139, hs140, rfl, hR143⟩, (fun _ => fun g hg => YO hRww142 hg), (fun j h => by cases h)⟩
   . intro w145 hE; have hS := hS.grow (hE rfl); rintro _ ⟨A138_4, k139_4, hs140_4, rfl, hR143_4⟩; intro RR; refine WL.take rfl <| WL.call XF42 rfl XN42 rfl rfl (JQ (Zd (hS.rl (i := 15) rfl) (Jxa hR143_4) o148)) ?_; rintro _ w147 ⟨_, hGw147, hRww147, hNww147, r146, rfl, rfl, he⟩; subst he; exact Ja ⟨rfl, hGw147⟩
   . intro w153 hE; intro RR; refine WL.take rfl <| Jca rfl rfl rfl ?_; rw [decide_eq_true o154]; exact Ja ⟨rfl, rfl⟩
   . intro w160 hE; intro RR; refine WL.take rfl <| Jca rfl rfl rfl ?_; rw [decide_eq_true o161]; exact Ja ⟨rfl, rfl⟩
   . intro w166 hE; have hE := hE rfl; have hS := hS.grow hE; intro RR; refine WL.take rfl <| YU (vs := is ([(1 : Int), (1 : Int), (1 : Int)] : List Int)) Js XE3 rfl rfl rfl rfl (Qd _) rfl ?_; intro A167 k170 w168 hO171 hN172g hGw168; have hN172 : ∀ g, bl A167 = some g -> _ <= g := fun g hg => Nat.le_trans hE.size (hN172g g hg); exact Ja ⟨_, rfl, hGw168, ⟨A167, k170, rfl, hO171, hN172⟩, (fun _ => fun g hg => ⟨hN172g g hg, (hO171.bl_ge g hg).2⟩), (fun j h => by cases h)⟩
   . intro w173 hE; have hE := hE rfl; have hS := hS.grow hE; rintro _ ⟨A167_21, k170_21, rfl, hO171_21, hN172_21⟩; intro RR; refine WL.take rfl <| YU (vs := [.slice A167_21 3 k170_21]) Jy JE rfl rfl rfl rfl (by simp [Value.oneCell']) rfl ?_; intro A174 k177 w175 hO178 hN179g hGw175; have hN179 : ∀ g, bl A174 = some g -> _ <= g := fun g hg => Nat.le_trans hE.size (hN179g g hg); exact Ja ⟨_, rfl, hGw175, ⟨A174, k177, A167_21, k170_21, rfl, hO178, hN179, (hO171_21.ext hGw175), hN172_21⟩, (fun _ => fun g hg => ⟨hN179g g hg, (hO178.bl_ge g hg).2⟩), (fun j h => by cases h)⟩
   . intro w180 hE; have hS := hS.grow (hE rfl); rintro _ ⟨A174_22, k177_22, A167_21_22, k170_21_22, rfl, hO178_22, hN179_22, hO171_21_22, hN172_21_22⟩; intro RR; refine WL.take rfl <| WL.call XF42 rfl XN42 rfl rfl (JQ (Zd (hS.rl (i := 11) rfl) (⟨_, _, hO178_22.rd, ⟨⟨_, _, _, rfl, (Qh hO171_21_22.rd)⟩, trivial⟩⟩ : Rl _ _ _ _ ([([(1 : Int), (1 : Int), (1 : Int)] : List Int)] : List (List Int))) o183)) ?_; rintro _ w182 ⟨_, hGw182, hRww182, hNww182, r181, rfl, rfl, he⟩; subst he; exact Ja ⟨rfl, hGw182⟩
   . intro w187 hE; have hE := hE rfl; have hS := hS.grow hE; intro RR; refine WL.take rfl <| YU (vs := is ([(1 : Int), (1 : Int)] : List Int)) Js XE3 rfl rfl rfl rfl (Qd _) rfl ?_; intro A188 k191 w189 hO192 hN193g hGw189; have hN193 : ∀ g, bl A188 = some g -> _ <= g := fun g hg => Nat.le_trans hE.size (hN193g g hg); exact Ja ⟨_, rfl, hGw189, ⟨A188, k191, rfl, hO192, hN193⟩, (fun _ => fun g hg => ⟨hN193g g hg, (hO192.bl_ge g hg).2⟩), (fun j h => by cases h)⟩
   . intro w194 hE; have hS := hS.grow (hE rfl); rintro _ ⟨A188_27, k191_27, rfl, hO192_27, hN193_27⟩; intro RR; refine WL.take rfl <| WL.call XF30 rfl XN30 rfl rfl (JQ (Jal (hS.rd (i := 8) rfl) hO192_27.rd o197)) ?_; rintro _ w196 ⟨_, hGw196, hRww196, hNww196, r195, rfl, rfl, he⟩; subst he; exact Ja ⟨rfl, hGw196⟩
   . intro w201 hE; have hE := hE rfl; have hS := hS.grow hE; intro RR; refine WL.take rfl <| YU (vs := is ([(0 : Int), (0 : Int), (1 : Int)] : List Int)) Js XE3 rfl rfl rfl rfl (Qd _) rfl ?_; intro A202 k205 w203 hO206 hN207g hGw203; have hN207 : ∀ g, bl A202 = some g -> _ <= g := fun g hg => Nat.le_trans hE.size (hN207g g hg); exact Ja ⟨_, rfl, hGw203, ⟨A202, k205, rfl, hO206, hN207⟩, (fun _ => fun g hg => ⟨hN207g g hg, (hO206.bl_ge g hg).2⟩), (fun j h => by cases h)⟩
   . intro w208 hE; have hS := hS.grow (hE rfl); rintro _ ⟨A202_32, k205_32, rfl, hO206_32, hN207_32⟩; intro RR; refine WL.take rfl <| WL.call XF30 rfl XN30 rfl rfl (JQ (Jal (hS.rd (i := 6) rfl) hO206_32.rd o211)) ?_; rintro _ w210 ⟨_, hGw210, hRww210, hNww210, r209, rfl, rfl, he⟩; subst he; exact Ja ⟨rfl, hGw210⟩
   . intro w216 hE; have hE := hE rfl; have hS := hS.grow hE; intro RR; refine WL.take rfl <| YU (vs := is ([(0 : Int), (1 : Int), (0 : Int)] : List Int)) Js XE3 rfl rfl rfl rfl (Qd _) rfl ?_; intro A217 k220 w218 hO221 hN222g hGw218; have hN222 : ∀ g, bl A217 = some g -> _ <= g := fun g hg => Nat.le_trans hE.size (hN222g g hg); exact Ja ⟨_, rfl, hGw218, ⟨A217, k220, rfl, hO221, hN222⟩, (fun _ => fun g hg => ⟨hN222g g hg, (hO221.bl_ge g hg).2⟩), (fun j h => by cases h)⟩
   . intro w223 hE; have hE := hE rfl; have hS := hS.grow hE; intro RR; refine WL.take rfl <| YU (vs := is ([(0 : Int), (0 : Int), (1 : Int)] : List Int)) Js XE3 rfl rfl rfl rfl (Qd _) rfl ?_; intro A224 k227 w225 hO228 hN229g hGw225; have hN229 : ∀ g, bl A224 = some g -> _ <= g := fun g hg => Nat.le_trans hE.size (hN229g g hg); exact Ja ⟨_, rfl, hGw225, ⟨A224, k227, rfl, hO228, hN229⟩, (fun _ => fun g hg => ⟨hN229g g hg, (hO228.bl_ge g hg).2⟩), (fun j h => by cases h)⟩
   . intro w230 hE; have hE := hE rfl; have hS := hS.grow hE; rintro _ ⟨A217_38, k220_38, rfl, hO221_38, hN222_38⟩; rintro _ ⟨A224_39, k227_39, rfl, hO228_39, hN229_39⟩; intro RR; refine WL.take rfl <| YU (vs := [.slice A217_38 3 k220_38, .slice A224_39 3 k227_39]) Jy JE rfl rfl rfl rfl (by simp [Value.oneCell']) rfl ?_; intro A231 k234 w232 hO235 hN236g hGw232; have hN236 : ∀ g, bl A231 = some g -> _ <= g := fun g hg => Nat.le_trans hE.size (hN236g g hg); exact Ja ⟨_, rfl, hGw232, ⟨A231, k234, A217_38, k220_38, A224_39, k227_39, rfl, hO235, hN236, (hO221_38.ext hGw232), hN222_38, (hO228_39.ext hGw232), hN229_39⟩, (fun _ => fun g hg => ⟨hN236g g hg, (hO235.bl_ge g hg).2⟩), (fun j h => by cases h)⟩
   . intro w237 hE; have hS := hS.grow (hE rfl); rintro _ ⟨A231_40, k234_40, A217_38_40, k220_38_40, A224_39_40, k227_39_40, rfl, hO235_40, hN236_40, hO221_38_40, hN222_38_40, hO228_39_40, hN229_39_40⟩; intro RR; refine WL.take rfl <| WL.call XF42 rfl XN42 rfl rfl (JQ (Zd (hS.rl (i := 5) rfl) (⟨_, _, hO235_40.rd, ⟨⟨_, _, _, rfl, (Qh hO221_38_40.rd)⟩, ⟨_, _, _, rfl, (Qh hO228_39_40.rd)⟩, trivial⟩⟩ : Rl _ _ _ _ ([([(0 : Int), (1 : Int), (0 : Int)] : List Int), ([(0 : Int), (0 : Int), (1 : Int)] : List Int)] : List (List Int))) o240)) ?_; rintro _ w239 ⟨_, hGw239, hRww239, hNww239, r238, rfl, rfl, he⟩; subst he; exact Ja ⟨rfl, hGw239⟩
   . intro w245 hE; have hE := hE rfl; have hS := hS.grow hE; intro RR; refine WL.take rfl <| YU (vs := is ([(0 : Int), (1 : Int), (1 : Int)] : List Int)) Js XE3 rfl rfl rfl rfl (Qd _) rfl ?_; intro A246 k249 w247 hO250 hN251g hGw247; have hN251 : ∀ g, bl A246 = some g -> _ <= g := fun g hg => Nat.le_trans hE.size (hN251g g hg); exact Ja ⟨_, rfl, hGw247, ⟨A246, k249, rfl, hO250, hN251⟩, (fun _ => fun g hg => ⟨hN251g g hg, (hO250.bl_ge g hg).2⟩), (fun j h => by cases h)⟩
   . intro w252 hE; have hE := hE rfl; have hS := hS.grow hE; rintro _ ⟨A246_46, k249_46, rfl, hO250_46, hN251_46⟩; intro RR; refine WL.take rfl <| YU (vs := [.slice A246_46 3 k249_46]) Jy JE rfl rfl rfl rfl (by simp [Value.oneCell']) rfl ?_; intro A253 k256 w254 hO257 hN258g hGw254; have hN258 : ∀ g, bl A253 = some g -> _ <= g := fun g hg => Nat.le_trans hE.size (hN258g g hg); exact Ja ⟨_, rfl, hGw254, ⟨A253, k256, A246_46, k249_46, rfl, hO257, hN258, (hO250_46.ext hGw254), hN251_46⟩, (fun _ => fun g hg => ⟨hN258g g hg, (hO257.bl_ge g hg).2⟩), (fun j h => by cases h)⟩
   . intro w259 hE; have hS := hS.grow (hE rfl); rintro _ ⟨A253_47, k256_47, A246_46_47, k249_46_47, rfl, hO257_47, hN258_47, hO250_46_47, hN251_46_47⟩; intro RR; refine WL.take rfl <| WL.call XF42 rfl XN42 rfl rfl (JQ (Zd (hS.rl (i := 2) rfl) (⟨_, _, hO257_47.rd, ⟨⟨_, _, _, rfl, (Qh hO250_46_47.rd)⟩, trivial⟩⟩ : Rl _ _ _ _ ([([(0 : Int), (1 : Int), (1 : Int)] : List Int)] : List (List Int))) o262)) ?_; rintro _ w261 ⟨_, hGw261, hRww261, hNww261, r260, rfl, rfl, he⟩; subst he; exact Ja ⟨rfl, hGw261⟩
   . intro w265 hE; intro RR; refine WL.take rfl <| Jm rfl rfl ?_; rw [o266]; exact Ja ⟨rfl, rfl⟩
   . intro w270 hE; intro RR; refine WL.take rfl <| Jm rfl rfl ?_; rw [o271]; exact Ja ⟨rfl, rfl⟩
   intro w276 hE; have hS := hS.grow (hE rfl); intro RR; refine WL.take rfl <| WL.call Jon rfl Jtn rfl rfl (JQ (Zm (YV w276) (hS.rl (i := 15) rfl) o279)) ?_; rintro _ w278 ⟨_, hGw278, hRww278, hNww278, r277q, rfl, rfl, he⟩; subst he; exact Ja ⟨rfl, hGw278⟩
 intro vals w283 hT hVs hAp hCp; have hS := hS.grow hT; obtain ⟨A138_4, k139_4, hs140_4, hv4, hR143_4⟩ := hVs 4 (by decide); obtain ⟨A167_21, k170_21, hv21, hO171_21, hN172_21⟩ := hVs 21 (by decide); obtain ⟨A174_22, k177_22, A167_21_22, k170_21_22, hv22, hO178_22, hN179_22, hO171_21_22, hN172_21_22⟩ := hVs 22 (by decide); obtain ⟨A188_27, k191_27, hv27, hO192_27, hN193_27⟩ := hVs 27 (by decide); obtain ⟨A202_32, k205_32, hv32, hO206_32, hN207_32⟩ := hVs 32 (by decide); obtain ⟨A217_38, k220_38, hv38, hO221_38, hN222_38⟩ := hVs 38 (by decide); obtain ⟨A224_39, k227_39, hv39, hO228_39, hN229_39⟩ := hVs 39 (by decide); obtain ⟨A231_40, k234_40, A217_38_40, k220_38_40, A224_39_40, k227_39_40, hv40, hO235_40, hN236_40, hO221_38_40, hN222_38_40, hO228_39_40, hN229_39_40⟩ := hVs 40 (by decide); obtain ⟨A246_46, k249_46, hv46, hO250_46, hN251_46⟩ := hVs 46 (by decide); obtain ⟨A253_47, k256_47, A246_46_47, k249_46_47, hv47, hO257_47, hN258_47, hO250_46_47, hN251_46_47⟩ := hVs 47 (by decide); refine QV [(4, nS A138_4 x137 k139_4), (21, .slice A167_21 3 k170_21), (22, .slice A174_22 1 k177_22), (27, .slice A188_27 2 k191_27), (32, .slice A202_32 3 k205_32), (38, .slice A217_38 3 k220_38), (39, .slice A224_39 3 k227_39), (40, .slice A231_40 2 k234_40), (46, .slice A246_46 3 k249_46), (47, .slice A253_47 1 k256_47)] ⟨hv4, hv21, hv22, hv27, hv32, hv38, hv39, hv40, hv46, hv47, trivial⟩ <| Jv (by decide +kernel) <| W.ret <| ⟨_, rfl, Fin.nil ?_⟩
 exact (hS.pick [] rfl).fin rfl ⟨(decide (r277 = (0 : Int))), rfl, rfl, hv⟩
def Jr4 (Ca : Int) (a : List (List Int)) (Cb : Int) (b : List (List Int)) (Q : Bool -> Prop) : Prop :=
  ((Ca <= (20 : Int)) -> (((Cb <= (20 : Int)) -> (Jhi Ca a (150 : Int) (fun r18 => ((r18 = true) -> (Jhi Cb b (150 : Int) (fun r21 => Q r21))) /\ (r18 = false -> Q false)))) /\ (¬ (Cb <= (20 : Int)) -> Q false))) /\ (¬ (Ca <= (20 : Int)) -> Q false)
theorem ok_few {w : World} {Q : Bool -> Prop} {Ca : Int} {a : List (List Int)} {Cb : Int} {b : List (List Int)} {Aa : Option Addr} {na ka : Nat} (ha : Rl w Aa na ka a) {Ab : Option Addr} {nb kb : Nat} (hb : Rl w Ab nb kb b) (hv : Jr4 Ca a Cb b Q) :
   Calls Tryz.prog 12 #[.agg #[.int .i64 Ca, .slice Aa na ka], .agg #[.int .i64 Cb, .slice Ab nb kb]] w fun e w' => ∃ v Qr, e = .returned v /\ w.grownBy w' none /\ Rows w.heap.size none w' Qr /\ News w.heap.size Qr /\ ∃ (r0 : Bool), v = .bool r0 /\ Qr = [] /\ Q r0 := by
 have hna := ha.len; subst hna; obtain ⟨hsa, hHa⟩ := ha.heads; have hnb := hb.len; subst hnb; obtain ⟨hsb, hHb⟩ := hb.heads; refine Jk <| Jj (vs := [.agg #[nI Ca, nS Aa a ka], .agg #[nI Cb, nS Ab b kb]]) [4] XF12 rfl rfl rfl rfl ?_; have hS := Jr w; unfold Jr4 at hv; refine Jd 2 <| JC (z := 2) (cs := [nI Ca, nS Aa a ka]) hS rfl rfl rfl rfl ?_; intro g11 w12 hS; refine JC (z := 2) (cs := [nI Cb, nS Ab b kb]) hS rfl rfl rfl rfl ?_; intro g13 w14 hS; refine Jb 2 <| Jd 2 <| Je (off := 0) Qf rfl rfl <| Jp 1 0 XU3 hS rfl rfl rfl ⟨rfl, rfl⟩ <| Jrz rfl rfl rfl <| Jm rfl rfl ?_; by_cases g15 : Ca <= (20 : Int)
 .have hv := hv.1 g15; rw [decide_eq_true g15]; refine WL.take rfl <| Je (off := 0) Qf rfl rfl <| WL.take rfl <| Jp 0 0 XU3 hS rfl rfl rfl ⟨rfl, rfl⟩ <| Jb 3 <| Jm rfl rfl ?_; by_cases g16 : Cb <= (20 : Int)
  .have hv := hv.1 g16; rw [decide_eq_true g16]; refine WL.take rfl <| Jh (cs := [nI Ca, nS Aa a ka]) Ju JL rfl rfl (Jc (hS.own (i := 1) rfl)) rfl <| WL.take rfl <| SL.call hS (Jqw (RlH.rl (RlH.ext hHa hS.ext)) hv) XF44 rfl XN44 rfl rfl ?_; rintro _ _ w17 ⟨r18, rfl, rfl, hv⟩ hGw17 hS; have hS := hS.n0; refine WL.pick rfl rfl rfl <| Jm rfl rfl ?_; cases g19 : r18
   .have hv := hv.2 g19; refine Jb 5 <| W.ret <| ⟨_, rfl, Fin.nil ?_⟩
    exact (hS.pick [] rfl).fin rfl ⟨false, rfl, rfl, hv⟩
   have hv := hv.1 g19; refine WL.take rfl <| Jh (cs := [nI Cb, nS Ab b kb]) Ju JL rfl rfl (Jc (hS.own (i := 0) rfl)) rfl <| WL.take rfl <| SL.call hS (Jqw (RlH.rl (RlH.ext hHb hS.ext)) hv) XF44 rfl XN44 rfl rfl ?_; rintro _ _ w20 ⟨r21, rfl, rfl, hv⟩ hGw20 hS; have hS := hS.n0; refine Jb 3 <| W.ret <| ⟨_, rfl, Fin.nil ?_⟩
   exact (hS.pick [] rfl).fin rfl ⟨r21, rfl, rfl, hv⟩
  have hv := hv.2 g16; rw [decide_eq_false g16]; refine Jb 9 <| W.ret <| ⟨_, rfl, Fin.nil ?_⟩
  exact (hS.pick [] rfl).fin rfl ⟨false, rfl, rfl, hv⟩
 have hv := hv.2 g15; rw [decide_eq_false g15]; refine Jb 14 <| W.ret <| ⟨_, rfl, Fin.nil ?_⟩
 exact (hS.pick [] rfl).fin rfl ⟨false, rfl, rfl, hv⟩
def Zg (Pf : Int) (Mf : Int) (mf : List Int) (Cm : Int) (m : List (List Int)) (Q : Int × List (List Int) × Bool -> Prop) : Prop :=
  Jcb Pf Mf mf Cm m (fun r18 => ((r18 ≠ (0 : Int)) -> (Q ((0 : Int), ([] : List (List Int)), false))) /\ (¬ (r18 ≠ (0 : Int)) -> (Ys Pf Mf mf Cm m (fun q => match q with | (c23, x24, x25, r26) => Q (c23, x24, (decide (r26 = (0 : Int))))))))
theorem Jhs {w : World} {Q : Int × List (List Int) × Bool -> Prop} {Pf : Int} {Mf : Int} {mf : List Int} {Cm : Int} {m : List (List Int)} {Bf : Nat} {Af : Option Addr} {nf kf : Nat} (hf : Rd Bf w 1 Af nf kf (is mf)) {Am : Option Addr} {nm km : Nat} (hm : Rl w Am nm km m) (hv : Zg Pf Mf mf Cm m Q) :
   Calls Tryz.prog 35 #[.agg #[.int .i64 Pf, .int .i64 Mf, .slice Af nf kf], .agg #[.int .i64 Cm, .slice Am nm km]] w fun e w' => ∃ v Qr, e = .returned v /\ w.grownBy w' none /\ Rows w.heap.size none w' Qr /\ News w.heap.size Qr /\ ∃ (c0 : Int) (r0 : List (List Int)) (r1 : Bool) (A0 : Option Addr) (k0 : Nat) (hs0 : Hs), v = .tuple #[.agg #[.int .i64 c0, .slice A0 r0.length k0], .bool r1] /\ Qr = [mx 22 3 A0 r0.length k0 hs0 r0] /\ Q (c0, r0, r1) := by
 have hnf := hf.ilen; subst hnf; have hnm := hm.len; subst hnm; obtain ⟨hsm, hHm⟩ := hm.heads; refine Jk <| Qe (vs := [.agg #[nI Pf, nI Mf, nS Af mf kf], .agg #[nI Cm, nS Am m km]]) [.cell 4 27, .tmp 5] XF35 rfl rfl rfl rfl ?_; have hS := Jr w; unfold Zg at hv; refine Jd 2 <| JC (z := 3) (cs := [nI Pf, nI Mf, nS Af mf kf]) hS rfl rfl rfl rfl ?_; intro g11 w12 hS; refine JC (z := 2) (cs := [nI Cm, nS Am m km]) hS rfl rfl rfl rfl ?_; intro g13 w14 hS; refine SL.alloc (cs := [nI 0, .slice none 0 0]) hS Ju rfl rfl ?_; intro g15 w16 hS; refine Jb 2 <| Jd 3 <| Jh (cs := [nI Pf, nI Mf, nS Af mf kf]) JY J2 rfl rfl (Jc (hS.own (i := 2) rfl)) rfl <| Jh (cs := [nI Cm, nS Am m km]) Ju JL rfl rfl (Jc (hS.own (i := 1) rfl)) rfl <| SL.call hS (Jnj (hS.ro hf) (RlH.rl (RlH.ext hHm hS.ext)) hv) XF54 rfl XN54 rfl rfl ?_; rintro _ _ w17 ⟨r18, rfl, rfl, hv⟩ hGw17 hS; have hS := hS.n0; refine Jb 2 <| Ji rfl (fun c19 => ?_) (fun c19 => ?_)
 .have hv := hv.1 (oT c19); refine Jd 2 <| JP (cells := #[nI 0, .slice none 0 0]) Q6 rfl rfl rfl <| Jq (cs := [nI 0, .slice none 0 0]) 0 hS rfl Ju rfl rfl rfl rfl rfl ?_; intro w20 hS; refine Jb 2 <| W.ret ?_; have hS := hS.mxNil 22 3; have hm0 := hS.mxlen (i := 0) rfl; have hS := hS.relenMx (i := 0) rfl hm0.symm
  change St _ _ _ _ [_, _, _, _] at hS
  repeat with_reducible first | refine blk.ret ?_ | refine exits.retI ?_
  refine endC.mk ⟨[.agg #[nI 0, .slice none 0 0], .bool false], ⟨_, _, _, rfl, rfl, JF (cs := [nI 0, .slice none 0 0]) Ju JL rfl (Jc (hS.own (i := 1) rfl)), ⟨_, _, rfl, rfl, rfl⟩⟩, ?_⟩; exact ⟨_, hS.ext, (hS.pick [0] rfl).rows, JR (hS.pick [0] rfl).rows rfl, ⟨(0 : Int), ([] : List (List Int)), false, none, 0, (fun _ => (none, 0)), (by (try unfold nS); first | (rw [show (Value.slice none 0 0) = Value.slice none (([] : List (List Int))).length 0 from sm0 hm0.symm]; done) | (rw [show (Value.slice none 0 0) = Value.slice none (([] : List (List Int))).length 0 from sm0 hm0.symm]; rfl)), rfl, hv⟩⟩
 have hv := hv.2 (oF c19); refine Jl <| Jd 2 <| Jh (cs := [nI Pf, nI Mf, nS Af mf kf]) JY J2 rfl rfl (Jc (hS.own (i := 2) rfl)) rfl <| Jh (cs := [nI Cm, nS Am m km]) Ju JL rfl rfl (Jc (hS.own (i := 1) rfl)) rfl <| SL.call hS (Jap (hS.ro hf) (RlH.rl (RlH.ext hHm hS.ext)) hv) XF71 rfl XN71 rfl rfl ?_; rintro _ _ w22 ⟨c23, x24, x25, r26, A27, k28, hs29, A31, k32, rfl, rfl, hv⟩ hGw22 hS; have hS := hS.n2; refine Jb 4 <| SL.alloc (cs := [nI 0, .slice none 0 0]) hS Ju rfl rfl ?_; intro g34 w35 hS; refine Jq (cs := [nI c23, nS A27 x24 k28]) 0 hS rfl Ju rfl rfl rfl rfl rfl ?_; intro w36 hS; refine Jb 3 <| Jd 2 <| Jh (cs := [nI c23, nS A27 x24 k28]) Ju JL rfl rfl (Jc (hS.own (i := 0) rfl)) rfl <| Jb 2 <| Jq (cs := [nI c23, nS A27 x24 k28]) 3 hS rfl Ju rfl rfl rfl rfl rfl ?_; intro w37 hS; refine Jb 2 <| W.ret ?_; have hS := hS.pick [1, 0, 2, 3, 4, 5] rfl
 change St _ _ _ _ [_, _, _, _, _, _] at hS
 repeat with_reducible first | refine blk.ret ?_ | refine exits.retI ?_
 refine endC.mk ⟨[.agg #[nI c23, nS A27 x24 k28], .bool (decide (r26 = (0 : Int)))], ⟨_, _, _, rfl, rfl, JF (cs := [nI c23, nS A27 x24 k28]) Ju JL rfl (Jc (hS.own (i := 3) rfl)), ⟨_, _, rfl, rfl, rfl⟩⟩, ?_⟩; exact (hS.pick [0] rfl).fin rfl ⟨c23, x24, (decide (r26 = (0 : Int))), A27, k28, hs29, rfl, rfl, hv⟩
end Go.Proofs.YtngdhnijkgjhcaaGreat
set_option linter.unusedSimpArgs false
set_option linter.unusedVariables false
set_option maxRecDepth 4000
set_option maxHeartbeats 4000000
namespace Go.Proofs.YtngdhnijkgjhcaaGreat
open Go.RowKit
end Go.Proofs.YtngdhnijkgjhcaaGreat
set_option linter.unusedSimpArgs false
set_option linter.unusedVariables false
set_option maxRecDepth 4000
set_option maxHeartbeats 4000000
namespace Go.Proofs.YtngdhnijkgjhcaaGreat
open Go.RowKit
end Go.Proofs.YtngdhnijkgjhcaaGreat
set_option linter.unusedSimpArgs false
set_option linter.unusedVariables false
set_option maxRecDepth 4000
set_option maxHeartbeats 4000000
namespace Go.Proofs.YtngdhnijkgjhcaaGreat
open Go.RowKit
end Go.Proofs.YtngdhnijkgjhcaaGreat
set_option linter.unusedVariables false
namespace Go.Proofs.YtngdhnijkgjhcaaGreat
open Go.RowKit
theorem Al.drop {w : World} : ∀ {vs : List Value} {ls : List (List Int)} (k : Nat), Al w vs ls -> Al w (vs.drop k) (ls.drop k)
  | [], [], k, _ => by simp [Al]
  | v :: vs, l :: ls, 0, h => h
  | v :: vs, l :: ls, k + 1, h => Al.drop (vs := vs) (ls := ls) k h.2
  | [], _ :: _, _, h => h.elim
  | _ :: _, [], _, h => h.elim
theorem Rl.drop {w : World} {A : Option Addr} {n k : Nat} {ls : List (List Int)} (h : Rl w A n k ls) {J : Int} (hJ : 0 <= J /\ J <= (n : Nat)) : Rl w (if k = J.toNat then A else A.map (·.add (J.toNat * 1))) (n - J.toNat) (k - J.toNat) (ls.drop J.toNat) := by
 obtain ⟨B, cs, h1, h2⟩ := h.ex; have h3 := h1.drop (k := J.toNat) (by omega); have e : cs.drop (J.toNat * 1) = cs.drop J.toNat := by rw [Nat.mul_one]
 rw [e] at h3; exact ⟨B, _, h3, h2.drop _⟩
theorem Jzi {x : Int} (h : (Lit.int .u32 x).wf = true) : 0 <= x /\ x <= 4294967295 := by
 simp [Lit.wf, IntKind.min, IntKind.max, IntKind.signed, IntKind.bits] at h; exact ⟨by omega, by omega⟩
end Go.Proofs.YtngdhnijkgjhcaaGreat
namespace Go.Proofs.YtngdhnijkgjhcaaGreat
open Go.RowKit
def Jsv (x y : Int) : Int := ((x.toNat &&& y.toNat : Nat) : Int)
end Go.Proofs.YtngdhnijkgjhcaaGreat
namespace Go.Proofs.YtngdhnijkgjhcaaGreat
open Go.RowKit
def Je6 (x y : Int) : Int := x.fdiv (2 ^ min y.toNat IntKind.u32.bits)
theorem Jwg {P : Program} {w : World} {x y : Int} (h : 0 <= x /\ x < 4294967296 /\ 0 <= y /\ y < 4294967296) : (Op.intBits .and .u32 x y).run P w = .ok (.int .u32 (Jsv x y)) w := by
 obtain ⟨h1, h2, h3, h4⟩ := h; obtain ⟨a, rfl⟩ := Int.eq_ofNat_of_zero_le h1; obtain ⟨b, rfl⟩ := Int.eq_ofNat_of_zero_le h3; have ha : a < 2 ^ 32 := by omega
 have hb : b < 2 ^ 32 := by omega
 have hab : a &&& b < 2 ^ 32 := Nat.and_lt_two_pow a hb; have e1 : (BitVec.ofInt 32 (a : Int) &&& BitVec.ofInt 32 (b : Int)).toNat = a &&& b := by
  rw [BitVec.ofInt_natCast, BitVec.ofInt_natCast, BitVec.toNat_and, BitVec.toNat_ofNat, BitVec.toNat_ofNat, Nat.mod_eq_of_lt (by omega), Nat.mod_eq_of_lt (by omega)]
 have e2 : IntKind.u32.wrap ((a &&& b : Nat) : Int) = ((a &&& b : Nat) : Int) := by
  show (((a &&& b : Nat) : Int)) % (2 ^ 32 : Int) = _; exact Int.emod_eq_of_lt (by omega) (by omega)
 show Result.ok (Value.int .u32 (IntKind.u32.wrap ((BitVec.ofInt 32 (a : Int) &&& BitVec.ofInt 32 (b : Int)).toNat : Int))) w = Result.ok (Value.int .u32 (((a : Int).toNat &&& (b : Int).toNat : Nat) : Int)) w; rw [e1, e2]; rfl
end Go.Proofs.YtngdhnijkgjhcaaGreat
set_option linter.unusedSimpArgs false
set_option linter.unusedVariables false
set_option maxRecDepth 4000
set_option maxHeartbeats 4000000
namespace Go.Proofs.YtngdhnijkgjhcaaGreat
open Go.RowKit
def Jc9 (Pf : Int) (Mf : Int) (mf : List Int) (Cm : Int) (m : List (List Int)) (bits : Int) (Q : Bool -> Prop) : Prop :=
  Jch  (fun r16 => (((!r16) = true) -> (Jch  (fun r19 => Q r19))) /\ ((!r16) = false -> (Jr4 Cm m Cm m (fun r21 => (((!r21) = true) -> (Jch  (fun r24 => Q r24))) /\ ((!r21) = false -> (Zg Pf Mf mf Cm m (fun q => match q with | (c26, x27, r28) => (((!r28) = true) -> Q true) /\ ((!r28) = false -> (((c26 < (0 : Int)) -> Q true) /\ (¬ (c26 < (0 : Int)) -> ((((20 : Int) < c26) -> Q true) /\ (¬ ((20 : Int) < c26) -> (∃ (I66 : List Int -> List Int -> Int -> Prop) (μ67 : List Int -> List Int -> Int -> Nat), I66 ([] : List Int) ([] : List Int) (0 : Int) /\ ∀ (x57 : List Int) (x61 : List Int) (z65 : Int), (I66 x57 x61 z65 -> (((z65 < c26) -> (∃ J76 : List Int -> List Int -> Prop, ((0 <= z65) /\ ((0 <= (Je6 bits z65) /\ (Je6 bits z65) < 4294967296 /\ 0 <= (1 : Int) /\ (1 : Int) < 4294967296) /\ ((((Jsv (Je6 bits z65) (1 : Int)) = (1 : Int)) -> ((((x57.length : Nat) + (1 : Nat) : Int) * 8 <= 140737488355328) /\ (J76 (x57 ++ ([z65] : List Int)) x61))) /\ (¬ ((Jsv (Je6 bits z65) (1 : Int)) = (1 : Int)) -> ((((x61.length : Nat) + (1 : Nat) : Int) * 8 <= 140737488355328) /\ (J76 x57 (x61 ++ ([z65] : List Int)))))))) /\ ∀ (x70 : List Int) (x73 : List Int), (J76 x70 x73 -> ((I64 (z65 + (1 : Int))) /\ (I66 x70 x73 (z65 + (1 : Int)) /\ μ67 x70 x73 (z65 + (1 : Int)) < μ67 x57 x61 z65))))) /\ (¬ (z65 < c26) -> (Y4 Pf Mf mf c26 x27 x57 (fun q => match q with | (c98, x99, r100) => Jad Pf Mf mf c98 x99 c26 x27 (fun q => match q with | (r109, r110) => Jae Pf Mf mf c26 x27 x61 (fun q => match q with | (c112, x113, r114) => Jj8 Pf Mf mf c112 x113 (fun q => match q with | (r123, r124) => ((r100 ≠ (0 : Int)) -> Q false) /\ (¬ (r100 ≠ (0 : Int)) -> (((r110 ≠ (0 : Int)) -> Q false) /\ (¬ (r110 ≠ (0 : Int)) -> (((r114 ≠ (0 : Int)) -> Q false) /\ (¬ (r114 ≠ (0 : Int)) -> (((r124 ≠ (0 : Int)) -> Q false) /\ (¬ (r124 ≠ (0 : Int)) -> ((((!r109) = true) -> Q false) /\ ((!r109) = false -> ((I64 ((x27.length : Int) - r123)) /\ ((((x99.length : Int) ≠ ((x27.length : Int) - r123)) -> Q false) /\ (¬ ((x99.length : Int) ≠ ((x27.length : Int) - r123)) -> (∃ (I135 : Int -> Prop) (μ136 : Int -> Nat), I135 (0 : Int) /\ ∀ (z134 : Int), (I135 z134 -> (((z134 < (x99.length : Int)) -> ((0 <= z134 /\ z134 < (x99.length : Nat)) /\ (∃ (I143 : Int -> Prop) (μ144 : Int -> Nat), I143 (0 : Int) /\ ∀ (z142 : Int), (I143 z142 -> (((z142 < (x61.length : Int)) -> ((0 <= z142 /\ z142 < (x61.length : Nat)) /\ ((((((gl x99 z134).length : Nat) : Int) <= (gi x61 z142)) -> Q false) /\ (¬ ((((gl x99 z134).length : Nat) : Int) <= (gi x61 z142)) -> ((0 <= (gi x61 z142) /\ (gi x61 z142) < ((gl x99 z134).length : Nat)) /\ ((((gi (gl x99 z134) (gi x61 z142)) ≠ (0 : Int)) -> Q false) /\ (¬ ((gi (gl x99 z134) (gi x61 z142)) ≠ (0 : Int)) -> ((I64 (z142 + (1 : Int))) /\ (I143 (z142 + (1 : Int)) /\ μ144 (z142 + (1 : Int)) < μ144 z142))))))))) /\ (¬ (z142 < (x61.length : Int)) -> ((I64 (z134 + (1 : Int))) /\ (I135 (z134 + (1 : Int)) /\ μ136 (z134 + (1 : Int)) < μ136 z134)))))))) /\ (¬ (z134 < (x99.length : Int)) -> Q true)))))))))))))))))))))))))))))))))))))
theorem Jll {w : World} {Q : Bool -> Prop} {Pf : Int} {Mf : Int} {mf : List Int} {Cm : Int} {m : List (List Int)} {bits : Int} {Bf : Nat} {Af : Option Addr} {nf kf : Nat} (hf : Rd Bf w 1 Af nf kf (is mf)) {Am : Option Addr} {nm km : Nat} (hm : Rl w Am nm km m) (hv : Jc9 Pf Mf mf Cm m bits Q) :
   Calls Tryz.prog 10 #[.agg #[.int .i64 Pf, .int .i64 Mf, .slice Af nf kf], .agg #[.int .i64 Cm, .slice Am nm km], .int .u32 bits] w fun e w' => ∃ v Qr, e = .returned v /\ w.grownBy w' none /\ Rows w.heap.size none w' Qr /\ News w.heap.size Qr /\ ∃ (r0 : Bool), v = .bool r0 /\ Qr = [] /\ Q r0 := by
 have hnf := hf.ilen; subst hnf; have hnm := hm.len; subst hnm; obtain ⟨hsm, hHm⟩ := hm.heads; refine Jk <| Jj (vs := [.agg #[nI Pf, nI Mf, nS Af mf kf], .agg #[nI Cm, nS Am m km], .int .u32 bits]) [6] XF10 rfl rfl rfl rfl ?_; have hS := Jr w; unfold Jc9 at hv; refine Jd 2 <| JC (z := 3) (cs := [nI Pf, nI Mf, nS Af mf kf]) hS rfl rfl rfl rfl ?_; intro g11 w12 hS; refine JC (z := 2) (cs := [nI Cm, nS Am m km]) hS rfl rfl rfl rfl ?_; intro g13 w14 hS; refine Jb 2 <| Jd 3 <| SL.call hS (Jgo  hv) XF11 rfl XN11 rfl rfl ?_; rintro _ _ w15 ⟨r16, rfl, rfl, hv⟩ hGw15 hS; have hS := hS.n0; refine Jc4 rfl rfl <| Jm rfl rfl ?_; rcases g17 : (!r16) with _ | _
 .have hv := hv.2 g17; refine WL.take rfl <| Jh (cs := [nI Cm, nS Am m km]) Ju JL rfl rfl (Jc (hS.own (i := 0) rfl)) rfl <| WL.take rfl <| Jh (cs := [nI Cm, nS Am m km]) Ju JL rfl rfl (Jc (hS.own (i := 0) rfl)) rfl <| WL.take rfl <| SL.call hS (ok_few (RlH.rl (RlH.ext hHm hS.ext)) (RlH.rl (RlH.ext hHm hS.ext)) hv) XF12 rfl XN12 rfl rfl ?_; rintro _ _ w20 ⟨r21, rfl, rfl, hv⟩ hGw20 hS; have hS := hS.n0; refine Jb 4 <| Ji rfl (fun c22 => ?_) (fun c22 => ?_)
  .have hv := hv.1 (c22); refine Jd 2 <| SL.call hS (Jgo  hv) XF11 rfl XN11 rfl rfl ?_; rintro _ _ w23 ⟨r24, rfl, rfl, hv⟩ hGw23 hS; have hS := hS.n0; refine Jb 2 <| W.ret <| ⟨_, rfl, Fin.nil ?_⟩
   exact (hS.pick [] rfl).fin rfl ⟨r24, rfl, rfl, hv⟩
  have hv := hv.2 (c22); refine Jl <| Jd 2 <| Jh (cs := [nI Pf, nI Mf, nS Af mf kf]) JY J2 rfl rfl (Jc (hS.own (i := 1) rfl)) rfl <| Jh (cs := [nI Cm, nS Am m km]) Ju JL rfl rfl (Jc (hS.own (i := 0) rfl)) rfl <| SL.call hS (Jhs (hS.ro hf) (RlH.rl (RlH.ext hHm hS.ext)) hv) XF35 rfl XN35 rfl rfl ?_; rintro _ _ w25 ⟨c26, x27, r28, A29, k30, hs31, rfl, rfl, hv⟩ hGw25 hS; have hS := hS.n1; refine Jb 3 <| SL.alloc (cs := [nI 0, .slice none 0 0]) hS Ju rfl rfl ?_; intro g33 w34 hS; refine Jq (cs := [nI c26, nS A29 x27 k30]) 0 hS rfl Ju rfl rfl rfl rfl rfl ?_; intro w35 hS; refine Jb 2 <| Jd 5 <| Jm rfl rfl ?_; rcases g36 : (!r28) with _ | _
  .have hv := hv.2 g36; refine WL.take rfl <| Je (off := 0) Qf rfl rfl <| WL.take rfl <| Jp 0 0 XU3 hS rfl rfl rfl ⟨rfl, rfl⟩ <| Jb 3 <| Jm rfl rfl ?_; by_cases g37 : c26 < (0 : Int)
   .have hv := hv.1 g37; rw [decide_eq_true g37]; refine Jb 5 <| JZ rfl <| Jd 4 <| W.ret <| ⟨_, rfl, Fin.nil ?_⟩
    exact (hS.pick [] rfl).fin rfl ⟨true, rfl, rfl, hv⟩
   have hv := hv.2 g37; rw [decide_eq_false g37]; refine WL.take rfl <| Je (off := 0) Qf rfl rfl <| WL.take rfl <| Jp 0 0 XU3 hS rfl rfl rfl ⟨rfl, rfl⟩ <| Jb 4 <| Ji rfl (fun c38 => ?_) (fun c38 => ?_)
   .have hv := hv.1 (oT c38); refine Jd 4 <| W.ret <| ⟨_, rfl, Fin.nil ?_⟩
    exact (hS.pick [] rfl).fin rfl ⟨true, rfl, rfl, hv⟩
   have hv := hv.2 (oF c38); refine Jl <| Jd 8 <| Je (off := 0) Qf rfl rfl <| Jp 0 0 XU3 hS rfl rfl rfl ⟨rfl, rfl⟩ <| Jb 2 <| W.block ?_; obtain ⟨I66, μ67, hv, hk155⟩ := hv; have hS := hS.nil (e := 3) (z := 1); have hS := hS.nil (e := 3) (z := 1); have hS := hS.pick [1, 0, 2, 3, 4, 5] rfl; have hm0 : 0 = ([] : List Int).length := (hS.rd (i := 0) rfl).ilen.symm; have hS := hS.relen (i := 0) rfl hm0; have hm1 : 0 = ([] : List Int).length := (hS.rd (i := 1) rfl).ilen.symm; have hS := hS.relen (i := 1) rfl hm1
   change St _ _ _ _ [_, _, _, _, _, _] at hS
   refine JH (σ := List Int × List Int × Int × Option Addr × Nat × Option Addr × Nat) (fun q w1 => match q with | (x57, x61, z65, A58, k59, A62, k63) => I66 x57 x61 z65 /\ St TT w none w1 [nR 3 A58 x57 k59, nR 3 A62 x61 k63, .row 27 2 (nA g33) 1 1 [nI c26, nS A29 x27 k30], mx 22 3 A29 x27.length k30 hs31 x27, .row 27 2 (nA g13) 1 1 [nI Cm, nS Am m km], .row 24 3 (nA g11) 1 1 [nI Pf, nI Mf, nS Af mf kf]]) (fun q => match q with | (x57, x61, z65, A58, k59, A62, k63) => [(2, .int .u32 bits), (3, nP g11), (6, .bool false), (7, nP g33), (9, nS A58 x57 k59), (10, nS A62 x61 k63), (52, nI c26), (53, nI z65)]) (fun q => match q with | (x57, x61, z65, A58, k59, A62, k63) => μ67 x57 x61 z65) (([] : List Int), ([] : List Int), (0 : Int), none, 0, none, 0) ⟨hv, hS⟩ ⟨rfl, rfl, rfl, rfl, (sm (by first | rfl | assumption | omega)), (sm (by first | rfl | assumption | omega)), rfl, rfl, trivial⟩ ?_; rintro ⟨x57, x61, z65, A58, k59, A62, k63⟩ w68 ⟨hv, hS⟩; have hv := hk155 x57 x61 z65 hv; refine Jd 5 <| Ji rfl (fun c69 => ?_) (fun c69 => ?_)
   .have hv := hv.1 (oT c69); refine Jl <| JB ?_; obtain ⟨J76, hv, hk96⟩ := hv; refine QR (σ := List Int × List Int × Option Addr × Nat × Option Addr × Nat) (fun q w1 => match q with | (x70, x73, A71, k72, A74, k75) => J76 x70 x73 /\ St TT w none w1 [nR 3 A71 x70 k72, nR 3 A74 x73 k75, .row 27 2 (nA g33) 1 1 [nI c26, nS A29 x27 k30], mx 22 3 A29 x27.length k30 hs31 x27, .row 27 2 (nA g13) 1 1 [nI Cm, nS Am m km], .row 24 3 (nA g11) 1 1 [nI Pf, nI Mf, nS Af mf kf]]) (fun q => match q with | (x70, x73, A71, k72, A74, k75) => [(2, .int .u32 bits), (3, nP g11), (6, .bool false), (7, nP g33), (9, nS A71 x70 k72), (10, nS A74 x73 k75), (11, nI z65), (52, nI c26), (53, nI z65), (54, .bool (decide (z65 < c26))), (60, .bool (decide ((Jsv (Je6 bits z65) (1 : Int)) = (1 : Int))))]) ?_ ?_
    .refine W.block ?_; refine Jd 9 ?_; obtain ⟨o77, hv⟩ := hv; refine Jyu (r := (Je6 bits z65)) rfl rfl o77 rfl rfl ?_; obtain ⟨o78, hv⟩ := hv; refine WL.bits (r := (Jsv (Je6 bits z65) (1 : Int))) rfl rfl (.inl rfl) (Jwg o78) rfl <| Jca (k := .u32) rfl rfl rfl <| Ja <| Ji rfl (fun c79 => ?_) (fun c79 => ?_)
     .have hv := hv.1 (oT c79); refine Jd 3 <| J3 (vs := is ([z65] : List Int)) hS Js XE3 rfl rfl rfl rfl (Qd _) rfl ?_; intro A80 w81 hS; obtain ⟨o83, hv⟩ := hv; refine SL.append (cs := is x57) (cs' := is ([z65] : List Int)) 1 ((x57 ++ ([z65] : List Int)).length) (is (x57 ++ ([z65] : List Int))) hS rfl Js XE3 (hS.rd (i := 0) rfl) (Qd _) rfl rfl (apk o83).1 (apk o83).2 (Jbj (hS.rd (i := 1) rfl) (hS.rd (i := 0) rfl)) (Qx _ _) rfl ?_; intro A84 k85 w86 hS; refine Jb 2 ?_; have hS := hS.pick [1, 2, 3, 4, 5, 6] rfl; exact ⟨(x57 ++ ([z65] : List Int), x61, A84, k85, A62, k63), ⟨rfl, rfl, rfl, rfl, rfl, rfl, rfl, rfl, rfl, rfl, rfl, trivial⟩, rfl, hv, hS⟩
     have hv := hv.2 (oF c79); refine Jd 3 <| J3 (vs := is ([z65] : List Int)) hS Js XE3 rfl rfl rfl rfl (Qd _) rfl ?_; intro A87 w88 hS; obtain ⟨o90, hv⟩ := hv; refine SL.append (cs := is x61) (cs' := is ([z65] : List Int)) 2 ((x61 ++ ([z65] : List Int)).length) (is (x61 ++ ([z65] : List Int))) hS rfl Js XE3 (hS.rd (i := 0) rfl) (Qd _) rfl rfl (apk o90).1 (apk o90).2 (Jbj (hS.rd (i := 2) rfl) (hS.rd (i := 0) rfl)) (Qx _ _) rfl ?_; intro A91 k92 w93 hS; refine Jb 2 ?_; have hS := hS.pick [1, 2, 3, 4, 5, 6] rfl; exact ⟨(x57, x61 ++ ([z65] : List Int), A58, k59, A91, k92), ⟨rfl, rfl, rfl, rfl, rfl, rfl, rfl, rfl, rfl, rfl, rfl, trivial⟩, rfl, hv, hS⟩
    rintro ⟨x70, x73, A71, k72, A74, k75⟩ w94 ⟨hv, hS⟩; have hv := hk96 x70 x73 hv; refine Jw ?_; obtain ⟨o95, hv⟩ := hv; refine WL.add (r := (z65 + (1 : Int))) rfl rfl (wr o95) rfl <| Jb 2 ?_; exact ⟨(x70, x73, (z65 + (1 : Int)), A71, k72, A74, k75), ⟨rfl, rfl, rfl, rfl, rfl, rfl, rfl, rfl, trivial⟩, hv.2, rfl, hv.1, hS⟩
   have hv := hv.2 (oF c69); refine JG <| Jd 2 <| Jh (cs := [nI Pf, nI Mf, nS Af mf kf]) JY J2 rfl rfl (Jc (hS.own (i := 5) rfl)) rfl <| Jh (cs := [nI c26, nS A29 x27 k30]) Ju JL rfl rfl (Jc (hS.own (i := 2) rfl)) rfl <| Jm rfl rfl <| SL.call hS (Jdn (hS.ro hf) (hS.rl (i := 3) rfl) (hS.rd (i := 0) rfl) hv) XF33 rfl XN33 rfl rfl ?_; rintro _ _ w97 ⟨c98, x99, r100, A101, k102, hs103, rfl, rfl, hv⟩ hGw97 hS; have hS := hS.n1; refine Jb 3 <| SL.alloc (cs := [nI 0, .slice none 0 0]) hS Ju rfl rfl ?_; intro g105 w106 hS; refine Jq (cs := [nI c98, nS A101 x99 k102]) 0 hS rfl Ju rfl rfl rfl rfl rfl ?_; intro w107 hS; refine Jb 2 <| Jd 2 <| Jh (cs := [nI Pf, nI Mf, nS Af mf kf]) JY J2 rfl rfl (Jc (hS.own (i := 7) rfl)) rfl <| Jh (cs := [nI c98, nS A101 x99 k102]) Ju JL rfl rfl (Jc (hS.own (i := 0) rfl)) rfl <| Jh (cs := [nI c26, nS A29 x27 k30]) Ju JL rfl rfl (Jc (hS.own (i := 4) rfl)) rfl <| SL.call hS (Jek (hS.ro hf) (hS.rl (i := 1) rfl) (hS.rl (i := 5) rfl) hv) XF22 rfl XN22 rfl rfl ?_; rintro _ _ w108 ⟨r109, r110, rfl, rfl, hv⟩ hGw108 hS; have hS := hS.n0; refine Jb 6 <| Jd 2 <| Jh (cs := [nI Pf, nI Mf, nS Af mf kf]) JY J2 rfl rfl (Jc (hS.own (i := 7) rfl)) rfl <| Jh (cs := [nI c26, nS A29 x27 k30]) Ju JL rfl rfl (Jc (hS.own (i := 4) rfl)) rfl <| Jm rfl rfl <| SL.call hS (Jgt (hS.ro hf) (hS.rl (i := 5) rfl) (hS.rd (i := 3) rfl) hv) XF40 rfl XN40 rfl rfl ?_; rintro _ _ w111 ⟨c112, x113, r114, A115, k116, hs117, rfl, rfl, hv⟩ hGw111 hS; have hS := hS.n1; refine Jb 3 <| SL.alloc (cs := [nI 0, .slice none 0 0]) hS Ju rfl rfl ?_; intro g119 w120 hS; refine Jq (cs := [nI c112, nS A115 x113 k116]) 0 hS rfl Ju rfl rfl rfl rfl rfl ?_; intro w121 hS; refine Jb 2 <| Jd 2 <| Jh (cs := [nI Pf, nI Mf, nS Af mf kf]) JY J2 rfl rfl (Jc (hS.own (i := 9) rfl)) rfl <| Jh (cs := [nI c112, nS A115 x113 k116]) Ju JL rfl rfl (Jc (hS.own (i := 0) rfl)) rfl <| SL.call hS (Jz5 (hS.ro hf) (hS.rl (i := 1) rfl) hv) XF41 rfl XN41 rfl rfl ?_; rintro _ _ w122 ⟨r123, r124, rfl, rfl, hv⟩ hGw122 hS; have hS := hS.n0; refine Jb 6 <| Jd 5 <| Jm rfl rfl ?_; by_cases g125 : r100 ≠ (0 : Int)
   .have hv := hv.1 g125; rw [decide_eq_true g125]; refine Jb 27 <| JZ rfl <| Jd 4 <| W.ret <| ⟨_, rfl, Fin.nil ?_⟩
    exact (hS.pick [] rfl).fin rfl ⟨false, rfl, rfl, hv⟩
   have hv := hv.2 g125; rw [decide_eq_false g125]; refine Jb 5 <| Jm rfl rfl ?_; by_cases g126 : r110 ≠ (0 : Int)
   .have hv := hv.1 g126; rw [decide_eq_true g126]; refine Jb 23 <| JZ rfl <| Jd 4 <| W.ret <| ⟨_, rfl, Fin.nil ?_⟩
    exact (hS.pick [] rfl).fin rfl ⟨false, rfl, rfl, hv⟩
   have hv := hv.2 g126; rw [decide_eq_false g126]; refine Jb 5 <| Jm rfl rfl ?_; by_cases g127 : r114 ≠ (0 : Int)
   .have hv := hv.1 g127; rw [decide_eq_true g127]; refine Jb 19 <| JZ rfl <| Jd 4 <| W.ret <| ⟨_, rfl, Fin.nil ?_⟩
    exact (hS.pick [] rfl).fin rfl ⟨false, rfl, rfl, hv⟩
   have hv := hv.2 g127; rw [decide_eq_false g127]; refine Jb 5 <| Jm rfl rfl ?_; by_cases g128 : r124 ≠ (0 : Int)
   .have hv := hv.1 g128; rw [decide_eq_true g128]; refine Jb 15 <| JZ rfl <| Jd 4 <| W.ret <| ⟨_, rfl, Fin.nil ?_⟩
    exact (hS.pick [] rfl).fin rfl ⟨false, rfl, rfl, hv⟩
   have hv := hv.2 g128; rw [decide_eq_false g128]; refine Jb 5 <| Jm rfl rfl ?_; rcases g129 : (!r109) with _ | _
   .have hv := hv.2 g129; refine WL.take rfl <| Je (off := 1) JM rfl rfl <| WL.take rfl <| Jp 2 1 Jy hS rfl rfl rfl ⟨rfl, rfl⟩ <| WL.take rfl <| WL.len Jy rfl rfl <| WL.take rfl <| Je (off := 1) JM rfl rfl <| WL.take rfl <| Jp 6 1 Jy hS rfl rfl rfl ⟨rfl, rfl⟩ <| WL.take rfl <| WL.len Jy rfl rfl <| Jb 3 ?_; obtain ⟨o130, hv⟩ := hv; refine WL.sub (r := ((x27.length : Int) - r123)) rfl rfl (wr o130) rfl <| Jb 4 <| Ji rfl (fun c131 => ?_) (fun c131 => ?_)
    .have hv := hv.1 (oT c131); refine Jd 4 <| W.ret <| ⟨_, rfl, Fin.nil ?_⟩
     exact (hS.pick [] rfl).fin rfl ⟨false, rfl, rfl, hv⟩
    have hv := hv.2 (oF c131); refine Jl <| Jd 3 <| Je (off := 1) JM rfl rfl <| Jp 2 1 Jy hS rfl rfl rfl ⟨rfl, rfl⟩ <| WL.len Jy rfl rfl <| Jb 2 <| W.block ?_; obtain ⟨I135, μ136, hv, hk154⟩ := hv; refine JH (σ := Int) (fun z134 w1 => I135 z134 /\ St TT w none w1 [.row 27 2 (nA g119) 1 1 [nI c112, nS A115 x113 k116], mx 22 3 A115 x113.length k116 hs117 x113, .row 27 2 (nA g105) 1 1 [nI c98, nS A101 x99 k102], mx 22 3 A101 x99.length k102 hs103 x99, nR 3 A58 x57 k59, nR 3 A62 x61 k63, .row 27 2 (nA g33) 1 1 [nI c26, nS A29 x27 k30], mx 22 3 A29 x27.length k30 hs31 x27, .row 27 2 (nA g13) 1 1 [nI Cm, nS Am m km], .row 24 3 (nA g11) 1 1 [nI Pf, nI Mf, nS Af mf kf]]) (fun z134 => [(6, .bool false), (10, nS A62 x61 k63), (127, nS A101 x99 k102), (128, nI (x99.length : Int)), (129, nI z134)]) (fun z134 => μ136 z134) (0 : Int) ⟨hv, hS⟩ ⟨rfl, rfl, rfl, rfl, rfl, trivial⟩ ?_; rintro z134 w137 ⟨hv, hS⟩; have hv := hk154 z134 hv; refine Jd 5 <| Ji rfl (fun c138 => ?_) (fun c138 => ?_)
    .have hv := hv.1 (oT c138); refine Jl <| JB <| W.block <| Jd 2 ?_; obtain ⟨o139, hv⟩ := hv; refine JO 3 Jy JE hS rfl rfl rfl o139 rfl <| Jn Js rfl rfl (hS.mxcell (i := 3) rfl o139) rfl <| Jb 2 <| Jd 3 <| WL.len Js rfl rfl <| Jb 2 <| W.block ?_; obtain ⟨I143, μ144, hv, hk153⟩ := hv; refine JH (σ := Int) (fun z142 w1 => I143 z142 /\ St TT w none w1 [.row 27 2 (nA g119) 1 1 [nI c112, nS A115 x113 k116], mx 22 3 A115 x113.length k116 hs117 x113, .row 27 2 (nA g105) 1 1 [nI c98, nS A101 x99 k102], mx 22 3 A101 x99.length k102 hs103 x99, nR 3 A58 x57 k59, nR 3 A62 x61 k63, .row 27 2 (nA g33) 1 1 [nI c26, nS A29 x27 k30], mx 22 3 A29 x27.length k30 hs31 x27, .row 27 2 (nA g13) 1 1 [nI Cm, nS Am m km], .row 24 3 (nA g11) 1 1 [nI Pf, nI Mf, nS Af mf kf]]) (fun z142 => [(6, .bool false), (10, nS A62 x61 k63), (21, .slice ((hs103 z134.toNat).1) ((gl x99 z134).length) ((hs103 z134.toNat).2)), (127, nS A101 x99 k102), (128, nI (x99.length : Int)), (129, nI z134), (130, .bool (decide (z134 < (x99.length : Int)))), (133, nS A62 x61 k63), (134, nI (x61.length : Int)), (135, nI z142)]) (fun z142 => μ144 z142) (0 : Int) ⟨hv, hS⟩ ⟨rfl, rfl, rfl, rfl, rfl, rfl, rfl, rfl, rfl, rfl, trivial⟩ ?_; rintro z142 w145 ⟨hv, hS⟩; have hv := hk153 z142 hv; refine Jd 5 <| Ji rfl (fun c146 => ?_) (fun c146 => ?_)
     .have hv := hv.1 (oT c146); refine Jl <| JB <| W.block <| Jd 2 ?_; obtain ⟨o147, hv⟩ := hv; refine Jo Js XE3 (hS.rd (i := 5) rfl) rfl rfl o147 rfl <| Jn XU3 rfl rfl (JT (hS.rd (i := 5) rfl) o147) rfl <| Jb 2 <| Jd 4 <| WL.len Js rfl rfl <| Jj6 rfl rfl rfl <| Jm rfl rfl ?_; by_cases g148 : (((gl x99 z134).length : Nat) : Int) <= (gi x61 z142)
      .have hv := hv.1 g148; rw [decide_eq_true g148]; refine Jb 7 <| JZ rfl <| Jd 4 <| W.ret <| ⟨_, rfl, Fin.nil ?_⟩
       exact (hS.pick [] rfl).fin rfl ⟨false, rfl, rfl, hv⟩
      have hv := hv.2 g148; rw [decide_eq_false g148]; refine Jb 5 ?_; obtain ⟨o149, hv⟩ := hv; refine Jo Js XE3 (hS.mxrd (i := 3) rfl o139) rfl rfl o149 rfl <| WL.take rfl <| Jn XU3 rfl rfl (JT (hS.mxrd (i := 3) rfl o139) o149) rfl <| Jb 4 <| Ji rfl (fun c150 => ?_) (fun c150 => ?_)
      .have hv := hv.1 (oT c150); refine Jd 4 <| W.ret <| ⟨_, rfl, Fin.nil ?_⟩
       exact (hS.pick [] rfl).fin rfl ⟨false, rfl, rfl, hv⟩
      have hv := hv.2 (oF c150); refine Jl <| Jw ?_; obtain ⟨o151, hv⟩ := hv; refine WL.add (r := (z142 + (1 : Int))) rfl rfl (wr o151) rfl <| Jb 2 ?_; exact ⟨(z142 + (1 : Int)), ⟨rfl, rfl, rfl, rfl, rfl, rfl, rfl, rfl, rfl, rfl, trivial⟩, hv.2, rfl, hv.1, hS⟩
     have hv := hv.2 (oF c146); refine JG <| Jw ?_; obtain ⟨o152, hv⟩ := hv; refine WL.add (r := (z134 + (1 : Int))) rfl rfl (wr o152) rfl <| Jb 2 ?_; exact ⟨(z134 + (1 : Int)), ⟨rfl, rfl, rfl, rfl, rfl, trivial⟩, hv.2, rfl, hv.1, hS⟩
    have hv := hv.2 (oF c138); refine JG <| Jd 4 <| W.ret <| ⟨_, rfl, Fin.nil ?_⟩
    exact (hS.pick [] rfl).fin rfl ⟨true, rfl, rfl, hv⟩
   have hv := hv.1 g129; refine Jb 11 <| JZ rfl <| Jd 4 <| W.ret <| ⟨_, rfl, Fin.nil ?_⟩
   exact (hS.pick [] rfl).fin rfl ⟨false, rfl, rfl, hv⟩
  have hv := hv.1 g36; refine Jb 10 <| JZ rfl <| Jd 4 <| W.ret <| ⟨_, rfl, Fin.nil ?_⟩
  exact (hS.pick [] rfl).fin rfl ⟨true, rfl, rfl, hv⟩
 have hv := hv.1 g17; refine Jb 6 <| JZ rfl <| Jd 2 <| SL.call hS (Jgo  hv) XF11 rfl XN11 rfl rfl ?_; rintro _ _ w18 ⟨r19, rfl, rfl, hv⟩ hGw18 hS; have hS := hS.n0; refine Jb 2 <| W.ret <| ⟨_, rfl, Fin.nil ?_⟩
 exact (hS.pick [] rfl).fin rfl ⟨r19, rfl, rfl, hv⟩
end Go.Proofs.YtngdhnijkgjhcaaGreat
set_option linter.unusedSimpArgs false
set_option linter.unusedVariables false
set_option maxRecDepth 4000
set_option maxHeartbeats 4000000
namespace Go.Proofs.YtngdhnijkgjhcaaGreat
open Go.RowKit
end Go.Proofs.YtngdhnijkgjhcaaGreat
set_option linter.unusedVariables false
namespace Go.Proofs.YtngdhnijkgjhcaaGreat
abbrev Vec := Nat -> Int
def tX (m : Nat) (c : Vec) (v : Vec) : Vec := fun i => if i < m then (if i = 0 then 0 else v (i - 1)) - c i * v (m - 1) else 0
def Qi (u v : Vec) : Vec := fun i => u i + v i
def vsm (a : Int) (v : Vec) : Vec := fun i => a * v i
def vz : Vec := fun _ => 0
def e0 : Vec := fun i => if i = 0 then 1 else 0
def tXn (m : Nat) (c : Vec) : Nat -> Vec -> Vec
  | 0, v => v
  | n + 1, v => tX m c (tXn m c n v)
def opr (m : Nat) (c b : Vec) : Nat -> Vec -> Vec
  | 0, _ => vz
  | n + 1, v => Qi (opr m c b n v) (vsm (b n) (tXn m c n v))
def Y5 (m : Nat) (c a b : Vec) : Vec := opr m c b m a
section
variable (m : Nat) (c : Vec)
theorem tX_add (u v : Vec) : tX m c (Qi u v) = Qi (tX m c u) (tX m c v) := by
 funext i; simp only [tX, Qi]; split
 .split <;> grind
 .rfl
theorem tX_sm (a : Int) (v : Vec) : tX m c (vsm a v) = vsm a (tX m c v) := by
 funext i; simp only [tX, vsm]; split
 .split <;> grind
 .grind
theorem tX_z : tX m c vz = vz := by funext i; simp [tX, vz]
theorem Jf1 (u : Vec) : Qi u vz = u := by funext i; simp [Qi, vz]
theorem z_vadd (u : Vec) : Qi vz u = u := by funext i; simp [Qi, vz]
theorem Jh5 (u v : Vec) : Qi u v = Qi v u := by funext i; simp only [Qi]; omega
theorem Jf2 (u v w : Vec) : Qi (Qi u v) w = Qi u (Qi v w) := by funext i; simp only [Qi]; omega
theorem Jqb (a : Int) (u v : Vec) : vsm a (Qi u v) = Qi (vsm a u) (vsm a v) := by funext i; simp only [Qi, vsm]; grind
theorem vsm_sm (a b : Int) (u : Vec) : vsm a (vsm b u) = vsm (a * b) u := by funext i; simp only [vsm]; grind
theorem vsm_z (a : Int) : vsm a vz = vz := by funext i; simp [vsm, vz]
theorem Ji0 (n : Nat) (u v : Vec) : tXn m c n (Qi u v) = Qi (tXn m c n u) (tXn m c n v) := by
 induction n with
 | zero => rfl
 | succ n ih => simp only [tXn, ih, tX_add]
theorem Jm7 (n : Nat) (a : Int) (v : Vec) : tXn m c n (vsm a v) = vsm a (tXn m c n v) := by
 induction n with
 | zero => rfl
 | succ n ih => simp only [tXn, ih, tX_sm]
theorem Jv5 (n : Nat) : tXn m c n vz = vz := by
 induction n with
 | zero => rfl
 | succ n ih => simp only [tXn, ih, tX_z]
theorem Jv6 (n : Nat) (v : Vec) : tXn m c n (tX m c v) = tX m c (tXn m c n v) := by
 induction n with
 | zero => rfl
 | succ n ih => simp only [tXn, ih]
theorem Jzk (n k : Nat) (v : Vec) : tXn m c n (tXn m c k v) = tXn m c (n + k) v := by
 induction n with
 | zero => simp [tXn]
 | succ n ih => rw [Nat.succ_add]; simp only [tXn, ih]
variable (b : Vec)
theorem Jqv (n : Nat) (u v : Vec) : opr m c b n (Qi u v) = Qi (opr m c b n u) (opr m c b n v) := by
 induction n with
 | zero => simp [opr, Jf1]
 | succ n ih => simp only [opr, ih, Ji0, Jqb]; funext i; simp only [Qi]; omega
theorem Jni (n : Nat) (a : Int) (v : Vec) : opr m c b n (vsm a v) = vsm a (opr m c b n v) := by
 induction n with
 | zero => simp [opr, vsm_z]
 | succ n ih => simp only [opr, ih, Jm7, Jqb, vsm_sm]; rw [Int.mul_comm (b n) a]
theorem opr_z (n : Nat) : opr m c b n vz = vz := by
 induction n with
 | zero => rfl
 | succ n ih => simp only [opr, ih, Jv5, vsm_z, Jf1]
theorem Jqu (n k : Nat) (v : Vec) : opr m c b n (tXn m c k v) = tXn m c k (opr m c b n v) := by
 induction n with
 | zero => simp [opr, Jv5]
 | succ n ih => simp only [opr, ih, Ji0, Jm7, Jzk]; rw [Nat.add_comm n k]
theorem Jk8 (d : Vec) (n k : Nat) (v : Vec) : opr m c b n (opr m c d k v) = opr m c d k (opr m c b n v) := by
 induction n with
 | zero => simp only [opr, opr_z]
 | succ n ih => simp only [opr, ih, Jqv, Jni, Jqu]
theorem Jwv (d : Vec) (n : Nat) (v : Vec) : opr m c (Qi b d) n v = Qi (opr m c b n v) (opr m c d n v) := by
 induction n with
 | zero => simp [opr, Jf1]
 | succ n ih => simp only [opr, ih]; funext i; simp only [Qi, vsm]; grind
end
def vei (k : Nat) : Vec := fun i => if i = k then 1 else 0
theorem Jv7 {m : Nat} {c : Vec} : ∀ {k : Nat}, k < m -> tXn m c k e0 = vei k
 | 0, _ => rfl
 | k + 1, h => by
  have ih : tXn m c k e0 = vei k := Jv7 (by omega); simp only [tXn, ih]; funext i; simp only [tX, vei]; split
  .rw [if_neg (show ¬ m - 1 = k by omega)]; by_cases h0 : i = 0
   .subst h0; simp
   .simp only [h0, if_false]; by_cases h1 : i = k + 1
    .subst h1; simp
    .rw [if_neg (by omega), if_neg h1]; simp
  .rw [if_neg (by omega)]
theorem Jww {m : Nat} {c a : Vec} : ∀ {n : Nat}, n <= m -> ∀ i, opr m c a n e0 i = if i < n then a i else 0
  | 0, _, i => by simp [opr, vz]
  | n + 1, h, i => by
    simp only [opr, Qi, vsm]
    rw [Jww (n := n) (by omega) i, Jv7 (by omega)]
    simp only [vei]
    by_cases h1 : i = n
    . subst h1; simp
    . by_cases h2 : i < n
      . simp [h2, h1, show i < n + 1 by omega]
      . simp [h2, h1, show ¬ i < n + 1 by omega]
def Sup (m : Nat) (v : Vec) : Prop := ∀ i, m <= i -> v i = 0
theorem Jbe {m : Nat} {c a : Vec} (h : Sup m a) : opr m c a m e0 = a := by
 funext i; rw [Jww (Nat.le_refl m)]; split
 .rfl
 .exact (h i (by omega)).symm
theorem Sup.z {m : Nat} : Sup m vz := fun _ _ => rfl
theorem Sup.tX {m : Nat} {c v : Vec} : Sup m (tX m c v) := fun i h => by simp [Go.Proofs.YtngdhnijkgjhcaaGreat.tX, show ¬ i < m by omega]
theorem Sup.add {m : Nat} {u v : Vec} (hu : Sup m u) (hv : Sup m v) : Sup m (Qi u v) := fun i h => by simp [Qi, hu i h, hv i h]
theorem Sup.sm {m : Nat} {a : Int} {v : Vec} (hv : Sup m v) : Sup m (vsm a v) := fun i h => by simp [vsm, hv i h]
theorem Sup.tXn {m : Nat} {c v : Vec} (hv : Sup m v) : ∀ n, Sup m (tXn m c n v)
 | 0 => hv
 | _ + 1 => Sup.tX
theorem Sup.opr {m : Nat} {c b v : Vec} (hv : Sup m v) : ∀ n, Sup m (opr m c b n v)
 | 0 => Sup.z
 | n + 1 => (Sup.opr hv n).add (hv.tXn n).sm
theorem Jbs {m : Nat} {c a b : Vec} (ha : Sup m a) (hb : Sup m b) : Y5 m c a b = Y5 m c b a := by
 unfold Y5
 calc opr m c b m a = opr m c b m (opr m c a m e0) := by rw [Jbe ha]
  _ = opr m c a m (opr m c b m e0) := Jk8 ..
  _ = opr m c a m b := by rw [Jbe hb]
theorem Jm4 {m : Nat} {c a b d : Vec} (ha : Sup m a) (hb : Sup m b) (hd : Sup m d) : Y5 m c (Y5 m c a b) d = Y5 m c a (Y5 m c b d) := by
 rw [Jbs (a := a) (b := Y5 m c b d) ha (Sup.opr hb m)]; show opr m c d m (opr m c b m a) = opr m c a m (opr m c d m b); rw [<- Jk8 m c d a m m b]; show opr m c d m (Y5 m c a b) = opr m c d m (Y5 m c b a); rw [Jbs ha hb]
theorem Jvv {m : Nat} {c a b d : Vec} : Y5 m c a (Qi b d) = Qi (Y5 m c a b) (Y5 m c a d) := Jwv ..
theorem Jvu {m : Nat} {c a : Vec} (hm : 0 < m) : Y5 m c a e0 = a := by
 have key : ∀ n, 0 < n -> opr m c e0 n a = a := by
  intro n
  induction n with
  | zero => intro h; omega
  | succ n ih =>
   intro _; rcases Nat.eq_zero_or_pos n with h | h
   .subst h; funext i; simp [opr, e0, Qi, vsm, vz, tXn]
   .simp only [opr, ih h]; funext i; simp [e0, Qi, vsm, show n ≠ 0 by omega]
 exact key m hm
def vcg (p : Int) (u v : Vec) : Prop := ∀ i, u i % p = v i % p
section
variable {p : Int} {m : Nat} {c c' u u' v v' b b' : Vec}
theorem vcg.refl (u : Vec) : vcg p u u := fun _ => rfl
theorem vcg.symm (h : vcg p u v) : vcg p v u := fun i => (h i).symm
theorem vcg.trans {w : Vec} (h : vcg p u v) (k : vcg p v w) : vcg p u w := fun i => (h i).trans (k i)
theorem Jgu {a a' d d' : Int} (h : a % p = a' % p) (k : d % p = d' % p) : (a * d) % p = (a' * d') % p := by
 rw [Int.mul_emod, h, k, <- Int.mul_emod]
theorem Jok {a a' d d' : Int} (h : a % p = a' % p) (k : d % p = d' % p) : (a + d) % p = (a' + d') % p := by
 rw [Int.add_emod, h, k, <- Int.add_emod]
theorem Jm8 {a a' d d' : Int} (h : a % p = a' % p) (k : d % p = d' % p) : (a - d) % p = (a' - d') % p := by
 rw [Int.sub_emod, h, k, <- Int.sub_emod]
theorem vcg.add (h : vcg p u u') (k : vcg p v v') : vcg p (Qi u v) (Qi u' v') := fun i => Jok (h i) (k i)
theorem vcg.sm {a a' : Int} (ha : a % p = a' % p) (h : vcg p u u') : vcg p (vsm a u) (vsm a' u') := fun i => Jgu ha (h i)
theorem vcg.tX (hc : vcg p c c') (h : vcg p u u') : vcg p (tX m c u) (tX m c' u') := fun i => by
 simp only [Go.Proofs.YtngdhnijkgjhcaaGreat.tX]; split
 .split
  .exact Jm8 rfl (Jgu (hc i) (h _))
  .exact Jm8 (h _) (Jgu (hc i) (h _))
 .rfl
theorem vcg.tXn (hc : vcg p c c') (h : vcg p u u') : ∀ n, vcg p (tXn m c n u) (tXn m c' n u')
 | 0 => h
 | n + 1 => vcg.tX hc (vcg.tXn hc h n)
theorem vcg.opr (hc : vcg p c c') (hb : vcg p b b') (h : vcg p u u') : ∀ n, vcg p (opr m c b n u) (opr m c' b' n u')
 | 0 => .refl _
 | n + 1 => (vcg.opr hc hb h n).add (vcg.sm (hb n) (vcg.tXn hc h n))
theorem vcg.mul (hc : vcg p c c') (h : vcg p u u') (hb : vcg p b b') : vcg p (Y5 m c u b) (Y5 m c' u' b') := vcg.opr hc hb h m
end
end Go.Proofs.YtngdhnijkgjhcaaGreat
set_option linter.unusedVariables false
namespace Go.Proofs.YtngdhnijkgjhcaaGreat
def dv (p x : Nat) : Vec := fun i => ((x / p ^ i % p : Nat) : Int)
def vl (p : Nat) : Nat -> Vec -> Int
  | 0, _ => 0
  | n + 1, v => v 0 + (p : Int) * vl p n (fun i => v (i + 1))
def Cn (p n : Nat) (v : Vec) : Prop := ∀ i, i < n -> 0 <= v i /\ v i < p
def nm (p m : Nat) (v : Vec) : Nat := (vl p m (fun i => v i % (p : Int))).toNat
theorem Jay (p x i : Nat) : dv p x (i + 1) = dv p (x / p) i := by
 simp only [dv]; rw [Nat.pow_succ', <- Nat.div_div_eq_div_mul]
theorem ZJ (p x : Nat) : dv p x 0 = ((x % p : Nat) : Int) := by simp [dv]
theorem Cn.tl {p n : Nat} {v : Vec} (h : Cn p (n + 1) v) : Cn p n (fun i => v (i + 1)) := fun i hi => h (i + 1) (by omega)
theorem Jqe {p : Nat} (hp : 0 < p) : ∀ {n : Nat} {v : Vec}, Cn p n v -> 0 <= vl p n v /\ vl p n v < ((p ^ n : Nat) : Int)
 | 0, v, _ => by simp [vl]
 | n + 1, v, h => by
  have ih := Jqe hp h.tl; have h0 := h 0 (by omega); simp only [vl]; have h1 : (p : Int) * vl p n (fun i => v (i + 1)) <= p * (((p ^ n : Nat) : Int) - 1) := Int.mul_le_mul_of_nonneg_left (by omega) (by omega); have h2 : 0 <= (p : Int) * vl p n (fun i => v (i + 1)) := Int.mul_nonneg (by omega) ih.1; have h3 : ((p ^ (n + 1) : Nat) : Int) = p * ((p ^ n : Nat) : Int) := by rw [Nat.pow_succ']; push_cast; rfl
  have h4 : (p : Int) * (((p ^ n : Nat) : Int) - 1) = p * ((p ^ n : Nat) : Int) - p := by rw [Int.mul_sub, Int.mul_one]
  omega
theorem Jf0 {p : Nat} : ∀ {n : Nat} {u v : Vec}, (∀ i, i < n -> u i = v i) -> vl p n u = vl p n v
 | 0, _, _, _ => rfl
 | n + 1, u, v, h => by simp only [vl]; rw [h 0 (by omega), Jf0 (n := n) fun i hi => h (i + 1) (by omega)]
theorem Jvw {p : Nat} (hp : 0 < p) : ∀ {n x : Nat}, x < p ^ n -> vl p n (dv p x) = x
 | 0, x, h => by simp at h; subst h; rfl
 | n + 1, x, h => by
  simp only [vl]; have : (fun i => dv p x (i + 1)) = dv p (x / p) := by funext i; exact Jay p x i
  rw [this, Jvw hp (n := n) (by rw [Nat.div_lt_iff_lt_mul hp, <- Nat.pow_succ]; exact h), ZJ]; have := Nat.mod_add_div x p; have h2 : ((x % p + p * (x / p) : Nat) : Int) = (x : Int) := by rw [this]
  push_cast at h2 ⊢; exact h2
theorem dv_vl {p : Nat} (hp : 0 < p) : ∀ {n : Nat} {v : Vec}, Cn p n v -> ∀ i, i < n -> dv p (vl p n v).toNat i = v i
 | 0, _, _, i, hi => by omega
 | n + 1, v, h, i, hi => by
  have ih := Jqe hp h.tl; have h0 := h 0 (by omega); obtain ⟨t, ht⟩ := Int.eq_ofNat_of_zero_le ih.1; obtain ⟨a, ha⟩ := Int.eq_ofNat_of_zero_le h0.1; have hv : (vl p (n + 1) v).toNat = a + p * t := by
   simp only [vl]; rw [ht, ha]; have : (a : Int) + (p : Int) * (t : Int) = ((a + p * t : Nat) : Int) := by push_cast; rfl
   rw [this]; rfl
  have hap : a < p := by have := h0.2; rw [ha] at this; omega
  rw [hv]; cases i with
  | zero => rw [ZJ, Nat.add_mul_mod_self_left, Nat.mod_eq_of_lt hap, ha]
  | succ i =>
   rw [Jay]; have h2 : (a + p * t) / p = t := by rw [Nat.add_mul_div_left _ _ hp, Nat.div_eq_of_lt hap, Nat.zero_add]
   have ih2 := dv_vl hp h.tl i (by omega); rw [ht] at ih2; rw [h2]; exact ih2
section
variable {p m : Nat}
theorem md_cn (hp : 0 < p) (v : Vec) (n : Nat) : Cn p n (fun i => v i % (p : Int)) := fun i _ => ⟨Int.emod_nonneg _ (by omega), Int.emod_lt_of_pos _ (by omega)⟩
theorem Jdo (hp : 0 < p) (v : Vec) : nm p m v < p ^ m := by
 have := Jqe hp (md_cn hp v m); unfold nm; omega
theorem Jrc (hp : 0 < p) (v : Vec) {i : Nat} (hi : i < m) : dv p (nm p m v) i = v i % (p : Int) := dv_vl hp (md_cn hp v m) i hi
theorem Jin (hp : 0 < p) (x n : Nat) : Cn p n (dv p x) := fun i _ => by
 have := Nat.mod_lt (x / p ^ i) hp; simp only [dv]; omega
theorem Jxq {x i : Nat} (hx : x < p ^ m) (hi : m <= i) : dv p x i = 0 := by
 rcases Nat.eq_zero_or_pos p with rfl | hp
 .simp only [dv]; cases m with
  | zero =>
   have : x = 0 := by simpa using hx
   subst this; simp
  | succ m => simp at hx
 .have : x / p ^ i = 0 := Nat.div_eq_of_lt (Nat.lt_of_lt_of_le hx (Nat.pow_le_pow_right hp hi)); simp [dv, this]
theorem Y7 {x : Nat} (hx : x < p ^ m) : Sup m (dv p x) := fun i hi => Jxq hx hi
theorem Jc1 (x i : Nat) : dv p x i % (p : Int) = dv p x i := by
 simp only [dv]; rw [<- Int.natCast_emod, Nat.mod_mod]
theorem Jcr (hp : 0 < p) {x : Nat} (hx : x < p ^ m) : nm p m (dv p x) = x := by
 unfold nm; rw [Jf0 (v := dv p x) fun i _ => Jc1 x i, Jvw hp hx]; rfl
theorem Jw9 {u v : Vec} (h : ∀ i, i < m -> u i % (p : Int) = v i % (p : Int)) : nm p m u = nm p m v := by
 unfold nm; rw [Jf0 h]
theorem Jaq {u v : Vec} (h : vcg p u v) : nm p m u = nm p m v := Jw9 fun i _ => h i
theorem Jl6 (hp : 0 < p) {v : Vec} (hv : Sup m v) : vcg p (dv p (nm p m v)) v := fun i => by
 rcases Nat.lt_or_ge i m with h | h
 .rw [Jrc hp v h, Int.emod_emod]
 .rw [Jxq (Jdo hp v) h, hv i h]
theorem nm_eq (hp : 0 < p) {x : Nat} {v : Vec} (hx : x < p ^ m) (h : ∀ i, i < m -> dv p x i = v i % (p : Int)) : nm p m v = x := by
 rw [<- Jcr hp hx]; exact Jw9 fun i hi => by rw [h i hi, Int.emod_emod]
end
def JS (p m x y : Nat) : Nat := nm p m (Qi (dv p x) (dv p y))
def Qz (p m x : Nat) : Nat := nm p m (vsm (-1) (dv p x))
def Jt (p m : Nat) (c : Vec) (x y : Nat) : Nat := nm p m (Y5 m c (dv p x) (dv p y))
section
variable {p m : Nat} {c : Vec}
theorem Jra (hp : 0 < p) (x y : Nat) : JS p m x y < p ^ m := Jdo hp _
theorem QU (hp : 0 < p) (x : Nat) : Qz p m x < p ^ m := Jdo hp _
theorem Jjo (hp : 0 < p) (x y : Nat) : Jt p m c x y < p ^ m := Jdo hp _
theorem Jjt (hp : 0 < p) {x y : Nat} (hx : x < p ^ m) (hy : y < p ^ m) : vcg p (dv p (JS p m x y)) (Qi (dv p x) (dv p y)) := Jl6 hp ((Y7 hx).add (Y7 hy))
theorem Qar (hp : 0 < p) {x : Nat} (hx : x < p ^ m) : vcg p (dv p (Qz p m x)) (vsm (-1) (dv p x)) := Jl6 hp (Y7 hx).sm
theorem Jvt {a b : Vec} (ha : Sup m a) : Sup m (Y5 m c a b) := Sup.opr ha m
theorem Jdt (hp : 0 < p) {x y : Nat} (hx : x < p ^ m) : vcg p (dv p (Jt p m c x y)) (Y5 m c (dv p x) (dv p y)) := Jl6 hp (Jvt (Y7 hx))
theorem Jsz (x y : Nat) : JS p m x y = JS p m y x := by unfold JS; rw [Jh5]
theorem Jn3 (hp : 0 < p) {x y z : Nat} (hx : x < p ^ m) (hy : y < p ^ m) (hz : z < p ^ m) : JS p m (JS p m x y) z = JS p m x (JS p m y z) := by
 show nm p m (Qi (dv p (JS p m x y)) (dv p z)) = nm p m (Qi (dv p x) (dv p (JS p m y z))); rw [Jaq ((Jjt hp hx hy).add (vcg.refl _)), Jaq ((vcg.refl (p := p) (dv p x)).add (Jjt hp hy hz)), Jf2]
theorem Jg6 (p : Nat) : dv p 0 = vz := by funext i; simp [dv, vz]
theorem Jsy (hp : 0 < p) {x : Nat} (hx : x < p ^ m) : JS p m x 0 = x := by unfold JS; rw [Jg6, Jf1, Jcr hp hx]
theorem QL (hp : 0 < p) {x : Nat} (hx : x < p ^ m) : JS p m x (Qz p m x) = 0 := by
 show nm p m (Qi (dv p x) (dv p (Qz p m x))) = 0; rw [Jaq ((vcg.refl (p := p) (dv p x)).add (Qar hp hx))]; have : Qi (dv p x) (vsm (-1) (dv p x)) = vz := by funext i; simp only [Qi, vsm, vz]; omega
 rw [this, <- Jg6 p, Jcr hp (by exact Nat.pow_pos hp)]
theorem Jik {x y : Nat} (hx : x < p ^ m) (hy : y < p ^ m) : Jt p m c x y = Jt p m c y x := by
 unfold Jt; rw [Jbs (Y7 hx) (Y7 hy)]
theorem Jn2 (hp : 0 < p) {x y z : Nat} (hx : x < p ^ m) (hy : y < p ^ m) (hz : z < p ^ m) : Jt p m c (Jt p m c x y) z = Jt p m c x (Jt p m c y z) := by
 show nm p m (Y5 m c (dv p (Jt p m c x y)) (dv p z)) = nm p m (Y5 m c (dv p x) (dv p (Jt p m c y z))); rw [Jaq (vcg.mul (vcg.refl c) (Jdt hp hx) (vcg.refl _)), Jaq (vcg.mul (vcg.refl c) (vcg.refl (dv p x)) (Jdt hp hy)), Jm4 (Y7 hx) (Y7 hy) (Y7 hz)]
theorem Jjs (hp : 2 <= p) : dv p 1 = e0 := by
 funext i; cases i with
 | zero => rw [ZJ, Nat.mod_eq_of_lt (by omega)]; rfl
 | succ i =>
  have : (1 : Nat) / p ^ (i + 1) = 0 := Nat.div_eq_of_lt (Nat.one_lt_pow (by omega) (by omega)); simp [dv, this, e0]
theorem Jg3 (hp : 2 <= p) (hm : 0 < m) {x : Nat} (hx : x < p ^ m) : Jt p m c x 1 = x := by
 unfold Jt; rw [Jjs hp, Jvu hm, Jcr (by omega) hx]
theorem Jsw (hp : 0 < p) {x : Nat} (hx : x < p ^ m) : Jt p m c x 0 = 0 := by
 rw [Jik hx (Nat.pow_pos hp)]; unfold Jt; rw [Jg6]; have : Y5 m c vz (dv p x) = vz := opr_z ..; rw [this, <- Jg6 p, Jcr hp (Nat.pow_pos hp)]
theorem Jxk (hp : 0 < p) {x y z : Nat} (hx : x < p ^ m) (hy : y < p ^ m) (hz : z < p ^ m) : Jt p m c x (JS p m y z) = JS p m (Jt p m c x y) (Jt p m c x z) := by
 show nm p m (Y5 m c (dv p x) (dv p (JS p m y z))) = nm p m (Qi (dv p (Jt p m c x y)) (dv p (Jt p m c x z))); rw [Jaq (vcg.mul (vcg.refl c) (vcg.refl (dv p x)) (Jjt hp hy hz)), Jaq ((Jdt (c := c) hp hx).add (Jdt hp hx)), Jvv]
end
structure CR (q : Nat) (A M : Nat -> Nat -> Nat) : Prop where
  q2 : 2 <= q
  Al : ∀ x y, A x y < q
  Ml : ∀ x y, M x y < q
  Ac : ∀ x y, A x y = A y x
  Aa : ∀ {x y z}, x < q -> y < q -> z < q -> A (A x y) z = A x (A y z)
  Az : ∀ {x}, x < q -> A x 0 = x
  An : ∀ {x}, x < q -> ∃ y, y < q /\ A x y = 0
  Mc : ∀ {x y}, x < q -> y < q -> M x y = M y x
  Ma : ∀ {x y z}, x < q -> y < q -> z < q -> M (M x y) z = M x (M y z)
  M1 : ∀ {x}, x < q -> M x 1 = x
  M0 : ∀ {x}, x < q -> M x 0 = 0
  Md : ∀ {x y z}, x < q -> y < q -> z < q -> M x (A y z) = A (M x y) (M x z)
theorem Jp8 {p m : Nat} (c : Vec) (hp : 2 <= p) (hm : 0 < m) : CR (p ^ m) (JS p m) (Jt p m c) where
 q2 := Nat.le_trans hp (by have := Nat.pow_le_pow_right (n := p) (by omega) hm; simpa using this)
 Al := Jra (by omega)
 Ml := Jjo (by omega)
 Ac := Jsz
 Aa := Jn3 (by omega)
 Az := Jsy (by omega)
 An := fun {x} hx => ⟨Qz p m x, QU (by omega) x, QL (by omega) hx⟩
 Mc := Jik
 Ma := Jn2 (by omega)
 M1 := Jg3 hp hm
 M0 := Jsw (by omega)
 Md := Jxk (by omega)
end Go.Proofs.YtngdhnijkgjhcaaGreat
set_option linter.unusedVariables false
namespace Go.Proofs.YtngdhnijkgjhcaaGreat
def pw (M : Nat -> Nat -> Nat) (g : Nat) : Nat -> Nat
  | 0 => 1
  | k + 1 => M (pw M g k) g
theorem php : ∀ (n : Nat) (f : Nat -> Nat), (∀ i, i < n + 1 -> f i < n) -> ∃ i j, i < j /\ j < n + 1 /\ f i = f j
 | 0, f, h => absurd (h 0 (by omega)) (by omega)
 | n + 1, f, h => by
  by_cases hc : ∃ i, i < n + 1 /\ f i = f (n + 1)
  .obtain ⟨i, hi, he⟩ := hc; exact ⟨i, n + 1, hi, by omega, he⟩
  .have hv := h (n + 1) (by omega); obtain ⟨i, j, hij, hj, he⟩ := php n (fun i => if f i = n then f (n + 1) else f i) (fun i hi => by
    have hne : f i ≠ f (n + 1) := fun e => hc ⟨i, hi, e⟩; have := h i (by omega); show (if f i = n then f (n + 1) else f i) < n; split
    .omega
    .omega)
   refine ⟨i, j, hij, by omega, ?_⟩; have hi1 : f i ≠ f (n + 1) := fun e => hc ⟨i, by omega, e⟩; have hj1 : f j ≠ f (n + 1) := fun e => hc ⟨j, by omega, e⟩; split at he <;> split at he <;> omega
theorem Jkt {n : Nat} {f : Nat -> Nat} (hb : ∀ i, i < n -> f i < n) (hi : ∀ i j, i < j -> j < n -> f i ≠ f j) {y : Nat} (hy : y < n) : ∃ i, i < n /\ f i = y := by
 obtain ⟨i, j, hij, hj, he⟩ := php n (fun i => if i < n then f i else y) (fun i _ => by
  show (if i < n then f i else y) < n; split
  .rename_i h; exact hb i h
  .exact hy)
 rcases Nat.lt_or_ge j n with h | h
 .rw [if_pos h, if_pos (show i < n by omega)] at he; exact absurd he (hi i j hij h)
 .rw [if_neg (show ¬ j < n by omega), if_pos (show i < n by omega)] at he; exact ⟨i, by omega, he⟩
section
variable {q : Nat} {A M : Nat -> Nat -> Nat} (R : CR q A M)
include R
namespace CR
theorem one_lt : 1 < q := R.q2
theorem pos : 0 < q := by have := R.q2; omega
theorem I1 {x : Nat} (hx : x < q) : M 1 x = x := by rw [R.Mc R.one_lt hx, R.M1 hx]
theorem Z0 {x : Nat} (hx : x < q) : M 0 x = 0 := by rw [R.Mc R.pos hx, R.M0 hx]
theorem zA {x : Nat} (hx : x < q) : A 0 x = x := by rw [R.Ac, R.Az hx]
theorem pw_lt (g : Nat) : ∀ k, pw M g k < q
 | 0 => R.one_lt
 | k + 1 => R.Ml _ _
theorem pw_one {g : Nat} (hg : g < q) : pw M g 1 = g := R.I1 hg
theorem pw_add {g : Nat} (hg : g < q) (i : Nat) : ∀ j, pw M g (i + j) = M (pw M g i) (pw M g j)
 | 0 => (R.M1 (R.pw_lt g i)).symm
 | j + 1 => by
  show M (pw M g (i + j)) g = M (pw M g i) (M (pw M g j) g); rw [pw_add hg i j, R.Ma (R.pw_lt g i) (R.pw_lt g j) hg]
theorem pw_pw {g : Nat} (hg : g < q) (i : Nat) : ∀ j, pw M (pw M g i) j = pw M g (i * j)
 | 0 => rfl
 | j + 1 => by
  show M (pw M (pw M g i) j) (pw M g i) = _; rw [pw_pw hg i j, <- R.pw_add hg]; rfl
theorem one_pw : ∀ j, pw M 1 j = 1
 | 0 => rfl
 | j + 1 => by show M (pw M 1 j) 1 = 1; rw [one_pw j, R.M1 R.one_lt]
theorem zero_pw {n : Nat} (h : 0 < n) : pw M 0 n = 0 := by
 cases n with
 | zero => omega
 | succ n => exact R.M0 (R.pw_lt 0 n)
end CR
end
structure Gn (q : Nat) (M : Nat -> Nat -> Nat) (g : Nat) : Prop where
  lt : g < q
  one : pw M g (q - 1) = 1
  no : ∀ k, 0 < k -> k < q - 1 -> pw M g k ≠ 1
namespace Gn
variable {q g : Nat} {A M : Nat -> Nat -> Nat}
theorem per (G : Gn q M g) (R : CR q A M) (i k : Nat) : pw M g (i + (q - 1) * k) = pw M g i := by
 rw [R.pw_add G.lt, <- R.pw_pw G.lt, G.one, R.one_pw, R.M1 (R.pw_lt g i)]
theorem ne0 (G : Gn q M g) (R : CR q A M) (k : Nat) : pw M g k ≠ 0 := fun h => by
 have h1 := G.per R 0 (k + 1); have hq := R.q2; rw [Nat.zero_add] at h1; have : (q - 1) * (k + 1) = k + ((q - 1) * (k + 1) - k) := by
  have : k + 1 <= (q - 1) * (k + 1) := Nat.le_mul_of_pos_left _ (by omega); omega
 rw [this, R.pw_add G.lt, h, R.Z0 (R.pw_lt g _)] at h1; exact absurd h1 (by show ¬ (0 : Nat) = 1; omega)
theorem inj (G : Gn q M g) (R : CR q A M) {i j : Nat} (hij : i < j) (hj : j < q - 1) : pw M g i ≠ pw M g j := fun h => by
 have e1 : M (pw M g i) (pw M g (q - 1 - i)) = 1 := by rw [<- R.pw_add G.lt, show i + (q - 1 - i) = q - 1 by omega, G.one]
 have e2 : M (pw M g j) (pw M g (q - 1 - i)) = pw M g (j - i) := by
  rw [<- R.pw_add G.lt, show j + (q - 1 - i) = (j - i) + (q - 1) * 1 by omega, G.per R]
 rw [h] at e1; exact G.no (j - i) (by omega) (by omega) (e2.symm.trans e1)
theorem surj (G : Gn q M g) (R : CR q A M) {x : Nat} (h0 : 0 < x) (hx : x < q) : ∃ k, k < q - 1 /\ pw M g k = x := by
 obtain ⟨i, hi, he⟩ := Jkt (n := q - 1) (f := fun k => pw M g k - 1) (fun i hi => by
  have := R.pw_lt g i; have := G.ne0 R i; show pw M g i - 1 < q - 1; omega) (fun i j hij hj he => by
  have h1 := G.ne0 R i; have h2 := G.ne0 R j; exact G.inj R hij hj (by omega)) (y := x - 1) (by omega)
 have := G.ne0 R i; exact ⟨i, hi, by omega⟩
open Classical in
noncomputable def lg (q : Nat) (M : Nat -> Nat -> Nat) (g x : Nat) : Nat := if h : ∃ k, k < q - 1 /\ pw M g k = x then Classical.choose h else 0
theorem xone (G : Gn q M g) (R : CR q A M) {x : Nat} (h0 : 0 < x) (hx : x < q) : pw M x (q - 1) = 1 := by
  obtain ⟨k, hk, rfl⟩ := G.surj R h0 hx
  rw [R.pw_pw G.lt, Nat.mul_comm, <- R.pw_pw G.lt, G.one, R.one_pw]
end Gn
end Go.Proofs.YtngdhnijkgjhcaaGreat
set_option linter.unusedVariables false
namespace Go.Proofs.YtngdhnijkgjhcaaGreat
structure IsLf (n d : Nat) : Prop where
  two : 2 <= d
  dvd : n % d = 0
  min : ∀ e, 2 <= e -> n % e = 0 -> d <= e
def Jxt : Nat -> Nat -> Nat
  | _, 0 => 1
  | 0, _ + 1 => 0
  | n + 1, k + 1 => Jxt n k + Jxt n (k + 1)
section
variable {q : Nat} {A M : Nat -> Nat -> Nat} (R : CR q A M)
include R
namespace CR
theorem Aac {a b c : Nat} (ha : a < q) (hb : b < q) (hc : c < q) : A (A a b) c = A (A a c) b := by
 rw [R.Aa ha hb hc, R.Ac b c, <- R.Aa ha hc hb]
theorem A4 {a b c d : Nat} (ha : a < q) (hb : b < q) (hc : c < q) (hd : d < q) : A (A a b) (A c d) = A (A a c) (A b d) := by
 rw [<- R.Aa (R.Al a b) hc hd, R.Aac ha hb hc, R.Aa (R.Al a c) hb hd]
end CR
end
end Go.Proofs.YtngdhnijkgjhcaaGreat
set_option linter.unusedVariables false
namespace Go.Proofs.YtngdhnijkgjhcaaGreat
def hz (m : Nat) (c b y : Vec) (n : Nat) : Nat -> Vec
  | 0 => vz
  | k + 1 => Qi (tX m c (hz m c b y n k)) (vsm (b (n - 1 - k)) y)
theorem Jxf {m : Nat} {c b y : Vec} {n : Nat} : ∀ {k : Nat}, k <= n -> Qi (tXn m c (n - k) (hz m c b y n k)) (opr m c b (n - k) y) = opr m c b n y
 | 0, _ => by simp only [hz, Nat.sub_zero]; rw [Jv5, z_vadd]
 | k + 1, h => by
  have ih := Jxf (m := m) (c := c) (b := b) (y := y) (n := n) (k := k) (by omega); obtain ⟨r, hr⟩ : ∃ r, n - k = r + 1 := ⟨n - k - 1, by omega⟩
  rw [show n - (k + 1) = r by omega]; rw [hr] at ih; rw [<- ih]; show Qi (tXn m c r (Qi (tX m c (hz m c b y n k)) (vsm (b (n - 1 - k)) y))) (opr m c b r y) = Qi (tX m c (tXn m c r (hz m c b y n k))) (Qi (opr m c b r y) (vsm (b r) (tXn m c r y))); rw [Ji0, Jm7, Jv6, show n - 1 - k = r by omega, Jf2, Jh5 (vsm _ _)]
theorem hz_all (m : Nat) (c b y : Vec) (n : Nat) : hz m c b y n n = opr m c b n y := by
 have := Jxf (m := m) (c := c) (b := b) (y := y) (n := n) (k := n) (Nat.le_refl n); rw [Nat.sub_self] at this; rw [<- this]; exact (Jf1 _).symm
def dgl (p : Nat) : Nat -> Nat -> List Nat
  | 0, _ => []
  | n + 1, x => (x % p) :: dgl p n (x / p)
theorem Yf (p : Nat) : ∀ n x, (dgl p n x).length = n
 | 0, _ => rfl
 | n + 1, x => by simp [dgl, Yf p n]
theorem Jer (p : Nat) : ∀ n x i, i < n -> (((dgl p n x).getD i 0 : Nat) : Int) = dv p x i
 | 0, _, i, h => by omega
 | n + 1, x, 0, _ => by rw [ZJ]; rfl
 | n + 1, x, i + 1, h => by
  show (((dgl p n (x / p)).getD i 0 : Nat) : Int) = _; rw [Jer p n (x / p) i (by omega), Jay]
@[reducible] noncomputable def hd0 (l : List Nat) : Nat := List.rec (motive := fun _ => Nat) 0 (fun x _ _ => x) l
@[reducible] noncomputable def tl0 (l : List Nat) : List Nat := List.rec (motive := fun _ => List Nat) [] (fun _ l _ => l) l
noncomputable def go (p a top : Nat) (cs : List Nat) : Nat -> List Nat -> List Nat -> List Nat :=
  List.rec (motive := fun _ => Nat -> List Nat -> List Nat -> List Nat) (fun _ _ _ => [])
    (fun c _ ih prev us ys => ((prev + (p - c) * top + a * hd0 ys) % p) :: ih (hd0 us) (tl0 us) (tl0 ys)) cs
noncomputable def tp (l : List Nat) : Nat -> Nat := List.rec (motive := fun _ => Nat -> Nat) (fun d => d) (fun x _ ih _ => ih x) l
noncomputable def Jns (p : Nat) (cs ys gs : List Nat) : List Nat -> List Nat :=
  List.rec (motive := fun _ => List Nat -> List Nat) (fun acc => acc) (fun g _ ih acc => ih (go p g (tp acc 0) cs 0 acc ys)) gs
noncomputable def az (l : List Nat) : Bool := List.rec (motive := fun _ => Bool) true (fun x _ ih => bif Nat.beq x 0 then ih else false) l
noncomputable def is1 (l : List Nat) : Bool := List.rec (motive := fun _ => Bool) false (fun x t _ => bif Nat.beq x 1 then az t else false) l
noncomputable def run (p : Nat) (cs gs : List Nat) (n : Nat) : List Nat -> Bool :=
  Nat.rec (motive := fun _ => List Nat -> Bool) (fun y => is1 y) (fun _ ih y => bif is1 y then false else ih (Jns p cs y gs y)) n
noncomputable def Jkw (p c : Nat) (al : List Nat) : List Nat -> List Nat :=
  List.rec (motive := fun _ => List Nat -> List Nat) (fun bs => bs) (fun a _ ih bs => ((hd0 bs + (p - a) * c) % p) :: ih (tl0 bs)) al
noncomputable def dvg (p : Nat) (low : List Nat) (k : Nat) : List Nat -> Bool :=
  Nat.rec (motive := fun _ => List Nat -> Bool) (fun r => az r) (fun _ ih r => ih (Jkw p (hd0 r) low (tl0 r))) k
noncomputable def nob (f : Nat -> Bool) (n : Nat) : Bool := Nat.rec (motive := fun _ => Bool) true (fun i ih => bif f i then false else ih) n
noncomputable def irrB (p m : Nat) (ml : List Nat) : Bool :=
  nob (fun d => !nob (fun w => dvg p (dgl p (d + 1) w).reverse (m - d) (1 :: ml.reverse)) (p ^ (d + 1))) (m / 2)
noncomputable def cand (p c : Nat) : List Nat := bif Nat.blt c p then [c] else bif Nat.blt c (p + p * p) then [(c - p) / p, (c - p) % p] else [(c - p - p * p) / (p * p), (c - p - p * p) / p % p, (c - p - p * p) % p]
noncomputable def gen1 (p m : Nat) (cs gs : List Nat) : Bool := run p cs gs (p ^ m - 2) (Jns p cs (dgl p m 1) gs (dgl p m 1))
noncomputable def Jn0 (p m : Nat) (cs : List Nat) : Bool := !nob (fun c => gen1 p m cs (cand p (p + p * p + p * p * p - 1 - c))) (p + p * p + p * p * p)
noncomputable def chk (p m lo n : Nat) : Bool := nob (fun v => bif irrB p m (dgl p m (lo + v)) then !Jn0 p m (dgl p m (lo + v)) else false) n

theorem Jjm (l : List Nat) : hd0 l = l.getD 0 0 := by cases l <;> rfl
theorem Jf9 (l : List Nat) (i : Nat) : (tl0 l).getD i 0 = l.getD (i + 1) 0 := by cases l <;> rfl
theorem Jzj (l : List Nat) : (tl0 l).length = l.length - 1 := by cases l <;> simp [tl0]
theorem Jjn (p a top c : Nat) (cs : List Nat) (prev : Nat) (us ys : List Nat) : go p a top (c :: cs) prev us ys = ((prev + (p - c) * top + a * hd0 ys) % p) :: go p a top cs (hd0 us) (tl0 us) (tl0 ys) := rfl
theorem Jxh (p a top : Nat) : ∀ (cs : List Nat) (prev : Nat) (us ys : List Nat), (go p a top cs prev us ys).length = cs.length
 | [], _, _, _ => rfl
 | c :: cs, prev, us, ys => by rw [Jjn, List.length_cons, Jxh p a top cs, List.length_cons]
theorem go_at (p a top : Nat) : ∀ (cs : List Nat) (prev : Nat) (us ys : List Nat) (i : Nat), i < cs.length -> (go p a top cs prev us ys).getD i 0 = ((if i = 0 then prev else us.getD (i - 1) 0) + (p - cs.getD i 0) * top + a * ys.getD i 0) % p
 | [], _, _, _, i, h => by simp at h
 | c :: cs, prev, us, ys, 0, _ => by rw [Jjn, Jjm]; rfl
 | c :: cs, prev, us, ys, i + 1, h => by
  rw [Jjn]; show (go p a top cs (hd0 us) (tl0 us) (tl0 ys)).getD i 0 = _; rw [go_at p a top cs _ _ _ i (by simpa using h)]; cases i with
  | zero => rw [if_pos rfl, if_neg (by omega), Jjm, Jf9]; rfl
  | succ i => rw [if_neg (by omega), if_neg (by omega), Jf9, Jf9]; rfl
theorem tp_eq : ∀ (l : List Nat) (d : Nat), 0 < l.length -> tp l d = l.getD (l.length - 1) 0
 | [], _, h => by simp at h
 | [x], d, _ => rfl
 | x :: y :: l, d, _ => by
  show tp (y :: l) x = _; rw [tp_eq (y :: l) x (by simp)]; simp
def Rep (p m : Nat) (L : List Nat) (v : Vec) : Prop := L.length = m /\ ∀ i, i < m -> ((L.getD i 0 : Nat) : Int) = v i % (p : Int)
def hl (m : Nat) (c y : Vec) : List Nat -> Vec -> Vec
  | [], u => u
  | g :: gs, u => hl m c y gs (Qi (tX m c u) (vsm g y))
theorem Rep.step {p m : Nat} {cs us ys : List Nat} {c u y : Vec} (hp : 0 < p) (hm : 0 < m) (hc : Rep p m cs c) (hu : Rep p m us u) (hy : Rep p m ys y) (g : Nat) :
  Rep p m (go p g (tp us 0) cs 0 us ys) (Qi (tX m c u) (vsm g y)) := by
 refine ⟨by rw [Jxh, hc.1], fun i hi => ?_⟩; rw [go_at _ _ _ _ _ _ _ _ (by rw [hc.1]; exact hi), tp_eq _ _ (by rw [hu.1]; exact hm), hu.1]; have h1 := hu.2 (m - 1) (by omega); have h2 := hc.2 i hi; have h3 := hy.2 i hi; have hlt : cs.getD i 0 <= p := by
  have := Int.emod_lt_of_pos (c i) (show (0 : Int) < p by omega); omega
 have e : (((if i = 0 then 0 else us.getD (i - 1) 0) : Nat) : Int) % p = (if i = 0 then (0 : Int) else u (i - 1)) % p := by
  split
  .rfl
  .rw [hu.2 (i - 1) (by omega), Int.emod_emod]
 simp only [Qi, vsm, tX, if_pos hi]; generalize (if i = 0 then 0 else us.getD (i - 1) 0 : Nat) = A at *
 generalize (if i = 0 then (0 : Int) else u (i - 1)) = B at *
 generalize us.getD (m - 1) 0 = T at *
 generalize cs.getD i 0 = C at *
 generalize ys.getD i 0 = Y at *
 have hT : ((T : Nat) : Int) % p = u (m - 1) % p := by rw [h1, Int.emod_emod]
 have hC : ((C : Nat) : Int) % p = c i % p := by rw [h2, Int.emod_emod]
 have hY : ((Y : Nat) : Int) % p = y i % p := by rw [h3, Int.emod_emod]
 obtain ⟨D, hD⟩ : ∃ D, p = C + D := ⟨p - C, by omega⟩
 have hsub : p - C = D := by omega
 rw [hsub]; have hcast : ((A + D * T + g * Y : Nat) : Int) = ((A : Int) - C * T + g * Y) + p * T := by
  have : (p : Int) = C + D := by omega
  rw [this]; push_cast; rw [Int.add_mul]; omega
 rw [Int.natCast_emod, hcast, Int.add_mul_emod_self_left]; exact Jok (Jm8 e (Jgu hC hT)) (Jgu rfl hY)
theorem Jsu (p : Nat) (cs ys : List Nat) (g : Nat) (gs acc : List Nat) : Jns p cs ys (g :: gs) acc = Jns p cs ys gs (go p g (tp acc 0) cs 0 acc ys) := rfl
theorem Rep.mul {p m : Nat} {cs ys : List Nat} {c y : Vec} (hp : 0 < p) (hm : 0 < m) (hc : Rep p m cs c) (hy : Rep p m ys y) : ∀ {gs us : List Nat} {u : Vec}, Rep p m us u -> Rep p m (Jns p cs ys gs us) (hl m c y gs u)
 | [], _, _, h => h
 | g :: gs, us, u, h => by rw [Jsu]; exact Rep.mul hp hm hc hy (Rep.step hp hm hc h hy g)
theorem Jnx {m : Nat} {c y : Vec} (hy : Sup m y) : ∀ {gs : List Nat} {u : Vec}, Sup m u -> Sup m (hl m c y gs u)
 | [], _, h => h
 | g :: gs, u, h => Jnx (gs := gs) (u := Qi (tX m c u) (vsm g y)) hy (Sup.add Sup.tX hy.sm)
theorem Jxg {m : Nat} {c y : Vec} (hy : Sup m y) : ∀ {gs : List Nat} {U : Vec}, hl m c y gs (opr m c y m U) = opr m c y m (hl m c e0 gs U)
  | [], _ => rfl
  | g :: gs, U => by
    show hl m c y gs (Qi (tX m c (opr m c y m U)) (vsm g y)) = opr m c y m (hl m c e0 gs (Qi (tX m c U) (vsm g e0)))
    rw [<- Jxg hy, Jqv, Jni, Jbe hy]
    have := Jqu m c y m 1 U
    rw [show tXn m c 1 U = tX m c U from rfl, show tXn m c 1 (opr m c y m U) = tX m c (opr m c y m U) from rfl] at this
    rw [this]
theorem Jjr {m : Nat} (hm : 0 < m) : Sup m e0 := fun i hi => by simp [e0, show i ≠ 0 by omega]
theorem hl_mul {m : Nat} {c y : Vec} (hm : 0 < m) (hy : Sup m y) (gs : List Nat) : hl m c y gs y = Y5 m c y (hl m c e0 gs e0) := by
 rw [Jbs hy (Jnx (Jjr hm) (Jjr hm))]; show _ = opr m c y m (hl m c e0 gs e0); rw [<- Jxg hy, Jbe hy]
theorem Jy4 {p m x : Nat} : Rep p m (dgl p m x) (dv p x) := ⟨Yf p m x, fun i hi => by rw [Jer p m x i hi, Jc1]⟩
theorem Rep.cg {p m : Nat} {L : List Nat} {u v : Vec} (h : Rep p m L u) (hv : ∀ i, i < m -> u i % (p : Int) = v i % (p : Int)) : Rep p m L v := ⟨h.1, fun i hi => by rw [h.2 i hi, hv i hi]⟩
theorem Qau (x : Nat) (l : List Nat) : az (x :: l) = bif Nat.beq x 0 then az l else false := rfl
theorem Jj0 : ∀ l : List Nat, az l = true ↔ ∀ i, i < l.length -> l.getD i 0 = 0
 | [] => ⟨fun _ i h => by simp at h, fun _ => rfl⟩
 | x :: l => by
  rw [Qau]; cases hx : Nat.beq x 0 with
  | true =>
   have := Nat.eq_of_beq_eq_true hx; subst this; rw [show (bif true then az l else false) = az l from rfl, Jj0 l]; constructor
   .intro h i hi; cases i with
    | zero => rfl
    | succ i => exact h i (by simpa using hi)
   .intro h i hi; exact h (i + 1) (by simpa using hi)
  | false =>
   rw [show (bif false then az l else false) = false from rfl]; constructor
   .intro h; cases h
   .intro h; have := h 0 (by simp); simp only [List.getD_cons_zero] at this; subst this; cases hx
theorem Jq6 {p m x : Nat} {L : List Nat} (hp : 2 <= p) (hm : 0 < m) (hx : x < p ^ m) (h : Rep p m L (Go.Proofs.YtngdhnijkgjhcaaGreat.dv p x)) : is1 L = true ↔ x = 1 := by
 obtain ⟨a, l, rfl⟩ : ∃ a l, L = a :: l := by
  cases L with
  | nil => have := h.1; simp at this; omega
  | cons a l => exact ⟨a, l, rfl⟩
 have hlen : l.length + 1 = m := h.1; have h0 := h.2 0 hm; have e : is1 (a :: l) = bif Nat.beq a 1 then az l else false := rfl; rw [e]; constructor
 .intro hb; cases ha : Nat.beq a 1 with
  | false => rw [ha] at hb; cases hb
  | true =>
   rw [ha] at hb; have hz := (Jj0 l).1 hb; have ha1 := Nat.eq_of_beq_eq_true ha; subst ha1; rw [<- Jcr (p := p) (m := m) (by omega) hx, <- Jcr (p := p) (m := m) (x := 1) (by omega) (Nat.one_lt_pow (by omega) (by omega))]; refine Jw9 fun i hi => ?_; rw [Jjs hp, Jc1, <- Jc1, <- h.2 i hi]; cases i with
   | zero =>
    show (1 : Int) = e0 0 % p; simp only [e0, if_pos]; exact (Int.emod_eq_of_lt (by omega) (by omega)).symm
   | succ i =>
    show ((l.getD i 0 : Nat) : Int) = e0 (i + 1) % p; rw [hz i (by omega)]; simp [e0]
 .intro hx1; subst hx1; have ha : a = 1 := by
   have : ((a : Nat) : Int) = Go.Proofs.YtngdhnijkgjhcaaGreat.dv p 1 0 % p := h0; rw [Jc1, Jjs hp] at this; simp [e0] at this; omega
  subst ha; show az l = true; refine (Jj0 l).2 fun i hi => ?_; have : ((l.getD i 0 : Nat) : Int) = Go.Proofs.YtngdhnijkgjhcaaGreat.dv p 1 (i + 1) % p := h.2 (i + 1) (by omega); rw [Jc1, Jjs hp] at this; simp only [e0] at this; rw [if_neg (by omega)] at this; exact Int.ofNat_eq_zero.1 this
def gel (p m : Nat) (c : Vec) (gs : List Nat) : Nat := nm p m (hl m c e0 gs e0)
theorem Jmt {p m x : Nat} {cs L gs : List Nat} {c : Vec} (hp : 2 <= p) (hm : 0 < m) (hx : x < p ^ m) (hc : Rep p m cs c) (h : Rep p m L (Go.Proofs.YtngdhnijkgjhcaaGreat.dv p x)) : Rep p m (Jns p cs L gs L) (Go.Proofs.YtngdhnijkgjhcaaGreat.dv p (Jt p m c x (gel p m c gs))) := by
 have h1 := Rep.mul (gs := gs) (by omega) hm hc h h; rw [hl_mul hm (Y7 hx)] at h1; refine h1.cg fun i hi => ?_; have hs := Jnx (c := c) (gs := gs) (Jjr hm) (Jjr hm); have e1 := Jdt (p := p) (m := m) (c := c) (by omega) hx (y := gel p m c gs); have e2 := vcg.mul (m := m) (vcg.refl (p := p) c) (vcg.refl (Go.Proofs.YtngdhnijkgjhcaaGreat.dv p x)) (Jl6 (p := p) (m := m) (by omega) hs); exact ((e1.trans e2) i).symm
theorem Jwh (p : Nat) (cs gs : List Nat) (n : Nat) (y : List Nat) : run p cs gs (n + 1) y = bif is1 y then false else run p cs gs n (Jns p cs y gs y) := rfl
theorem Jwi {p m : Nat} {cs gs : List Nat} {c : Vec} (hp : 2 <= p) (hm : 0 < m) (hc : Rep p m cs c) : ∀ {n : Nat} {L : List Nat} {x : Nat}, x < p ^ m -> Rep p m L (Go.Proofs.YtngdhnijkgjhcaaGreat.dv p x) -> run p cs gs n L = true ->
  (∀ k, k < n -> Jt p m c x (pw (Jt p m c) (gel p m c gs) k) ≠ 1) /\ Jt p m c x (pw (Jt p m c) (gel p m c gs) n) = 1
 | 0, L, x, hx, h, hr => by
  refine ⟨fun k hk => by omega, ?_⟩; show Jt p m c x 1 = 1; rw [Jg3 hp hm hx]; exact (Jq6 hp hm hx h).1 hr
 | n + 1, L, x, hx, h, hr => by
  rw [Jwh] at hr; cases h1 : is1 L with
  | true => rw [h1] at hr; cases hr
  | false =>
   rw [h1] at hr; have R := Jp8 (p := p) (m := m) c hp hm; have hg : gel p m c gs < p ^ m := Jdo (by omega) _; have ih := Jwi hp hm hc (Jjo (by omega) x _) (Jmt (gs := gs) hp hm hx hc h) hr; have e : ∀ k, Jt p m c (Jt p m c x (gel p m c gs)) (pw (Jt p m c) (gel p m c gs) k) = Jt p m c x (pw (Jt p m c) (gel p m c gs) (k + 1)) := fun k => by
    rw [R.Ma hx hg (R.pw_lt _ k), R.Mc hg (R.pw_lt _ k)]; rfl
   refine ⟨fun k hk => ?_, by rw [<- e]; exact ih.2⟩; cases k with
   | zero =>
    show Jt p m c x 1 ≠ 1; rw [Jg3 hp hm hx]; intro hx1; rw [(Jq6 hp hm hx h).2 hx1] at h1; cases h1
   | succ k => rw [<- e]; exact ih.1 k (by omega)
theorem Qan {p m : Nat} {cs gs : List Nat} {c : Vec} (hp : 2 <= p) (hm : 0 < m) (hc : Rep p m cs c) (h : gen1 p m cs gs = true) : Gn (p ^ m) (Jt p m c) (gel p m c gs) := by
 have R := Jp8 (p := p) (m := m) c hp hm; have hg : gel p m c gs < p ^ m := Jdo (by omega) _; have h1 := Jmt (gs := gs) hp hm R.one_lt hc Jy4; rw [R.I1 hg] at h1; obtain ⟨h2, h3⟩ := Jwi hp hm hc hg h1 h; have hq := R.q2; have e : ∀ k, Jt p m c (gel p m c gs) (pw (Jt p m c) (gel p m c gs) k) = pw (Jt p m c) (gel p m c gs) (k + 1) := fun k => R.Mc hg (R.pw_lt _ k); refine ⟨hg, ?_, fun k h0 hk => ?_⟩
 .rw [show p ^ m - 1 = (p ^ m - 2) + 1 by omega, <- e]; exact h3
 .rw [show k = (k - 1) + 1 by omega, <- e]; exact h2 (k - 1) (by omega)
theorem Jw8 (f : Nat -> Bool) (n : Nat) : nob f (n + 1) = bif f n then false else nob f n := rfl
theorem Jbz (f : Nat -> Bool) : ∀ n, nob f n = true ↔ ∀ i, i < n -> f i = false
 | 0 => ⟨fun _ i h => by omega, fun _ => rfl⟩
 | n + 1 => by
  rw [Jw8]; cases h : f n with
  | true =>
   refine ⟨fun h' => ?_, fun h' => ?_⟩
   .cases h'
   .rw [h' n (by omega)] at h; cases h
  | false =>
   show nob f n = true ↔ _; rw [Jbz f n]; refine ⟨fun h' i hi => ?_, fun h' i hi => h' i (by omega)⟩; rcases Nat.lt_or_ge i n with h1 | h1
   .exact h' i h1
   .rw [show i = n by omega]; exact h
theorem Jss (f : Nat -> Bool) (n : Nat) (h : nob f n = false) : ∃ i, i < n /\ f i = true := by
 have hn : ¬ ∀ i, i < n -> f i = false := fun h' => by rw [(Jbz f n).2 h'] at h; cases h
 have := Classical.not_forall.1 hn; obtain ⟨i, hi⟩ := this; have h2 := Classical.not_imp.1 hi; exact ⟨i, h2.1, by cases hf : f i with | true => rfl | false => exact absurd hf h2.2⟩
theorem Jq8 {p m : Nat} {cs : List Nat} {c : Vec} (hp : 2 <= p) (hm : 0 < m) (hc : Rep p m cs c) (h : Jn0 p m cs = true) : ∃ g, Gn (p ^ m) (Jt p m c) g := by
 unfold Jn0 at h; obtain ⟨i, _, hi⟩ := Jss _ _ (by simpa using h); exact ⟨_, Qan hp hm hc hi⟩
def rst (p d i : Nat) (l R : Vec) : Vec := fun j => if i <= j + d /\ j < i then (R j - l (j + d - i) * R i) % (p : Int) else R j
def rem (p d : Nat) (l R : Vec) (n : Nat) : Nat -> Vec
  | 0 => R
  | k + 1 => rst p d (n - 1 - k) l (rem p d l R n k)
def Dvd (p d : Nat) (l R : Vec) (n : Nat) : Prop := ∀ j, j < d -> rem p d l R n (n - d) j = 0
def Irr (p m : Nat) (c : Vec) : Prop := ∀ d, 0 < d -> 2 * d <= m -> ∀ w, w < p ^ d -> ¬ Dvd p d (dv p w) (fun i => if i = m then 1 else c i) (m + 1)
theorem Jea (p c a : Nat) (al bs : List Nat) : Jkw p c (a :: al) bs = ((hd0 bs + (p - a) * c) % p) :: Jkw p c al (tl0 bs) := rfl
theorem Jkv (p c : Nat) : ∀ al bs : List Nat, al.length <= bs.length -> (Jkw p c al bs).length = bs.length
 | [], _, _ => rfl
 | a :: al, [], h => by simp at h
 | a :: al, b :: bs, h => by
  rw [Jea, List.length_cons]; show (Jkw p c al bs).length + 1 = _; rw [Jkv p c al bs (by simpa using h)]; rfl
theorem Jqm (p c : Nat) : ∀ (al bs : List Nat) (t : Nat), (Jkw p c al bs).getD t 0 = if t < al.length then (bs.getD t 0 + (p - al.getD t 0) * c) % p else bs.getD t 0
 | [], bs, t => by simp; rfl
 | a :: al, bs, 0 => by rw [Jea, Jjm]; simp
 | a :: al, bs, t + 1 => by
  rw [Jea]; show (Jkw p c al (tl0 bs)).getD t 0 = _; rw [Jqm p c al (tl0 bs) t, Jf9]; simp
theorem Jxo (p : Nat) (low : List Nat) (k : Nat) (r : List Nat) : dvg p low (k + 1) r = dvg p low k (Jkw p (hd0 r) low (tl0 r)) := rfl
theorem Jxp {p d n : Nat} {l R : Vec} {low : List Nat} (hp : 0 < p) (hl : low.length = d) (hlow : ∀ t, t < d -> ((low.getD t 0 : Nat) : Int) = l (d - 1 - t)) (hlp : ∀ t, t < d -> low.getD t 0 <= p) : ∀ (s k : Nat) (r : List Nat), s + k + d = n -> r.length = n - k ->
  (∀ t, t < n - k -> ((r.getD t 0 : Nat) : Int) = rem p d l R n k (n - 1 - k - t)) -> (dvg p low s r = true ↔ Dvd p d l R n)
 | 0, k, r, hs, hr, hv => by
  have : n - k = d := by omega
  rw [this] at hr hv; show az r = true ↔ _; rw [Jj0, hr]; have hk : n - d = k := by omega
  unfold Dvd; rw [hk]; constructor
  .intro h j hj; have := hv (d - 1 - j) (by omega); rw [h (d - 1 - j) (by omega), show n - 1 - k - (d - 1 - j) = j by omega] at this; exact this.symm
  .intro h t ht; have := hv t ht; rw [h (n - 1 - k - t) (by omega)] at this; exact Int.ofNat_eq_zero.1 this
 | s + 1, k, r, hs, hr, hv => by
  rw [Jxo]; have htl : (tl0 r).length = n - (k + 1) := by rw [Jzj, hr]; omega
  refine Jxp hp hl hlow hlp s (k + 1) _ (by omega) (by rw [Jkv _ _ _ _ (by rw [htl, hl]; omega), htl]) fun t ht => ?_; rw [Jqm, hl, Jf9, Jjm]; have h0 := hv 0 (by omega); rw [Nat.sub_zero] at h0; have h1 := hv (t + 1) (by omega); rw [show n - 1 - k - (t + 1) = n - 1 - (k + 1) - t by omega] at h1; show _ = rst p d (n - 1 - k) l (rem p d l R n k) (n - 1 - (k + 1) - t); unfold rst; by_cases htd : t < d
  .rw [if_pos htd, if_pos (by omega)]; have h2 := hlow t htd; have h3 := hlp t htd; rw [show n - 1 - (k + 1) - t + d - (n - 1 - k) = d - 1 - t by omega, <- h0, <- h1, <- h2]; generalize r.getD (t + 1) 0 = X at *
   generalize low.getD t 0 = Y at *
   generalize r.getD 0 0 = Z at *
   obtain ⟨D, hD⟩ : ∃ D, p = Y + D := ⟨p - Y, by omega⟩
   rw [show p - Y = D by omega, Int.natCast_emod]; have hcast : ((X + D * Z : Nat) : Int) = ((X : Int) - Y * Z) + p * Z := by
    have : (p : Int) = Y + D := by omega
    rw [this]; push_cast; rw [Int.add_mul]; omega
   rw [hcast, Int.add_mul_emod_self_left]
  .rw [if_neg htd, if_neg (by omega)]; exact h1
theorem Jg2 (l : List Nat) (t : Nat) (h : t < l.length) : l.reverse.getD t 0 = l.getD (l.length - 1 - t) 0 := by
 rw [List.getD_eq_getElem?_getD, List.getD_eq_getElem?_getD, List.getElem?_reverse h]
theorem dv_le {p : Nat} (hp : 0 < p) (x i : Nat) : 0 <= dv p x i /\ dv p x i < p := Jin hp x (i + 1) i (by omega)
theorem Jxd {p m v : Nat} (hp : 0 < p) (hv : v < p ^ m) : irrB p m (dgl p m v) = true ↔ Irr p m (dv p v) := by
 have key : ∀ d w, 0 < d -> 2 * d <= m -> (dvg p (dgl p d w).reverse (m + 1 - d) (1 :: (dgl p m v).reverse) = true ↔ Dvd p d (dv p w) (fun i => if i = m then 1 else dv p v i) (m + 1)) := fun d w hd h2 => by
  refine Jxp hp (by rw [List.length_reverse, Yf]) (fun t ht => ?_) (fun t ht => ?_) (m + 1 - d) 0 _ (by omega) (by simp [Yf]) fun t ht => ?_
  .rw [Jg2 _ _ (by rw [Yf]; exact ht), Yf, Jer _ _ _ _ (by omega)]
  .rw [Jg2 _ _ (by rw [Yf]; exact ht), Yf]; have := Jer p d w (d - 1 - t) (by omega); have := dv_le hp w (d - 1 - t); omega
  .show _ = if m + 1 - 1 - 0 - t = m then (1 : Int) else dv p v (m + 1 - 1 - 0 - t)
   cases t with
   | zero => rw [if_pos (by omega)]; rfl
   | succ t =>
    rw [if_neg (by omega)]; show (((dgl p m v).reverse.getD t 0 : Nat) : Int) = _; rw [Jg2 _ _ (by rw [Yf]; omega), Yf, Jer _ _ _ _ (by omega), show m + 1 - 1 - 0 - (t + 1) = m - 1 - t by omega]
 unfold irrB; rw [Jbz]; constructor
 .intro h d hd h2 w hw hD; have h3 := h (d - 1) (by omega); have h4 := (Jbz _ _).1 (by simpa using h3) w (by rw [show d - 1 + 1 = d by omega]; exact hw); rw [show d - 1 + 1 = d by omega, show m - (d - 1) = m + 1 - d by omega, (key d w hd h2).2 hD] at h4; cases h4
 .intro h d hd; have : nob (fun w => dvg p (dgl p (d + 1) w).reverse (m - d) (1 :: (dgl p m v).reverse)) (p ^ (d + 1)) = true := (Jbz _ _).2 fun w hw => by
   cases hb : dvg p (dgl p (d + 1) w).reverse (m - d) (1 :: (dgl p m v).reverse) with
   | false => rfl
   | true =>
    rw [show m - d = m + 1 - (d + 1) by omega] at hb; exact absurd ((key (d + 1) w (by omega) (by omega)).1 hb) (h (d + 1) (by omega) (by omega) w hw)
  rw [this]; rfl
theorem JV {p m lo n v : Nat} (hp : 2 <= p) (hm : 0 < m) (h : chk p m lo n = true) (h1 : lo <= v) (h2 : v < lo + n) (hv : v < p ^ m) (hi : Irr p m (dv p v)) : ∃ g, Gn (p ^ m) (Jt p m (dv p v)) g := by
 have h3 := (Jbz _ _).1 h (v - lo) (by omega); simp only [show lo + (v - lo) = v by omega, (Jxd (by omega) hv).2 hi, cond_true] at h3; exact Jq8 hp hm Jy4 (by simpa using h3)
end Go.Proofs.YtngdhnijkgjhcaaGreat
set_option linter.unusedVariables false
namespace Go.Proofs.YtngdhnijkgjhcaaGreat
theorem Jth : chk 2 2 0 4 = true := by decide +kernel
theorem Jtg : chk 2 3 0 8 = true := by decide +kernel
theorem Jtf : chk 2 4 0 16 = true := by decide +kernel
theorem Jte : chk 2 5 0 32 = true := by decide +kernel
theorem Jtd : chk 2 6 0 64 = true := by decide +kernel
theorem Jtc : chk 2 7 0 64 = true := by decide +kernel
theorem Jog : chk 2 7 64 64 = true := by decide +kernel
theorem Jtb : chk 2 8 0 24 = true := by decide +kernel
theorem Jof : chk 2 8 24 24 = true := by decide +kernel
theorem Joe : chk 2 8 48 24 = true := by decide +kernel
theorem Jod : chk 2 8 72 24 = true := by decide +kernel
theorem Joc : chk 2 8 96 24 = true := by decide +kernel
theorem Jl3 : chk 2 8 120 24 = true := by decide +kernel
theorem Jl2 : chk 2 8 144 24 = true := by decide +kernel
theorem Jl1 : chk 2 8 168 24 = true := by decide +kernel
theorem Jl0 : chk 2 8 192 24 = true := by decide +kernel
theorem Jlz : chk 2 8 216 24 = true := by decide +kernel
theorem Jly : chk 2 8 240 16 = true := by decide +kernel
theorem Jta : chk 3 2 0 9 = true := by decide +kernel
theorem Js9 : chk 3 3 0 27 = true := by decide +kernel
theorem Js8 : chk 3 4 0 64 = true := by decide +kernel
theorem Job : chk 3 4 64 17 = true := by decide +kernel
theorem Js7 : chk 3 5 0 24 = true := by decide +kernel
theorem Joa : chk 3 5 24 24 = true := by decide +kernel
theorem Jn9 : chk 3 5 48 24 = true := by decide +kernel
theorem Jn8 : chk 3 5 72 24 = true := by decide +kernel
theorem Jn7 : chk 3 5 96 24 = true := by decide +kernel
theorem Jlx : chk 3 5 120 24 = true := by decide +kernel
theorem Jlw : chk 3 5 144 24 = true := by decide +kernel
theorem Jlv : chk 3 5 168 24 = true := by decide +kernel
theorem Jlu : chk 3 5 192 24 = true := by decide +kernel
theorem Jlt : chk 3 5 216 24 = true := by decide +kernel
theorem Jls : chk 3 5 240 3 = true := by decide +kernel
theorem Js6 : chk 5 2 0 25 = true := by decide +kernel
theorem Js5 : chk 5 3 0 64 = true := by decide +kernel
theorem Jn6 : chk 5 3 64 61 = true := by decide +kernel
theorem Js4 : chk 7 2 0 49 = true := by decide +kernel
theorem Joi : chk 11 2 0 64 = true := by decide +kernel
theorem Jl5 : chk 11 2 64 57 = true := by decide +kernel
theorem Joh : chk 13 2 0 64 = true := by decide +kernel
theorem Jl4 : chk 13 2 64 64 = true := by decide +kernel
theorem Jjv : chk 13 2 128 41 = true := by decide +kernel
theorem chk1_0 : ([2, 3, 5, 7, 11, 13, 17, 19, 23, 29, 31, 37, 41, 43, 47, 53, 59, 61] : List Nat).all (fun p => Jn0 p 1 [0]) = true := by decide +kernel
theorem chk1_1 : ([67, 71, 73, 79, 83, 89, 97, 101, 103, 107, 109, 113, 127, 131, 137, 139, 149, 151] : List Nat).all (fun p => Jn0 p 1 [0]) = true := by decide +kernel
theorem chk1_2 : ([157, 163, 167, 173, 179, 181, 191, 193, 197, 199, 211, 223, 227, 229, 233, 239, 241, 251] : List Nat).all (fun p => Jn0 p 1 [0]) = true := by decide +kernel
theorem gx_2_2 {v : Nat} (hv : v < 2 ^ 2) (hI : Irr 2 2 (dv 2 v)) : ∃ g, Gn (2 ^ 2) (Jt 2 2 (dv 2 v)) g := by
 have hv2 : v < 4 := hv; exact JV (by decide) (by decide) Jth (by omega) (by omega) hv hI
theorem gx_2_3 {v : Nat} (hv : v < 2 ^ 3) (hI : Irr 2 3 (dv 2 v)) : ∃ g, Gn (2 ^ 3) (Jt 2 3 (dv 2 v)) g := by
 have hv2 : v < 8 := hv; exact JV (by decide) (by decide) Jtg (by omega) (by omega) hv hI
theorem gx_2_4 {v : Nat} (hv : v < 2 ^ 4) (hI : Irr 2 4 (dv 2 v)) : ∃ g, Gn (2 ^ 4) (Jt 2 4 (dv 2 v)) g := by
 have hv2 : v < 16 := hv; exact JV (by decide) (by decide) Jtf (by omega) (by omega) hv hI
theorem gx_2_5 {v : Nat} (hv : v < 2 ^ 5) (hI : Irr 2 5 (dv 2 v)) : ∃ g, Gn (2 ^ 5) (Jt 2 5 (dv 2 v)) g := by
 have hv2 : v < 32 := hv; exact JV (by decide) (by decide) Jte (by omega) (by omega) hv hI
theorem gx_2_6 {v : Nat} (hv : v < 2 ^ 6) (hI : Irr 2 6 (dv 2 v)) : ∃ g, Gn (2 ^ 6) (Jt 2 6 (dv 2 v)) g := by
 have hv2 : v < 64 := hv; exact JV (by decide) (by decide) Jtd (by omega) (by omega) hv hI
theorem gx_2_7 {v : Nat} (hv : v < 2 ^ 7) (hI : Irr 2 7 (dv 2 v)) : ∃ g, Gn (2 ^ 7) (Jt 2 7 (dv 2 v)) g := by
 have hv2 : v < 128 := hv; rcases Nat.lt_or_ge v 64 with h | h
 .exact JV (by decide) (by decide) Jtc (by omega) (by omega) hv hI
 exact JV (by decide) (by decide) Jog (by omega) (by omega) hv hI
theorem gx_2_8 {v : Nat} (hv : v < 2 ^ 8) (hI : Irr 2 8 (dv 2 v)) : ∃ g, Gn (2 ^ 8) (Jt 2 8 (dv 2 v)) g := by
 have hv2 : v < 256 := hv; rcases Nat.lt_or_ge v 24 with h | h
 .exact JV (by decide) (by decide) Jtb (by omega) (by omega) hv hI
 rcases Nat.lt_or_ge v 48 with h | h
 .exact JV (by decide) (by decide) Jof (by omega) (by omega) hv hI
 rcases Nat.lt_or_ge v 72 with h | h
 .exact JV (by decide) (by decide) Joe (by omega) (by omega) hv hI
 rcases Nat.lt_or_ge v 96 with h | h
 .exact JV (by decide) (by decide) Jod (by omega) (by omega) hv hI
 rcases Nat.lt_or_ge v 120 with h | h
 .exact JV (by decide) (by decide) Joc (by omega) (by omega) hv hI
 rcases Nat.lt_or_ge v 144 with h | h
 .exact JV (by decide) (by decide) Jl3 (by omega) (by omega) hv hI
 rcases Nat.lt_or_ge v 168 with h | h
 .exact JV (by decide) (by decide) Jl2 (by omega) (by omega) hv hI
 rcases Nat.lt_or_ge v 192 with h | h
 .exact JV (by decide) (by decide) Jl1 (by omega) (by omega) hv hI
 rcases Nat.lt_or_ge v 216 with h | h
 .exact JV (by decide) (by decide) Jl0 (by omega) (by omega) hv hI
 rcases Nat.lt_or_ge v 240 with h | h
 .exact JV (by decide) (by decide) Jlz (by omega) (by omega) hv hI
 exact JV (by decide) (by decide) Jly (by omega) (by omega) hv hI
theorem gx_3_2 {v : Nat} (hv : v < 3 ^ 2) (hI : Irr 3 2 (dv 3 v)) : ∃ g, Gn (3 ^ 2) (Jt 3 2 (dv 3 v)) g := by
 have hv2 : v < 9 := hv; exact JV (by decide) (by decide) Jta (by omega) (by omega) hv hI
theorem gx_3_3 {v : Nat} (hv : v < 3 ^ 3) (hI : Irr 3 3 (dv 3 v)) : ∃ g, Gn (3 ^ 3) (Jt 3 3 (dv 3 v)) g := by
 have hv2 : v < 27 := hv; exact JV (by decide) (by decide) Js9 (by omega) (by omega) hv hI
theorem gx_3_4 {v : Nat} (hv : v < 3 ^ 4) (hI : Irr 3 4 (dv 3 v)) : ∃ g, Gn (3 ^ 4) (Jt 3 4 (dv 3 v)) g := by
 have hv2 : v < 81 := hv; rcases Nat.lt_or_ge v 64 with h | h
 .exact JV (by decide) (by decide) Js8 (by omega) (by omega) hv hI
 exact JV (by decide) (by decide) Job (by omega) (by omega) hv hI
theorem gx_3_5 {v : Nat} (hv : v < 3 ^ 5) (hI : Irr 3 5 (dv 3 v)) : ∃ g, Gn (3 ^ 5) (Jt 3 5 (dv 3 v)) g := by
 have hv2 : v < 243 := hv; rcases Nat.lt_or_ge v 24 with h | h
 .exact JV (by decide) (by decide) Js7 (by omega) (by omega) hv hI
 rcases Nat.lt_or_ge v 48 with h | h
 .exact JV (by decide) (by decide) Joa (by omega) (by omega) hv hI
 rcases Nat.lt_or_ge v 72 with h | h
 .exact JV (by decide) (by decide) Jn9 (by omega) (by omega) hv hI
 rcases Nat.lt_or_ge v 96 with h | h
 .exact JV (by decide) (by decide) Jn8 (by omega) (by omega) hv hI
 rcases Nat.lt_or_ge v 120 with h | h
 .exact JV (by decide) (by decide) Jn7 (by omega) (by omega) hv hI
 rcases Nat.lt_or_ge v 144 with h | h
 .exact JV (by decide) (by decide) Jlx (by omega) (by omega) hv hI
 rcases Nat.lt_or_ge v 168 with h | h
 .exact JV (by decide) (by decide) Jlw (by omega) (by omega) hv hI
 rcases Nat.lt_or_ge v 192 with h | h
 .exact JV (by decide) (by decide) Jlv (by omega) (by omega) hv hI
 rcases Nat.lt_or_ge v 216 with h | h
 .exact JV (by decide) (by decide) Jlu (by omega) (by omega) hv hI
 rcases Nat.lt_or_ge v 240 with h | h
 .exact JV (by decide) (by decide) Jlt (by omega) (by omega) hv hI
 exact JV (by decide) (by decide) Jls (by omega) (by omega) hv hI
theorem gx_5_2 {v : Nat} (hv : v < 5 ^ 2) (hI : Irr 5 2 (dv 5 v)) : ∃ g, Gn (5 ^ 2) (Jt 5 2 (dv 5 v)) g := by
 have hv2 : v < 25 := hv; exact JV (by decide) (by decide) Js6 (by omega) (by omega) hv hI
theorem gx_5_3 {v : Nat} (hv : v < 5 ^ 3) (hI : Irr 5 3 (dv 5 v)) : ∃ g, Gn (5 ^ 3) (Jt 5 3 (dv 5 v)) g := by
 have hv2 : v < 125 := hv; rcases Nat.lt_or_ge v 64 with h | h
 .exact JV (by decide) (by decide) Js5 (by omega) (by omega) hv hI
 exact JV (by decide) (by decide) Jn6 (by omega) (by omega) hv hI
theorem gx_7_2 {v : Nat} (hv : v < 7 ^ 2) (hI : Irr 7 2 (dv 7 v)) : ∃ g, Gn (7 ^ 2) (Jt 7 2 (dv 7 v)) g := by
 have hv2 : v < 49 := hv; exact JV (by decide) (by decide) Js4 (by omega) (by omega) hv hI
theorem Qam {v : Nat} (hv : v < 11 ^ 2) (hI : Irr 11 2 (dv 11 v)) : ∃ g, Gn (11 ^ 2) (Jt 11 2 (dv 11 v)) g := by
 have hv2 : v < 121 := hv; rcases Nat.lt_or_ge v 64 with h | h
 .exact JV (by decide) (by decide) Joi (by omega) (by omega) hv hI
 exact JV (by decide) (by decide) Jl5 (by omega) (by omega) hv hI
theorem Qal {v : Nat} (hv : v < 13 ^ 2) (hI : Irr 13 2 (dv 13 v)) : ∃ g, Gn (13 ^ 2) (Jt 13 2 (dv 13 v)) g := by
 have hv2 : v < 169 := hv; rcases Nat.lt_or_ge v 64 with h | h
 .exact JV (by decide) (by decide) Joh (by omega) (by omega) hv hI
 rcases Nat.lt_or_ge v 128 with h | h
 .exact JV (by decide) (by decide) Jl4 (by omega) (by omega) hv hI
 exact JV (by decide) (by decide) Jjv (by omega) (by omega) hv hI
noncomputable def prL : List Nat := [2, 3, 5, 7, 11, 13, 17, 19, 23, 29, 31, 37, 41, 43, 47, 53, 59, 61, 67, 71, 73, 79, 83, 89, 97, 101, 103, 107, 109, 113, 127, 131, 137, 139, 149, 151, 157, 163, 167, 173, 179, 181, 191, 193, 197, 199, 211, 223, 227, 229, 233, 239, 241, 251]
theorem Jz0 : (List.range 257).all (fun p => prL.contains p || Nat.blt p 2 || (List.range p).any (fun e => Nat.ble 2 e && Nat.beq (p % e) 0)) = true := by decide +kernel
theorem Jzz {p : Nat} (hp : IsLf p p) (h : p <= 256) : p ∈ prL := by
 have h1 := List.all_eq_true.1 Jz0 p (List.mem_range.2 (by omega)); simp only [Bool.or_eq_true, List.contains_iff_mem, List.any_eq_true, List.mem_range, Bool.and_eq_true] at h1; rcases h1 with (h1 | h1) | ⟨e, he, h2, h3⟩
 .exact h1
 .have := hp.two; have := Nat.le_of_ble_eq_true h1; omega
 .have := hp.min e (Nat.le_of_ble_eq_true h2) (Nat.eq_of_beq_eq_true h3); omega
theorem gx_1 {p : Nat} (hp : IsLf p p) (h : p <= 256) : ∃ g, Gn (p ^ 1) (Jt p 1 (dv p 0)) g := by
 have hm := Jzz hp h; have hg : Jn0 p 1 [0] = true := by
  unfold prL at hm; rw [show ([2, 3, 5, 7, 11, 13, 17, 19, 23, 29, 31, 37, 41, 43, 47, 53, 59, 61, 67, 71, 73, 79, 83, 89, 97, 101, 103, 107, 109, 113, 127, 131, 137, 139, 149, 151, 157, 163, 167, 173, 179, 181, 191, 193, 197, 199, 211, 223, 227, 229, 233, 239, 241, 251] : List Nat) = ([2, 3, 5, 7, 11, 13, 17, 19, 23, 29, 31, 37, 41, 43, 47, 53, 59, 61] : List Nat) ++ ([67, 71, 73, 79, 83, 89, 97, 101, 103, 107, 109, 113, 127, 131, 137, 139, 149, 151] : List Nat) ++ ([157, 163, 167, 173, 179, 181, 191, 193, 197, 199, 211, 223, 227, 229, 233, 239, 241, 251] : List Nat) from rfl] at hm; simp only [List.mem_append] at hm; rcases hm with (h | h) | h
  .exact List.all_eq_true.1 chk1_0 p h
  .exact List.all_eq_true.1 chk1_1 p h
  .exact List.all_eq_true.1 chk1_2 p h
 refine Jq8 hp.two (by decide) ⟨rfl, fun i hi => ?_⟩ hg; rw [show i = 0 by omega, Jg6]; simp [vz]
theorem Jwr {p m : Nat} (hp : IsLf p p) (hm : 2 <= m) (hq : p ^ m <= 256) : (p = 2 /\ m = 2) ∨ (p = 2 /\ m = 3) ∨ (p = 2 /\ m = 4) ∨ (p = 2 /\ m = 5) ∨ (p = 2 /\ m = 6) ∨ (p = 2 /\ m = 7) ∨ (p = 2 /\ m = 8) ∨ (p = 3 /\ m = 2) ∨ (p = 3 /\ m = 3) ∨ (p = 3 /\ m = 4) ∨ (p = 3 /\ m = 5) ∨ (p = 5 /\ m = 2) ∨ (p = 5 /\ m = 3) ∨ (p = 7 /\ m = 2) ∨ (p = 11 /\ m = 2) ∨ (p = 13 /\ m = 2) := by
  have h2 := hp.two
  have hpow : ∀ k, k <= m -> p ^ k <= 256 := fun k hk => Nat.le_trans (Nat.pow_le_pow_right (by omega) hk) hq
  have hp2 : p <= 16 := by
    rcases Nat.lt_or_ge 16 p with h | h
    . have h1 := hpow 2 hm
      have h3 : 17 ^ 2 <= p ^ 2 := Nat.pow_le_pow_left h 2
      omega
    . exact h
  have hnd : ∀ e, 2 <= e -> e < p -> p % e ≠ 0 := fun e he hlt h0 => by have := hp.min e he h0; omega
  have hc : p = 2 ∨ p = 3 ∨ p = 5 ∨ p = 7 ∨ p = 11 ∨ p = 13 := by
    have h3 := hnd 2 (by omega)
    have h4 := hnd 3 (by omega)
    omega
  rcases hc with rfl | rfl | rfl | rfl | rfl | rfl
  . have : m <= 8 := by
      rcases Nat.lt_or_ge 8 m with h | h
      . have := hpow 9 h; omega
      . exact h
    omega
  . have : m <= 5 := by
      rcases Nat.lt_or_ge 5 m with h | h
      . have := hpow 6 h; omega
      . exact h
    omega
  . have : m <= 3 := by
      rcases Nat.lt_or_ge 3 m with h | h
      . have := hpow 4 h; omega
      . exact h
    omega
  . have : m <= 2 := by
      rcases Nat.lt_or_ge 2 m with h | h
      . have := hpow 3 h; omega
      . exact h
    omega
  . have : m <= 2 := by
      rcases Nat.lt_or_ge 2 m with h | h
      . have := hpow 3 h; omega
      . exact h
    omega
  . have : m <= 2 := by
      rcases Nat.lt_or_ge 2 m with h | h
      . have := hpow 3 h; omega
      . exact h
    omega
theorem gen_ex {p m v : Nat} (hp : IsLf p p) (hm : 0 < m) (hq : p ^ m <= 256) (hv : v < p ^ m) (h1 : m = 1 -> v = 0) (hI : Irr p m (dv p v)) : ∃ g, Gn (p ^ m) (Jt p m (dv p v)) g := by
  rcases Nat.lt_or_ge m 2 with h | h
  . have : m = 1 := by omega
    subst this
    rw [h1 rfl]
    exact gx_1 hp (by simpa using hq)
  . rcases Jwr hp h hq with ⟨rfl, rfl⟩ | ⟨rfl, rfl⟩ | ⟨rfl, rfl⟩ | ⟨rfl, rfl⟩ | ⟨rfl, rfl⟩ | ⟨rfl, rfl⟩ | ⟨rfl, rfl⟩ | ⟨rfl, rfl⟩ | ⟨rfl, rfl⟩ | ⟨rfl, rfl⟩ | ⟨rfl, rfl⟩ | ⟨rfl, rfl⟩ | ⟨rfl, rfl⟩ | ⟨rfl, rfl⟩ | ⟨rfl, rfl⟩ | ⟨rfl, rfl⟩
    . exact gx_2_2 hv hI
    . exact gx_2_3 hv hI
    . exact gx_2_4 hv hI
    . exact gx_2_5 hv hI
    . exact gx_2_6 hv hI
    . exact gx_2_7 hv hI
    . exact gx_2_8 hv hI
    . exact gx_3_2 hv hI
    . exact gx_3_3 hv hI
    . exact gx_3_4 hv hI
    . exact gx_3_5 hv hI
    . exact gx_5_2 hv hI
    . exact gx_5_3 hv hI
    . exact gx_7_2 hv hI
    . exact Qam hv hI
    . exact Qal hv hI
end Go.Proofs.YtngdhnijkgjhcaaGreat
set_option linter.unusedVariables false
set_option linter.unusedSimpArgs false
namespace Go.Proofs.YtngdhnijkgjhcaaGreat
def vo (l : List Int) : Vec := fun i => l.getD i 0
theorem JX (l : List Int) (i : Nat) : gi l (i : Int) = vo l i := rfl
theorem QJ (l : List Int) (i : Nat) (x : Int) : si l (i : Int) x = l.set i x := rfl
theorem Jex (a b : Nat) : (a : Int).tmod (b : Int) = ((a % b : Nat) : Int) := rfl
theorem Jv4 (a b : Nat) : (a : Int).tdiv (b : Int) = ((a / b : Nat) : Int) := rfl
theorem Qn (l : List Int) (i j : Nat) (x : Int) : vo (l.set i x) j = if i = j /\ i < l.length then x else vo l j := by
 unfold vo; rw [List.getD_eq_getElem?_getD, List.getD_eq_getElem?_getD, List.getElem?_set]; by_cases h : i = j
 .subst h; by_cases h2 : i < l.length
  .simp [h2]
  .simp [h2]
 .simp [h]
theorem Jbc (n : Nat) (i : Nat) : vo (List.replicate n (0 : Int)) i = 0 := by
 unfold vo; rw [List.getD_eq_getElem?_getD, List.getElem?_replicate]; split <;> rfl
theorem Jco {l : List Int} {i : Nat} (h : l.length <= i) : vo l i = 0 := by
 unfold vo; rw [List.getD_eq_getElem?_getD, List.getElem?_eq_none h]; rfl
theorem QY {l o : List Int} (h : l.length = o.length) (hv : ∀ i, i < l.length -> vo l i = vo o i) : l = o := by
 refine List.ext_getElem h fun i h1 h2 => ?_; have := hv i h1; unfold vo at this; rw [List.getD_eq_getElem?_getD, List.getD_eq_getElem?_getD, List.getElem?_eq_getElem h1, List.getElem?_eq_getElem h2] at this; exact this
theorem JD {x : Int} (h : -1000000000000 <= x) (h2 : x <= 1000000000000) : I64 x := ⟨by omega, by omega⟩
theorem Jgd {n : Nat} (h : n <= 1000000000000) : I64 (n : Int) := JD (by omega) (by omega)
def dgi (p n x : Nat) : List Int := (dgl p n x).map fun (a : Nat) => (a : Int)
theorem Qq (p n x : Nat) : (dgi p n x).length = n := by simp [dgi, Yf]
theorem Y8 {p n x i : Nat} (h : i < n) : vo (dgi p n x) i = dv p x i := by
 rw [<- Jer p n x i h]; unfold vo dgi; rw [List.getD_eq_getElem?_getD, List.getElem?_map, List.getD_eq_getElem?_getD]; rw [List.getElem?_eq_getElem (by rw [Yf]; exact h)]; rfl
theorem Jv1 {b : Bool} {Q : Int -> Prop} (h : Q (if b = true then 0 else 1)) : Jhj b Q := by
 cases b
 .exact ⟨fun h' => absurd h' (by decide), fun _ => h⟩
 .exact ⟨fun _ => h, fun h' => absurd h' (by decide)⟩
theorem Qag {n k : Nat} (hn : 2 <= n) (hk : n < k * k) (h : ∀ e, e < k -> 2 <= e -> n % e ≠ 0) : IsLf n n := by
 refine ⟨hn, Nat.mod_self n, fun e he hm => ?_⟩; rcases Nat.lt_or_ge e k with hc | hc
 .exact absurd hm (h e hc he)
 .obtain ⟨t, ht⟩ := Nat.dvd_of_mod_eq_zero hm; have hq1 : t < k := by
   rcases Nat.lt_or_ge t k with h1 | h1
   .exact h1
   .have := Nat.mul_le_mul hc h1; omega
  rcases Nat.lt_or_ge t 2 with h2 | h2
  .have : t = 0 ∨ t = 1 := by omega
   rcases this with rfl | rfl
   .omega
   .omega
  .exact absurd (Nat.mod_eq_zero_of_dvd ⟨e, by rw [ht, Nat.mul_comm]⟩) (h t hq1 h2)
theorem Jf3 {x : Nat} {Q : Int -> Prop} (h2 : 2 <= x) (hx : x <= 256) (h : ∀ d : Nat, IsLf x d -> Q d) : YE x Q := by
 refine ⟨fun z => ∃ k : Nat, z = k /\ 2 <= k /\ k <= 17 /\ ∀ e, e < k -> 2 <= e -> x % e ≠ 0, fun z => (20 - z).toNat, ⟨2, rfl, by omega, by omega, fun e _ _ => by omega⟩, ?_⟩; rintro _ ⟨k, rfl, hk2, hk, hm⟩; dsimp only; have e1 : ((k : Nat) : Int) * (k : Int) = ((k * k : Nat) : Int) := by push_cast; rfl
 have hb : k * k <= 17 * 17 := Nat.mul_le_mul hk hk; rw [e1]; refine ⟨JD (by omega) (by omega), fun hle => ⟨by omega, ?_, ?_⟩, fun hgt => ?_⟩
 .intro h0; rw [Jex] at h0; refine h k ⟨hk2, by omega, fun e he h3 => ?_⟩; rcases Nat.lt_or_ge e k with hc | hc
  .exact absurd h3 (hm e hc he)
  .exact hc
 .intro h0; rw [Jex] at h0; have hk16 : k <= 16 := by
   rcases Nat.lt_or_ge 16 k with hc | hc
   .have := Nat.mul_le_mul hc hc; omega
   .exact hc
  refine ⟨JD (by omega) (by omega), ⟨k + 1, by push_cast; rfl, by omega, by omega, fun e he h3 => ?_⟩, by omega⟩; rcases Nat.lt_or_ge e k with hc | hc
  .exact hm e hc h3
  .rw [show e = k by omega]; omega
 .exact h x (Qag h2 (by omega) hm)
theorem IsLf.uniq {n d e : Nat} (h : IsLf n d) (h' : IsLf n e) : d = e := Nat.le_antisymm (h.min e h'.two h'.dvd) (h'.min d h.two h.dvd)
theorem Jsd {x : Int} {Q : Bool -> Prop} (hx : x <= 256) (h : ∀ b : Bool, (b = true ↔ 2 <= x /\ IsLf x.toNat x.toNat) -> Q b) : Jcf x Q := by
 refine ⟨fun h2 => ?_, fun h2 => h false ⟨fun h' => by (cases h'), fun h' => absurd h'.1 h2⟩⟩; obtain ⟨n, rfl⟩ := Int.eq_ofNat_of_zero_le (show 0 <= x by omega); refine Jf3 (by omega) (by omega) fun d hd => h _ ?_; rw [decide_eq_true_iff, Int.toNat_natCast]; constructor
 .intro he; have : d = n := by omega
  subst this; exact ⟨h2, hd⟩
 .rintro ⟨_, hn⟩; rw [hd.uniq hn]
theorem Jvy {x : Nat} {Q : Bool -> Prop} (h2 : 2 <= x) (hx : x <= 256) (h : ∀ b : Bool, (b = true ↔ IsLf x x) -> Q b) : Jdz x Q := by
 refine ⟨fun z => ∃ k : Nat, z = k /\ 2 <= k /\ k <= x /\ ∀ e, e < k -> 2 <= e -> x % e ≠ 0, fun z => (x - z).toNat, ⟨2, rfl, by omega, by omega, fun e _ _ => by omega⟩, ?_⟩; rintro _ ⟨k, rfl, hk2, hk, hm⟩; dsimp only; refine ⟨fun hlt => ⟨by omega, fun h0 => ?_, fun h0 => ?_⟩, fun hge => ?_⟩
 .rw [Jex] at h0; refine h false ⟨fun h' => by (cases h'), fun hp => ?_⟩; have := hp.min k hk2 (by omega); omega
 .rw [Jex] at h0; refine ⟨JD (by omega) (by omega), ⟨k + 1, by push_cast; rfl, by omega, by omega, fun e he h3 => ?_⟩, by omega⟩; rcases Nat.lt_or_ge e k with hc | hc
  .exact hm e hc h3
  .rw [show e = k by omega]; omega
 .refine h true ⟨fun _ => ⟨h2, Nat.mod_self x, fun e he h0 => ?_⟩, fun _ => rfl⟩; rcases Nat.lt_or_ge e x with hc | hc
  .exact absurd h0 (hm e (by omega) he)
  .exact hc
theorem QF {p a b : Nat} (hp : 0 < p) (h : a <= b) : p ^ a <= p ^ b := Nat.pow_le_pow_right hp h
theorem Jix {p : Nat} {M : Int} {mf : List Int} {Q : Int -> Prop} (hp : 2 <= p) (hp2 : p <= 256) (h : ∀ r : Int, (p ^ M.toNat <= 256 -> r = ((p ^ M.toNat : Nat) : Int)) -> (256 < p ^ M.toNat -> 256 < r) -> Q r) : Ja4 p M mf Q := by
 refine ⟨fun r => (p ^ M.toNat <= 256 -> r = ((p ^ M.toNat : Nat) : Int)) /\ (256 < p ^ M.toNat -> 256 < r), ⟨fun z i => ∃ k : Nat, i = k /\ k <= M.toNat /\ z = ((p ^ k : Nat) : Int) /\ p ^ k <= 65536 /\ k <= 16, fun z i => (20 - i).toNat, ⟨0, rfl, Nat.zero_le _, by simp, by simp, by omega⟩, ?_⟩, fun r hr => h r hr.1 hr.2⟩; rintro _ _ ⟨k, rfl, hk, rfl, hb, hk16⟩; dsimp only; refine ⟨fun hlt => ⟨fun hle => ?_, fun hgt => ?_⟩, fun hge => ?_⟩
 .have hk8 : p ^ k <= 256 := by omega
  have hkk : k < 16 := by
   rcases Nat.lt_or_ge k 16 with hc | hc
   .exact hc
   .have h1 := QF (p := p) (by omega) hc; have h2 : 2 ^ 16 <= p ^ 16 := Nat.pow_le_pow_left hp 16; omega
  have e1 : ((p ^ k : Nat) : Int) * (p : Int) = ((p ^ (k + 1) : Nat) : Int) := by rw [Nat.pow_succ]; push_cast; rfl
  have hb2 : p ^ (k + 1) <= 65536 := by
   rw [Nat.pow_succ]; have := Nat.mul_le_mul hk8 hp2; omega
  rw [e1]; exact ⟨JD (by omega) (by omega), JD (by omega) (by omega), ⟨k + 1, by push_cast; rfl, by omega, rfl, hb2, by omega⟩, by omega⟩
 .have := QF (p := p) (by omega) hk; exact ⟨fun h' => by omega, fun _ => by omega⟩
 .have : k = M.toNat := by omega
  subst this; exact ⟨fun _ => rfl, fun h' => by omega⟩
def Jhr (P M : Int) : Int := if 2 <= P /\ 1 <= M /\ P.toNat ^ M.toNat <= 256 then ((P.toNat ^ M.toNat : Nat) : Int) else 0
theorem Jkn {P M : Int} {mf : List Int} {Q : Int -> Prop} (h : Q (Jhr P M)) : Jbq P M mf Q := by
 refine ⟨fun h1 => ?_, fun h1 => ⟨fun h2 => ?_, fun h2 => ⟨fun h3 => ?_, fun h3 => ?_⟩⟩⟩
 .rw [Jhr, if_neg (by omega)] at h; exact h
 .rw [Jhr, if_neg (by omega)] at h; exact h
 .rw [Jhr, if_neg] at h
  .exact h
  .rintro ⟨h4, h5, h6⟩; have e1 : 2 ^ 9 <= P.toNat ^ 9 := Nat.pow_le_pow_left (by omega) 9; have e2 := QF (p := P.toNat) (by omega) (show 9 <= M.toNat by omega); omega
 .obtain ⟨p, rfl⟩ := Int.eq_ofNat_of_zero_le (show 0 <= P by omega); obtain ⟨m, rfl⟩ := Int.eq_ofNat_of_zero_le (show 0 <= M by omega); refine ⟨fun z i => ∃ k : Nat, i = k /\ k <= m /\ z = ((p ^ k : Nat) : Int) /\ p ^ k <= 256, fun z i => (20 - i).toNat, ⟨0, rfl, Nat.zero_le _, by simp, by simp⟩, ?_⟩; rintro _ _ ⟨k, rfl, hk, rfl, hb⟩; dsimp only; rw [show (256 : Int) = ((256 : Nat) : Int) from rfl, Jv4]; have hd : 256 / p <= 256 := Nat.div_le_self _ _; have hdm : ∀ a, a <= 256 / p ↔ a * p <= 256 := fun a => Nat.le_div_iff_mul_le (show 0 < p by omega); generalize 256 / p = D at *
  refine ⟨fun hlt => ⟨⟨by omega, JD (by omega) (by omega)⟩, fun hgt => ?_, fun hle => ?_⟩, fun hge => ?_⟩
  .rw [Jhr, if_neg] at h
   .exact h
   .rintro ⟨_, _, h6⟩; simp only [Int.toNat_natCast] at h6; have h7 : p ^ (k + 1) <= 256 := Nat.le_trans (QF (by omega) (by omega)) h6; rw [Nat.pow_succ] at h7; have := (hdm _).2 h7; omega
  .have h7 : p ^ (k + 1) <= 256 := by rw [Nat.pow_succ]; exact (hdm _).1 (by omega)
   have e1 : ((p ^ k : Nat) : Int) * (p : Int) = ((p ^ (k + 1) : Nat) : Int) := by rw [Nat.pow_succ]; push_cast; rfl
   rw [e1]; exact ⟨JD (by omega) (by omega), JD (by omega) (by omega), ⟨k + 1, by push_cast; rfl, by omega, rfl, h7⟩, by omega⟩
  .have : k = m := by omega
   subst this; rw [Jhr, if_pos ⟨by omega, by omega, by simpa using hb⟩] at h
   simpa using h
theorem Jdu (x p i : Nat) : x / p ^ i / p = x / p ^ (i + 1) := by rw [Nat.div_div_eq_div_mul, Nat.pow_succ]
theorem Jf5 {p n x : Nat} {Q : List Int -> Prop} (hp : 0 < p) (hn : n <= 1000) (hx : x <= 1000) (h : Q (dgi p n x)) : Jab p n x Q := by
 refine ⟨⟨by omega, by omega, by omega⟩, fun l z i => ∃ k : Nat, i = k /\ k <= n /\ z = ((x / p ^ k : Nat) : Int) /\ l.length = n /\ ∀ j, j < k -> vo l j = dv p x j, fun l z i => (n - i).toNat, ⟨0, rfl, Nat.zero_le _, by simp, by simp, fun j hj => by omega⟩, ?_⟩; rintro l _ _ ⟨k, rfl, hk, rfl, hl, hv⟩; dsimp only; have hd : x / p ^ k <= x := Nat.div_le_self _ _; have hd2 : x / p ^ k / p <= x / p ^ k := Nat.div_le_self _ _; rw [Jv4, Jex, QJ]; simp only [Int.toNat_natCast]; refine ⟨fun hlt => ⟨by omega, ⟨by omega, by omega⟩, ⟨by omega, Jgd (by omega)⟩, JD (by omega) (by omega), ⟨k + 1, by push_cast; rfl, by omega, by rw [Jdu], by rw [List.length_set, hl], fun j hj => ?_⟩, by omega⟩, fun hge => ?_⟩
 .rw [Qn]; by_cases hjk : k = j
  .subst hjk; rw [if_pos ⟨rfl, by omega⟩]; rfl
  .rw [if_neg (by omega)]; exact hv j (by omega)
 .have : l = dgi p n x := QY (by rw [hl, Qq]) fun j hj => by rw [hv j (by omega), Y8 (by omega)]
  rw [this]; exact h
theorem Jsb {p n x : Nat} {Q : List Int -> Prop} (hp : 0 < p) (hn : n <= 1000) (hx : x <= 1000) (h : Q (dgi p n x)) : Jcc x p n Q := by
 refine ⟨⟨by omega, by omega, by omega⟩, fun l z i => ∃ k : Nat, i = k /\ k <= n /\ z = ((x / p ^ k : Nat) : Int) /\ l.length = n /\ ∀ j, j < k -> vo l j = dv p x j, fun l z i => (n - i).toNat, ⟨0, rfl, Nat.zero_le _, by simp, by simp, fun j hj => by omega⟩, ?_⟩; rintro l _ _ ⟨k, rfl, hk, rfl, hl, hv⟩; dsimp only; have hd : x / p ^ k <= x := Nat.div_le_self _ _; have hd2 : x / p ^ k / p <= x / p ^ k := Nat.div_le_self _ _; rw [Jv4, Jex, QJ]; simp only [Int.toNat_natCast]; refine ⟨fun hlt => ⟨by omega, ⟨by omega, by omega⟩, ⟨by omega, Jgd (by omega)⟩, JD (by omega) (by omega), ⟨k + 1, by push_cast; rfl, by omega, by rw [Jdu], by rw [List.length_set, hl], fun j hj => ?_⟩, by omega⟩, fun hge => ?_⟩
 .rw [Qn]; by_cases hjk : k = j
  .subst hjk; rw [if_pos ⟨rfl, by omega⟩]; rfl
  .rw [if_neg (by omega)]; exact hv j (by omega)
 .have : l = dgi p n x := QY (by rw [hl, Qq]) fun j hj => by rw [hv j (by omega), Y8 (by omega)]
  rw [this]; exact h
theorem Jkm {p m x : Nat} {mf : List Int} {Q : Int -> Prop} (hp : 2 <= p) (hp2 : p <= 256) (hx : x <= 256) (h : Q ((if x % p = p - 1 then x - x % p else x + 1 : Nat) : Int)) : ZM p m mf x Q := by
 have hm := Nat.mod_lt x (show 0 < p by omega); have hm2 := Nat.mod_le x p; refine ⟨by omega, JD (by omega) (by omega), fun h0 => ⟨by omega, ?_⟩, fun h0 => ?_⟩
 .rw [Jex] at h0 ⊢; rw [if_pos (by omega)] at h; refine ⟨JD (by omega) (by omega), ?_⟩; rw [show (x : Int) - ((x % p : Nat) : Int) = ((x - x % p : Nat) : Int) by omega]; exact h
 .rw [Jex] at h0; rw [if_neg (by omega)] at h; exact ⟨JD (by omega) (by omega), by push_cast at h ⊢; exact h⟩
theorem Jde {l : List Int} {Q : List Int -> Prop} (hl : l.length <= 1000000) (h : Q l) : Zj l Q := by
 intro b hb; refine ⟨fun h1 => by rw [<- hb h1]; exact h, fun _ => ⟨by omega, by simpa using h⟩⟩
end Go.Proofs.YtngdhnijkgjhcaaGreat
