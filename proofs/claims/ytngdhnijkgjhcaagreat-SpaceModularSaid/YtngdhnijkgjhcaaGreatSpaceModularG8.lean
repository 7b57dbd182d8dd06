/- Contracts of functions of the program, and what they lean on: D18, D13, D14, D17, D19, Fa, Fb, Fg, Fp, Fk, Fc, V1, V2. -/
import Derived.Test.YtngdhnijkgjhcaaGreatSpaceModularG7
set_option linter.unusedSimpArgs false
set_option linter.unusedVariables false
set_option maxRecDepth 4000
set_option maxHeartbeats 4000000
namespace Go.Proofs.YtngdhnijkgjhcaaGreat
open Go.RowKit
def Jb9  (Q : Bool -> Prop) : Prop :=
  Jig (2 : Int) (1 : Int) ([] : List Int) (3 : Int) ([([(1 : Int), (0 : Int), (1 : Int)] : List Int), ([(0 : Int), (1 : Int), (1 : Int)] : List Int)] : List (List Int)) (3 : Int) ([([(1 : Int), (0 : Int), (0 : Int)] : List Int)] : List (List Int)) (fun q => match q with | (c36, x37, r38) => Jen (2 : Int) (1 : Int) ([] : List Int) (3 : Int) ([([(1 : Int), (0 : Int), (1 : Int)] : List Int), ([(0 : Int), (1 : Int), (1 : Int)] : List Int)] : List (List Int)) (3 : Int) ([([(1 : Int), (0 : Int), (0 : Int)] : List Int)] : List (List Int)) (fun q => match q with | (c47, x48, r49) => Jjv (2 : Int) (1 : Int) ([] : List Int) (3 : Int) ([([(1 : Int), (0 : Int), (1 : Int)] : List Int), ([(0 : Int), (1 : Int), (1 : Int)] : List Int)] : List (List Int)) (fun q => match q with | (c58, x59, r60) => YW (2 : Int) (1 : Int) ([] : List Int) (3 : Int) ([([(1 : Int), (0 : Int), (1 : Int)] : List Int), ([(0 : Int), (1 : Int), (1 : Int)] : List Int)] : List (List Int)) ([(1 : Int), (1 : Int), (0 : Int)] : List Int) (fun q => match q with | (x72, r73) => Jdy (2 : Int) (1 : Int) ([] : List Int) (3 : Int) ([([(1 : Int), (0 : Int), (1 : Int)] : List Int), ([(0 : Int), (1 : Int), (1 : Int)] : List Int)] : List (List Int)) ([(1 : Int), (0 : Int), (0 : Int)] : List Int) (fun q => match q with | (x81, r82) => Ja3 (2 : Int) (1 : Int) ([] : List Int) (3 : Int) ([([(1 : Int), (0 : Int), (0 : Int)] : List Int)] : List (List Int)) c36 x37 (fun q => match q with | (c87, x88, r89) => ZL (2 : Int) (1 : Int) ([] : List Int) (3 : Int) ([([(1 : Int), (0 : Int), (1 : Int)] : List Int), ([(0 : Int), (1 : Int), (1 : Int)] : List Int)] : List (List Int)) ([(1 : Int), (2 : Int)] : List Int) (fun q => match q with | (c101, x102, r103) => Jma (2 : Int) (1 : Int) ([] : List Int) (3 : Int) ([([(1 : Int), (0 : Int), (1 : Int)] : List Int), ([(0 : Int), (1 : Int), (1 : Int)] : List Int)] : List (List Int)) ([(1 : Int), (0 : Int), (0 : Int)] : List Int) (fun q => match q with | (r115, r116) => Z8 (2 : Int) (1 : Int) ([] : List Int) (3 : Int) ([([(1 : Int), (0 : Int), (0 : Int)] : List Int)] : List (List Int)) c36 x37 (fun q => match q with | (r118, r119) => ∃ J121 : Bool -> Prop, (((r38 = (0 : Int)) -> (((r49 = (0 : Int)) -> (((r60 = (0 : Int)) -> (((r73 = (0 : Int)) -> (((r82 = (0 : Int)) -> (((r89 = (0 : Int)) -> (((r103 = (0 : Int)) -> (((r116 = (0 : Int)) -> (J121 (decide (r119 = (0 : Int))))) /\ (¬ (r116 = (0 : Int)) -> J121 false))) /\ (¬ (r103 = (0 : Int)) -> J121 false))) /\ (¬ (r89 = (0 : Int)) -> J121 false))) /\ (¬ (r82 = (0 : Int)) -> J121 false))) /\ (¬ (r73 = (0 : Int)) -> J121 false))) /\ (¬ (r60 = (0 : Int)) -> J121 false))) /\ (¬ (r49 = (0 : Int)) -> J121 false))) /\ (¬ (r38 = (0 : Int)) -> J121 false)) /\ ∀ (b120 : Bool), (J121 b120 -> ((b120 = true) /\ (∃ (x137 : List (List Int)), Jfg (3 : Int) (fun q => q = x137) /\ ((QD x37 x137 (fun q => q = true)) /\ ((c47 = (3 : Int)) /\ (((x48.length : Int) = (0 : Int)) /\ ((QD x59 ([([(1 : Int), (1 : Int), (1 : Int)] : List Int)] : List (List Int)) (fun q => q = true)) /\ ((Q6 x72 ([(1 : Int), (1 : Int)] : List Int) (fun q => q = true)) /\ ((Q6 x81 ([(0 : Int), (0 : Int), (1 : Int)] : List Int) (fun q => q = true)) /\ ((QD x88 ([([(0 : Int), (1 : Int), (0 : Int)] : List Int), ([(0 : Int), (0 : Int), (1 : Int)] : List Int)] : List (List Int)) (fun q => q = true)) /\ ((QD x102 ([([(0 : Int), (1 : Int), (1 : Int)] : List Int)] : List (List Int)) (fun q => q = true)) /\ ((r115 = false) /\ ((r118 = true) /\ (∃ (r277 : Int), YE (2 : Int) (1 : Int) ([] : List Int) c36 x37 (fun q => q = r277) /\ (Q (decide (r277 = (0 : Int)))))))))))))))))))))))))))
theorem Jgc {w : World} {Q : Bool -> Prop}   (hv : Jb9  Q) :
   Calls Tryz.prog 11 #[] w fun e w' => ∃ v Qr, e = .returned v /\ w.grownBy w' none /\ Rows w.heap.size none w' Qr /\ News w.heap.size Qr /\ ∃ (r0 : Bool), v = .bool r0 /\ Qr = [] /\ Q r0 := by
 refine Jk <| Jj (vs := []) [0] XF11 rfl rfl rfl rfl ?_; have hS := Js w; unfold Jb9 at hv; refine Jd 6 <| JN (cells := #[nI 2, nI 1, .slice none 0 0]) XB24 rfl rfl rfl <| SL.alloc (cs := [nI 0, nI 0, .slice none 0 0]) hS JY rfl rfl ?_; intro g11 w12 hS; refine Jq (cs := [nI 2, nI 1, .slice none 0 0]) 0 hS rfl JY rfl rfl rfl rfl rfl ?_; intro w13 hS; refine Ja <| Jd 2 <| Qa (vs := is ([(1 : Int), (0 : Int), (1 : Int)] : List Int)) hS Jt XE3 rfl rfl rfl rfl (Qj _) rfl ?_; intro A14 w15 hS; refine Qa (vs := is ([(0 : Int), (1 : Int), (1 : Int)] : List Int)) hS Jt XE3 rfl rfl rfl rfl (Qj _) rfl ?_; intro A17 w18 hS; refine Qa (vs := [.slice A14 3 3, .slice A17 3 3]) hS Jw JD rfl rfl rfl rfl (by simp [Value.oneCell']) rfl ?_; intro A20 w21 hS; refine JN (cells := #[nI 3, .slice A20 2 2]) Q3 rfl rfl rfl <| SL.alloc (cs := [nI 0, .slice none 0 0]) hS Jr rfl rfl ?_; intro g23 w24 hS; refine Jq (cs := [nI 3, .slice A20 2 2]) 0 hS rfl Jr rfl rfl rfl rfl rfl ?_; intro w25 hS; refine Ja <| Jd 2 <| Qa (vs := is ([(1 : Int), (0 : Int), (0 : Int)] : List Int)) hS Jt XE3 rfl rfl rfl rfl (Qj _) rfl ?_; intro A26 w27 hS; refine Qa (vs := [.slice A26 3 3]) hS Jw JD rfl rfl rfl rfl (by simp [Value.oneCell']) rfl ?_; intro A29 w30 hS; refine JN (cells := #[nI 3, .slice A29 1 1]) Q3 rfl rfl rfl <| SL.alloc (cs := [nI 0, .slice none 0 0]) hS Jr rfl rfl ?_; intro g32 w33 hS; refine Jq (cs := [nI 3, .slice A29 1 1]) 0 hS rfl Jr rfl rfl rfl rfl rfl ?_; intro w34 hS; refine Ja <| Jd 2 <| Jh (cs := [nI 2, nI 1, .slice none 0 0]) JY J1 rfl rfl (Jc (hS.own (i := 7) rfl)) rfl <| Jh (cs := [nI 3, .slice A20 2 2]) Jr JI rfl rfl (Jc (hS.own (i := 3) rfl)) rfl <| Jh (cs := [nI 3, .slice A29 1 1]) Jr JI rfl rfl (Jc (hS.own (i := 0) rfl)) rfl <| SL.call hS (Jnf (YY w34) (⟨_, _, (hS.rd (i := 4) rfl), ⟨⟨_, _, _, rfl, (Qi (hS.rd (i := 6) rfl))⟩, ⟨_, _, _, rfl, (Qi (hS.rd (i := 5) rfl))⟩, trivial⟩⟩ : Rl _ _ _ _ ([([(1 : Int), (0 : Int), (1 : Int)] : List Int), ([(0 : Int), (1 : Int), (1 : Int)] : List Int)] : List (List Int))) (⟨_, _, (hS.rd (i := 1) rfl), ⟨⟨_, _, _, rfl, (Qi (hS.rd (i := 2) rfl))⟩, trivial⟩⟩ : Rl _ _ _ _ ([([(1 : Int), (0 : Int), (0 : Int)] : List Int)] : List (List Int))) hv) XF13 rfl XN13 rfl rfl ?_; rintro _ _ w35 ⟨c36, x37, r38, A39, k40, hs41, rfl, rfl, hv⟩ hGw35 hS; have hS := hS.n1; refine Jb 3 <| SL.alloc (cs := [nI 0, .slice none 0 0]) hS Jr rfl rfl ?_; intro g43 w44 hS; refine Jq (cs := [nI c36, nS A39 x37 k40]) 0 hS rfl Jr rfl rfl rfl rfl rfl ?_; intro w45 hS; refine Jb 2 <| Jd 2 <| Jh (cs := [nI 2, nI 1, .slice none 0 0]) JY J1 rfl rfl (Jc (hS.own (i := 9) rfl)) rfl <| Jh (cs := [nI 3, .slice A20 2 2]) Jr JI rfl rfl (Jc (hS.own (i := 5) rfl)) rfl <| Jh (cs := [nI 3, .slice A29 1 1]) Jr JI rfl rfl (Jc (hS.own (i := 2) rfl)) rfl <| SL.call hS (Ji6 (YY w45) (⟨_, _, (hS.rd (i := 6) rfl), ⟨⟨_, _, _, rfl, (Qi (hS.rd (i := 8) rfl))⟩, ⟨_, _, _, rfl, (Qi (hS.rd (i := 7) rfl))⟩, trivial⟩⟩ : Rl _ _ _ _ ([([(1 : Int), (0 : Int), (1 : Int)] : List Int), ([(0 : Int), (1 : Int), (1 : Int)] : List Int)] : List (List Int))) (⟨_, _, (hS.rd (i := 3) rfl), ⟨⟨_, _, _, rfl, (Qi (hS.rd (i := 4) rfl))⟩, trivial⟩⟩ : Rl _ _ _ _ ([([(1 : Int), (0 : Int), (0 : Int)] : List Int)] : List (List Int))) hv) XF16 rfl XN16 rfl rfl ?_; rintro _ _ w46 ⟨c47, x48, r49, A50, k51, hs52, rfl, rfl, hv⟩ hGw46 hS; have hS := hS.n1; refine Jb 3 <| SL.alloc (cs := [nI 0, .slice none 0 0]) hS Jr rfl rfl ?_; intro g54 w55 hS; refine Jq (cs := [nI c47, nS A50 x48 k51]) 0 hS rfl Jr rfl rfl rfl rfl rfl ?_; intro w56 hS; refine Jb 2 <| Jd 2 <| Jh (cs := [nI 2, nI 1, .slice none 0 0]) JY J1 rfl rfl (Jc (hS.own (i := 11) rfl)) rfl <| Jh (cs := [nI 3, .slice A20 2 2]) Jr JI rfl rfl (Jc (hS.own (i := 7) rfl)) rfl <| SL.call hS (Jzr (YY w56) (⟨_, _, (hS.rd (i := 8) rfl), ⟨⟨_, _, _, rfl, (Qi (hS.rd (i := 10) rfl))⟩, ⟨_, _, _, rfl, (Qi (hS.rd (i := 9) rfl))⟩, trivial⟩⟩ : Rl _ _ _ _ ([([(1 : Int), (0 : Int), (1 : Int)] : List Int), ([(0 : Int), (1 : Int), (1 : Int)] : List Int)] : List (List Int))) hv) XF18 rfl XN18 rfl rfl ?_; rintro _ _ w57 ⟨c58, x59, r60, A61, k62, hs63, rfl, rfl, hv⟩ hGw57 hS; have hS := hS.n1; refine Jb 3 <| SL.alloc (cs := [nI 0, .slice none 0 0]) hS Jr rfl rfl ?_; intro g65 w66 hS; refine Jq (cs := [nI c58, nS A61 x59 k62]) 0 hS rfl Jr rfl rfl rfl rfl rfl ?_; intro w67 hS; refine Jb 2 <| Jd 2 <| Jh (cs := [nI 2, nI 1, .slice none 0 0]) JY J1 rfl rfl (Jc (hS.own (i := 13) rfl)) rfl <| Jh (cs := [nI 3, .slice A20 2 2]) Jr JI rfl rfl (Jc (hS.own (i := 9) rfl)) rfl <| Qa (vs := is ([(1 : Int), (1 : Int), (0 : Int)] : List Int)) hS Jt XE3 rfl rfl rfl rfl (Qj _) rfl ?_; intro A68 w69 hS; refine SL.call hS (Jgg (YY w69) (⟨_, _, (hS.rd (i := 11) rfl), ⟨⟨_, _, _, rfl, (Qi (hS.rd (i := 13) rfl))⟩, ⟨_, _, _, rfl, (Qi (hS.rd (i := 12) rfl))⟩, trivial⟩⟩ : Rl _ _ _ _ ([([(1 : Int), (0 : Int), (1 : Int)] : List Int), ([(0 : Int), (1 : Int), (1 : Int)] : List Int)] : List (List Int))) (hS.rd (i := 0) rfl) hv) XF31 rfl XN31 rfl rfl ?_; rintro _ _ w71 ⟨x72, r73, A74, k75, rfl, rfl, hv⟩ hGw71 hS; have hS := hS.n1; refine Jb 6 <| Jd 2 <| Jh (cs := [nI 2, nI 1, .slice none 0 0]) JY J1 rfl rfl (Jc (hS.own (i := 15) rfl)) rfl <| Jh (cs := [nI 3, .slice A20 2 2]) Jr JI rfl rfl (Jc (hS.own (i := 11) rfl)) rfl <| Qa (vs := is ([(1 : Int), (0 : Int), (0 : Int)] : List Int)) hS Jt XE3 rfl rfl rfl rfl (Qj _) rfl ?_; intro A77 w78 hS; refine SL.call hS (Jsg (YY w78) (⟨_, _, (hS.rd (i := 13) rfl), ⟨⟨_, _, _, rfl, (Qi (hS.rd (i := 15) rfl))⟩, ⟨_, _, _, rfl, (Qi (hS.rd (i := 14) rfl))⟩, trivial⟩⟩ : Rl _ _ _ _ ([([(1 : Int), (0 : Int), (1 : Int)] : List Int), ([(0 : Int), (1 : Int), (1 : Int)] : List Int)] : List (List Int))) (hS.rd (i := 0) rfl) hv) XF28 rfl XN28 rfl rfl ?_; rintro _ _ w80 ⟨x81, r82, A83, k84, rfl, rfl, hv⟩ hGw80 hS; have hS := hS.n1; refine Jb 6 <| Jd 2 <| Jh (cs := [nI 2, nI 1, .slice none 0 0]) JY J1 rfl rfl (Jc (hS.own (i := 17) rfl)) rfl <| Jh (cs := [nI 3, .slice A29 1 1]) Jr JI rfl rfl (Jc (hS.own (i := 10) rfl)) rfl <| Jh (cs := [nI c36, nS A39 x37 k40]) Jr JI rfl rfl (Jc (hS.own (i := 8) rfl)) rfl <| SL.call hS (Jk6 (YY w80) (⟨_, _, (hS.rd (i := 11) rfl), ⟨⟨_, _, _, rfl, (Qi (hS.rd (i := 12) rfl))⟩, trivial⟩⟩ : Rl _ _ _ _ ([([(1 : Int), (0 : Int), (0 : Int)] : List Int)] : List (List Int))) (hS.rl (i := 9) rfl) hv) XF24 rfl XN24 rfl rfl ?_; rintro _ _ w86 ⟨c87, x88, r89, A90, k91, hs92, rfl, rfl, hv⟩ hGw86 hS; have hS := hS.n1; refine Jb 3 <| SL.alloc (cs := [nI 0, .slice none 0 0]) hS Jr rfl rfl ?_; intro g94 w95 hS; refine Jq (cs := [nI c87, nS A90 x88 k91]) 0 hS rfl Jr rfl rfl rfl rfl rfl ?_; intro w96 hS; refine Jb 2 <| Jd 2 <| Jh (cs := [nI 2, nI 1, .slice none 0 0]) JY J1 rfl rfl (Jc (hS.own (i := 19) rfl)) rfl <| Jh (cs := [nI 3, .slice A20 2 2]) Jr JI rfl rfl (Jc (hS.own (i := 15) rfl)) rfl <| Qa (vs := is ([(1 : Int), (2 : Int)] : List Int)) hS Jt XE3 rfl rfl rfl rfl (Qj _) rfl ?_; intro A97 w98 hS; refine SL.call hS (Ji4 (YY w98) (⟨_, _, (hS.rd (i := 17) rfl), ⟨⟨_, _, _, rfl, (Qi (hS.rd (i := 19) rfl))⟩, ⟨_, _, _, rfl, (Qi (hS.rd (i := 18) rfl))⟩, trivial⟩⟩ : Rl _ _ _ _ ([([(1 : Int), (0 : Int), (1 : Int)] : List Int), ([(0 : Int), (1 : Int), (1 : Int)] : List Int)] : List (List Int))) (hS.rd (i := 0) rfl) hv) XF33 rfl XN33 rfl rfl ?_; rintro _ _ w100 ⟨c101, x102, r103, A104, k105, hs106, rfl, rfl, hv⟩ hGw100 hS; have hS := hS.n1; refine Jb 3 <| SL.alloc (cs := [nI 0, .slice none 0 0]) hS Jr rfl rfl ?_; intro g108 w109 hS; refine Jq (cs := [nI c101, nS A104 x102 k105]) 0 hS rfl Jr rfl rfl rfl rfl rfl ?_; intro w110 hS; refine Jb 2 <| Jd 2 <| Jh (cs := [nI 2, nI 1, .slice none 0 0]) JY J1 rfl rfl (Jc (hS.own (i := 22) rfl)) rfl <| Jh (cs := [nI 3, .slice A20 2 2]) Jr JI rfl rfl (Jc (hS.own (i := 18) rfl)) rfl <| Qa (vs := is ([(1 : Int), (0 : Int), (0 : Int)] : List Int)) hS Jt XE3 rfl rfl rfl rfl (Qj _) rfl ?_; intro A111 w112 hS; refine SL.call hS (Jws (YY w112) (⟨_, _, (hS.rd (i := 20) rfl), ⟨⟨_, _, _, rfl, (Qi (hS.rd (i := 22) rfl))⟩, ⟨_, _, _, rfl, (Qi (hS.rd (i := 21) rfl))⟩, trivial⟩⟩ : Rl _ _ _ _ ([([(1 : Int), (0 : Int), (1 : Int)] : List Int), ([(0 : Int), (1 : Int), (1 : Int)] : List Int)] : List (List Int))) (hS.rd (i := 0) rfl) hv) XF26 rfl XN26 rfl rfl ?_; rintro _ _ w114 ⟨r115, r116, rfl, rfl, hv⟩ hGw114 hS; have hS := hS.n0; refine Jb 6 <| Jd 2 <| Jh (cs := [nI 2, nI 1, .slice none 0 0]) JY J1 rfl rfl (Jc (hS.own (i := 23) rfl)) rfl <| Jh (cs := [nI 3, .slice A29 1 1]) Jr JI rfl rfl (Jc (hS.own (i := 16) rfl)) rfl <| Jh (cs := [nI c36, nS A39 x37 k40]) Jr JI rfl rfl (Jc (hS.own (i := 14) rfl)) rfl <| SL.call hS (Jed (YY w114) (⟨_, _, (hS.rd (i := 17) rfl), ⟨⟨_, _, _, rfl, (Qi (hS.rd (i := 18) rfl))⟩, trivial⟩⟩ : Rl _ _ _ _ ([([(1 : Int), (0 : Int), (0 : Int)] : List Int)] : List (List Int))) (hS.rl (i := 15) rfl) hv) XF22 rfl XN22 rfl rfl ?_; rintro _ _ w117 ⟨r118, r119, rfl, rfl, hv⟩ hGw117 hS; have hS := hS.n0; refine Jb 6 <| JA ?_; obtain ⟨J121, hv, hk284⟩ := hv; refine Q5 (σ := Bool) (fun b120 w1 => J121 b120 /\ St TT w none w1 [.row 3 1 A111 3 3 (is ([(1 : Int), (0 : Int), (0 : Int)] : List Int)), .row 27 2 (nA g108) 1 1 [nI c101, nS A104 x102 k105], mx 22 3 A104 x102.length k105 hs106 x102, .row 3 1 A97 2 2 (is ([(1 : Int), (2 : Int)] : List Int)), .row 27 2 (nA g94) 1 1 [nI c87, nS A90 x88 k91], mx 22 3 A90 x88.length k91 hs92 x88, nR 3 A83 x81 k84, .row 3 1 A77 3 3 (is ([(1 : Int), (0 : Int), (0 : Int)] : List Int)), nR 3 A74 x72 k75, .row 3 1 A68 3 3 (is ([(1 : Int), (1 : Int), (0 : Int)] : List Int)), .row 27 2 (nA g65) 1 1 [nI c58, nS A61 x59 k62], mx 22 3 A61 x59.length k62 hs63 x59, .row 27 2 (nA g54) 1 1 [nI c47, nS A50 x48 k51], mx 22 3 A50 x48.length k51 hs52 x48, .row 27 2 (nA g43) 1 1 [nI c36, nS A39 x37 k40], mx 22 3 A39 x37.length k40 hs41 x37, .row 27 2 (nA g32) 1 1 [nI 3, .slice A29 1 1], .row 22 1 A29 1 1 [.slice A26 3 3], .row 3 1 A26 3 3 (is ([(1 : Int), (0 : Int), (0 : Int)] : List Int)), .row 27 2 (nA g23) 1 1 [nI 3, .slice A20 2 2], .row 22 1 A20 2 2 [.slice A14 3 3, .slice A17 3 3], .row 3 1 A17 3 3 (is ([(0 : Int), (1 : Int), (1 : Int)] : List Int)), .row 3 1 A14 3 3 (is ([(1 : Int), (0 : Int), (1 : Int)] : List Int)), .row 24 3 (nA g11) 1 1 [nI 2, nI 1, .slice none 0 0]]) (fun b120 => [(0, .bool false), (1, nP g11), (4, nP g43), (6, nP g54), (8, nP g65), (10, nS A74 x72 k75), (12, nS A83 x81 k84), (14, nP g94), (16, nP g108), (18, .bool r115), (20, .bool r118), (22, .bool b120)]) ?_ ?_
 .refine Jy ?_; refine Jb 2 <| Jm rfl rfl ?_; by_cases g122 : r38 = (0 : Int)
  .have hv := hv.1 g122; rw [decide_eq_true g122]; refine Jb 5 <| Jm rfl rfl ?_; by_cases g123 : r49 = (0 : Int)
   .have hv := hv.1 g123; rw [decide_eq_true g123]; refine Jb 5 <| Jm rfl rfl ?_; by_cases g124 : r60 = (0 : Int)
    .have hv := hv.1 g124; rw [decide_eq_true g124]; refine Jb 5 <| Jm rfl rfl ?_; by_cases g125 : r73 = (0 : Int)
     .have hv := hv.1 g125; rw [decide_eq_true g125]; refine Jb 5 <| Jm rfl rfl ?_; by_cases g126 : r82 = (0 : Int)
      .have hv := hv.1 g126; rw [decide_eq_true g126]; refine Jb 5 <| Jm rfl rfl ?_; by_cases g127 : r89 = (0 : Int)
       .have hv := hv.1 g127; rw [decide_eq_true g127]; refine Jb 5 <| Jm rfl rfl ?_; by_cases g128 : r103 = (0 : Int)
        .have hv := hv.1 g128; rw [decide_eq_true g128]; refine Jb 5 <| Jm rfl rfl ?_; by_cases g129 : r116 = (0 : Int)
         .have hv := hv.1 g129; rw [decide_eq_true g129]; refine Jb 7 ?_; exact ⟨(decide (r119 = (0 : Int))), ⟨rfl, rfl, rfl, rfl, rfl, rfl, rfl, rfl, rfl, rfl, rfl, rfl, trivial⟩, rfl, hv, hS⟩
         have hv := hv.2 g129; rw [decide_eq_false g129]; refine Jb 5 ?_; exact ⟨false, ⟨rfl, rfl, rfl, rfl, rfl, rfl, rfl, rfl, rfl, rfl, rfl, rfl, trivial⟩, rfl, hv, hS⟩
        have hv := hv.2 g128; rw [decide_eq_false g128]; refine Jb 9 ?_; exact ⟨false, ⟨rfl, rfl, rfl, rfl, rfl, rfl, rfl, rfl, rfl, rfl, rfl, rfl, trivial⟩, rfl, hv, hS⟩
       have hv := hv.2 g127; rw [decide_eq_false g127]; refine Jb 13 ?_; exact ⟨false, ⟨rfl, rfl, rfl, rfl, rfl, rfl, rfl, rfl, rfl, rfl, rfl, rfl, trivial⟩, rfl, hv, hS⟩
      have hv := hv.2 g126; rw [decide_eq_false g126]; refine Jb 17 ?_; exact ⟨false, ⟨rfl, rfl, rfl, rfl, rfl, rfl, rfl, rfl, rfl, rfl, rfl, rfl, trivial⟩, rfl, hv, hS⟩
     have hv := hv.2 g125; rw [decide_eq_false g125]; refine Jb 21 ?_; exact ⟨false, ⟨rfl, rfl, rfl, rfl, rfl, rfl, rfl, rfl, rfl, rfl, rfl, rfl, trivial⟩, rfl, hv, hS⟩
    have hv := hv.2 g124; rw [decide_eq_false g124]; refine Jb 25 ?_; exact ⟨false, ⟨rfl, rfl, rfl, rfl, rfl, rfl, rfl, rfl, rfl, rfl, rfl, rfl, trivial⟩, rfl, hv, hS⟩
   have hv := hv.2 g123; rw [decide_eq_false g123]; refine Jb 29 ?_; exact ⟨false, ⟨rfl, rfl, rfl, rfl, rfl, rfl, rfl, rfl, rfl, rfl, rfl, rfl, trivial⟩, rfl, hv, hS⟩
  have hv := hv.2 g122; rw [decide_eq_false g122]; refine Jb 33 ?_; exact ⟨false, ⟨rfl, rfl, rfl, rfl, rfl, rfl, rfl, rfl, rfl, rfl, rfl, rfl, trivial⟩, rfl, hv, hS⟩
 rintro b120 w130 ⟨hv, hS⟩; have hv := hk284 b120 hv; refine JA ?_; obtain ⟨o132, hv⟩ := hv; obtain ⟨x137, o144, hv⟩ := hv; obtain ⟨o148, hv⟩ := hv; obtain ⟨o154, hv⟩ := hv; obtain ⟨o161, hv⟩ := hv; obtain ⟨o183, hv⟩ := hv; obtain ⟨o197, hv⟩ := hv; obtain ⟨o211, hv⟩ := hv; obtain ⟨o240, hv⟩ := hv; obtain ⟨o262, hv⟩ := hv; obtain ⟨o266, hv⟩ := hv; obtain ⟨o271, hv⟩ := hv; obtain ⟨r277, o279, hv⟩ := hv; have hS0 := hS; refine QA 64 (fun iA => [false, false, false, false, true, false, false, false, false, false, false, false, false, false, false, false, false, false, false, false, false, true, true, false, false, false, false, true, false, false, false, false, true, false, false, false, false, false, true, true, true, false, false, false, false, false, true, true, false, false, false, false, false, false, false, false, false, false, false, false, false, false, false, false].getD iA false) (fun _ => none) (fun _ v u => u = v) [⟨[], [22], true⟩, ⟨[0], [], true⟩, ⟨[1], [4], true⟩, ⟨[1, 2], [], false⟩, ⟨[1], [], false⟩, ⟨[1, 3, 4], [], false⟩, ⟨[1, 5], [], true⟩, ⟨[6], [], true⟩, ⟨[7], [6], true⟩, ⟨[7, 8], [], false⟩, ⟨[7, 9], [], true⟩, ⟨[7, 10], [], true⟩, ⟨[11], [], true⟩, ⟨[12], [6], true⟩, ⟨[12, 13], [], false⟩, ⟨[12, 14], [], true⟩, ⟨[12, 15], [], true⟩, ⟨[12, 16], [], true⟩, ⟨[17], [], true⟩, ⟨[18], [8], true⟩, ⟨[18, 19], [], false⟩, ⟨[18], [], false⟩, ⟨[18, 21], [], false⟩, ⟨[18, 20, 22], [], false⟩, ⟨[18, 23], [], true⟩, ⟨[24], [], true⟩, ⟨[25], [10], true⟩, ⟨[25], [], false⟩, ⟨[25, 26, 27], [], false⟩, ⟨[25, 28], [], true⟩, ⟨[29], [], true⟩, ⟨[30], [12], true⟩, ⟨[30], [], false⟩, ⟨[30, 31, 32], [], false⟩, ⟨[30, 33], [], true⟩, ⟨[34], [], true⟩, ⟨[35], [14], true⟩, ⟨[35, 36], [], false⟩, ⟨[35], [], false⟩, ⟨[35], [], false⟩, ⟨[35, 38, 39], [], false⟩, ⟨[35, 37, 40], [], false⟩, ⟨[35, 41], [], true⟩, ⟨[42], [], true⟩, ⟨[43], [16], true⟩, ⟨[43, 44], [], false⟩, ⟨[43], [], false⟩, ⟨[43, 46], [], false⟩, ⟨[43, 45, 47], [], false⟩, ⟨[43, 48], [], true⟩, ⟨[49], [], true⟩, ⟨[50], [18], true⟩, ⟨[50, 51], [], true⟩, ⟨[50, 52], [], true⟩, ⟨[53], [], true⟩, ⟨[54], [20], true⟩, ⟨[54, 55], [], true⟩, ⟨[56], [], true⟩, ⟨[57], [1], false⟩, ⟨[57], [4], false⟩, ⟨[57, 58, 59], [], false⟩, ⟨[57, 60], [], true⟩, ⟨[57, 61], [], true⟩, ⟨[62], [], true⟩] [.k 127 (.bool true), .k 128 (.bool true), .k 129 (.pointer (some ((⟨g43, 0, none⟩ : Addr).add 1))), .k 130 (nS A39 x37 k40), eX w130 131 22 3 x137.length (fun A138_4 k139_4 hs140_4 => nS A138_4 x137 k139_4) x137, .k 132 (.bool true), .k 133 (.bool true), .k 134 (.bool true), .k 135 (nP g54), .k 136 (nI c47), .k 137 (.bool true), .k 138 (.bool true), .k 139 (.bool true), .k 140 (.pointer (some ((⟨g54, 0, none⟩ : Addr).add 1))), .k 141 (nS A50 x48 k51), .k 142 (nI (x48.length : Int)), .k 143 (.bool true), .k 144 (.bool true), .k 145 (.bool true), .k 146 (.pointer (some ((⟨g65, 0, none⟩ : Addr).add 1))), .k 147 (nS A61 x59 k62), eS w130 148 3 3 (is ([(1 : Int), (1 : Int), (1 : Int)] : List Int)), .m 149 (fun v wQ => ∃ A174_22 k177_22 A167_21_22 k170_21_22, v = .slice A174_22 1 k177_22 /\ Own 0 wQ 22 1 A174_22 1 k177_22 [.slice A167_21_22 3 k170_21_22] /\ (∀ g, bl A174_22 = some g -> w130.heap.size <= g) /\ Own 0 wQ 3 1 A167_21_22 3 k170_21_22 (is ([(1 : Int), (1 : Int), (1 : Int)] : List Int)) /\ (∀ g, bl A167_21_22 = some g -> w130.heap.size <= g)) fun _ _ _ ⟨A174_22, k177_22, A167_21_22, k170_21_22, hQe, hO178_22, hN179_22, hO171_21_22, hN172_21_22⟩ hQ2 => ⟨A174_22, k177_22, A167_21_22, k170_21_22, hQe, hO178_22.ext hQ2, hN179_22, hO171_21_22.ext hQ2, hN172_21_22⟩, .k 150 (.bool true), .k 151 (.bool true), .k 152 (.bool true), .k 153 (nS A74 x72 k75), eS w130 154 3 2 (is ([(1 : Int), (1 : Int)] : List Int)), .k 155 (.bool true), .k 156 (.bool true), .k 157 (.bool true), .k 158 (nS A83 x81 k84), eS w130 159 3 3 (is ([(0 : Int), (0 : Int), (1 : Int)] : List Int)), .k 160 (.bool true), .k 161 (.bool true), .k 162 (.bool true), .k 163 (.pointer (some ((⟨g94, 0, none⟩ : Addr).add 1))), .k 164 (nS A90 x88 k91), eS w130 165 3 3 (is ([(0 : Int), (1 : Int), (0 : Int)] : List Int)), eS w130 166 3 3 (is ([(0 : Int), (0 : Int), (1 : Int)] : List Int)), .m 167 (fun v wQ => ∃ A231_40 k234_40 A217_38_40 k220_38_40 A224_39_40 k227_39_40, v = .slice A231_40 2 k234_40 /\ Own 0 wQ 22 1 A231_40 2 k234_40 [.slice A217_38_40 3 k220_38_40, .slice A224_39_40 3 k227_39_40] /\ (∀ g, bl A231_40 = some g -> w130.heap.size <= g) /\ Own 0 wQ 3 1 A217_38_40 3 k220_38_40 (is ([(0 : Int), (1 : Int), (0 : Int)] : List Int)) /\ (∀ g, bl A217_38_40 = some g -> w130.heap.size <= g) /\ Own 0 wQ 3 1 A224_39_40 3 k227_39_40 (is ([(0 : Int), (0 : Int), (1 : Int)] : List Int)) /\ (∀ g, bl A224_39_40 = some g -> w130.heap.size <= g)) fun _ _ _ ⟨A231_40, k234_40, A217_38_40, k220_38_40, A224_39_40, k227_39_40, hQe, hO235_40, hN236_40, hO221_38_40, hN222_38_40, hO228_39_40, hN229_39_40⟩ hQ2 => ⟨A231_40, k234_40, A217_38_40, k220_38_40, A224_39_40, k227_39_40, hQe, hO235_40.ext hQ2, hN236_40, hO221_38_40.ext hQ2, hN222_38_40, hO228_39_40.ext hQ2, hN229_39_40⟩, .k 168 (.bool true), .k 169 (.bool true), .k 170 (.bool true), .k 171 (.pointer (some ((⟨g108, 0, none⟩ : Addr).add 1))), .k 172 (nS A104 x102 k105), eS w130 173 3 3 (is ([(0 : Int), (1 : Int), (1 : Int)] : List Int)), .m 174 (fun v wQ => ∃ A253_47 k256_47 A246_46_47 k249_46_47, v = .slice A253_47 1 k256_47 /\ Own 0 wQ 22 1 A253_47 1 k256_47 [.slice A246_46_47 3 k249_46_47] /\ (∀ g, bl A253_47 = some g -> w130.heap.size <= g) /\ Own 0 wQ 3 1 A246_46_47 3 k249_46_47 (is ([(0 : Int), (1 : Int), (1 : Int)] : List Int)) /\ (∀ g, bl A246_46_47 = some g -> w130.heap.size <= g)) fun _ _ _ ⟨A253_47, k256_47, A246_46_47, k249_46_47, hQe, hO257_47, hN258_47, hO250_46_47, hN251_46_47⟩ hQ2 => ⟨A253_47, k256_47, A246_46_47, k249_46_47, hQe, hO257_47.ext hQ2, hN258_47, hO250_46_47.ext hQ2, hN251_46_47⟩, .k 175 (.bool true), .k 176 (.bool true), .k 177 (.bool true), .k 178 (.bool false), .k 179 (.bool true), .k 180 (.bool true), .k 181 (.bool true), .k 182 (.bool true), .k 183 (.bool true), .k 184 (.bool true), .k 185 (.agg #[nI 2, nI 1, .slice none 0 0]), .k 186 (.agg #[nI c36, nS A39 x37 k40]), .k 187 (nI r277), .k 188 (.bool (decide (r277 = (0 : Int)))), .k 189 (.bool (decide (r277 = (0 : Int)))), .k 0 (.bool (decide (r277 = (0 : Int))))] (fun iD => [vbD, vbD, vbD, vbD, rch, vbD, vbD, vbD, vbD, vbD, vbD, vbD, vbD, vbD, vbD, vbD, vbD, vbD, vbD, vbD, vbD, vbD, vbD, vbD, vbD, vbD, vbD, vbD, vbD, vbD, vbD, vbD, vbD, vbD, vbD, vbD, vbD, vbD, vbD, vbD, vbD, vbD, vbD, vbD, vbD, vbD, vbD, vbD, vbD, vbD, vbD, vbD, vbD, vbD, vbD, vbD, vbD, vbD, vbD, vbD, vbD, vbD, vbD, vbD].getD iD vbD) Jz (by kernel_rfl) rfl rfl ?_ ?_ ?_
 . intro jD vD w1D w2D hvD hgD gD hD_; rcases jD with _ | _ | _ | _ | _ | _ | _ | _ | _ | _ | _ | _ | _ | _ | _ | _ | _ | _ | _ | _ | _ | _ | _ | _ | _ | _ | _ | _ | _ | _ | _ | _ | _ | _ | _ | _ | _ | _ | _ | _ | _ | _ | _ | _ | _ | _ | _ | _ | _ | _ | _ | _ | _ | _ | _ | _ | _ | _ | _ | _ | _ | _ | _ | _ | jD
   any_goals exact hD_
   obtain ⟨A138_4, k139_4, hs140_4, rfl, hR143_4⟩ := hvD; exact Yd hR143_4 hgD hD_
 . refine ⟨?_, oB (fun _ => rfl) rfl, fun _ _ _ => WL.take rfl <| Je (off := 1) JM rfl rfl <| Ja ⟨rfl, rfl⟩, fun _ hE _ => have hS := hS.grow (hE rfl); WL.take rfl <| Jn 14 1 Jw hS rfl rfl rfl ⟨rfl, rfl⟩ <| Ja ⟨rfl, Jg _⟩, ?_, ?_, oB (fun _ => rfl) rfl, oB (fun _ => rfl) rfl, fun _ _ _ => WL.take rfl <| Je (off := 0) J7 rfl rfl <| Ja ⟨rfl, rfl⟩, fun _ hE _ => have hS := hS.grow (hE rfl); WL.take rfl <| Jn 12 0 XU3 hS rfl rfl rfl ⟨rfl, rfl⟩ <| Ja ⟨rfl, Jg _⟩, ?_, oB (fun _ => rfl) rfl, oB (fun _ => rfl) rfl, fun _ _ _ => WL.take rfl <| Je (off := 1) JM rfl rfl <| Ja ⟨rfl, rfl⟩, fun _ hE _ => have hS := hS.grow (hE rfl); WL.take rfl <| Jn 12 1 Jw hS rfl rfl rfl ⟨rfl, rfl⟩ <| Ja ⟨rfl, Jg _⟩, fun _ _ _ => WL.take rfl <| WL.len Jw rfl rfl <| Ja ⟨rfl, rfl⟩, ?_, oB (fun _ => rfl) rfl, oB (fun _ => rfl) rfl, fun _ _ _ => WL.take rfl <| Je (off := 1) JM rfl rfl <| Ja ⟨rfl, rfl⟩, fun _ hE _ => have hS := hS.grow (hE rfl); WL.take rfl <| Jn 10 1 Jw hS rfl rfl rfl ⟨rfl, rfl⟩ <| Ja ⟨rfl, Jg _⟩, ?_, ?_, ?_, oB (fun _ => rfl) rfl, oB (fun _ => rfl) rfl, oB (fun _ => rfl) rfl, ?_, ?_, oB (fun _ => rfl) rfl, oB (fun _ => rfl) rfl, oB (fun _ => rfl) rfl, ?_, ?_, oB (fun _ => rfl) rfl, oB (fun _ => rfl) rfl, fun _ _ _ => WL.take rfl <| Je (off := 1) JM rfl rfl <| Ja ⟨rfl, rfl⟩, fun _ hE _ => have hS := hS.grow (hE rfl); WL.take rfl <| Jn 4 1 Jw hS rfl rfl rfl ⟨rfl, rfl⟩ <| Ja ⟨rfl, Jg _⟩, ?_, ?_, ?_, ?_, oB (fun _ => rfl) rfl, oB (fun _ => rfl) rfl, fun _ _ _ => WL.take rfl <| Je (off := 1) JM rfl rfl <| Ja ⟨rfl, rfl⟩, fun _ hE _ => have hS := hS.grow (hE rfl); WL.take rfl <| Jn 1 1 Jw hS rfl rfl rfl ⟨rfl, rfl⟩ <| Ja ⟨rfl, Jg _⟩, ?_, ?_, ?_, oB (fun _ => rfl) rfl, oB (fun _ => rfl) rfl, ?_, oB (fun _ => rfl) rfl, oB (fun _ => rfl) rfl, oB (fun _ => rfl) rfl, ?_, oB (fun _ => rfl) rfl, oB (fun _ => rfl) rfl, fun _ hE _ => have hS := hS.grow (hE rfl); WL.take rfl <| Jh (cs := [nI 2, nI 1, .slice none 0 0]) JY J1 rfl rfl (Jc (hS.own (i := 23) rfl)) rfl <| Ja ⟨rfl, Jg _⟩, fun _ hE _ => have hS := hS.grow (hE rfl); WL.take rfl <| Jh (cs := [nI c36, nS A39 x37 k40]) Jr JI rfl rfl (Jc (hS.own (i := 14) rfl)) rfl <| Ja ⟨rfl, Jg _⟩, ?_, oB (fun _ => rfl) rfl, oB (fun _ => rfl) rfl, oB (fun _ => rfl) rfl, trivial⟩
   . intro w131 hE; intro RR; refine Jm rfl rfl ?_; rw [o132]; exact Ja ⟨rfl, rfl⟩
   . intro w136 hE; have hE := hE rfl; have hS := hS.grow hE; intro RR; refine WL.take rfl <| WL.call XF43 rfl XN43 rfl rfl (JP (Jwn  o144)) ?_; rintro _ w142 ⟨_, hGw142, hRww142, hNww142, x137q, A138, k139, hs140, rfl, rfl, he⟩; subst he; have hR143 := hRww142.mxbase hE.size; exact Ja ⟨_, rfl, hGw142, ⟨A138, k139, hs140, rfl, hR143⟩, (fun _ => fun g hg => YQ hRww142 hg), (fun j h => by cases h)⟩
   . intro w145 hE; have hS := hS.grow (hE rfl); rintro _ ⟨A138_4, k139_4, hs140_4, rfl, hR143_4⟩; intro RR; refine WL.take rfl <| WL.call Jtf rfl XN42 rfl rfl (JP (Yz (hS.rl (i := 15) rfl) (Jwz hR143_4) o148)) ?_; rintro _ w147 ⟨_, hGw147, hRww147, hNww147, r146, rfl, rfl, he⟩; subst he; exact Ja ⟨rfl, hGw147⟩
   . intro w153 hE; intro RR; refine WL.take rfl <| Jb2 rfl rfl rfl ?_; rw [decide_eq_true o154]; exact Ja ⟨rfl, rfl⟩
   . intro w160 hE; intro RR; refine WL.take rfl <| Jb2 rfl rfl rfl ?_; rw [decide_eq_true o161]; exact Ja ⟨rfl, rfl⟩
   . intro w166 hE; have hE := hE rfl; have hS := hS.grow hE; intro RR; refine WL.take rfl <| YX (vs := is ([(1 : Int), (1 : Int), (1 : Int)] : List Int)) Jt XE3 rfl rfl rfl rfl (Qj _) rfl ?_; intro A167 k170 w168 hO171 hN172g hGw168; have hN172 : ∀ g, bl A167 = some g -> _ <= g := fun g hg => Nat.le_trans hE.size (hN172g g hg); exact Ja ⟨_, rfl, hGw168, ⟨A167, k170, rfl, hO171, hN172⟩, (fun _ => fun g hg => ⟨hN172g g hg, (hO171.bl_ge g hg).2⟩), (fun j h => by cases h)⟩
   . intro w173 hE; have hE := hE rfl; have hS := hS.grow hE; rintro _ ⟨A167_21, k170_21, rfl, hO171_21, hN172_21⟩; intro RR; refine WL.take rfl <| YX (vs := [.slice A167_21 3 k170_21]) Jw JD rfl rfl rfl rfl (by simp [Value.oneCell']) rfl ?_; intro A174 k177 w175 hO178 hN179g hGw175; have hN179 : ∀ g, bl A174 = some g -> _ <= g := fun g hg => Nat.le_trans hE.size (hN179g g hg); exact Ja ⟨_, rfl, hGw175, ⟨A174, k177, A167_21, k170_21, rfl, hO178, hN179, (hO171_21.ext hGw175), hN172_21⟩, (fun _ => fun g hg => ⟨hN179g g hg, (hO178.bl_ge g hg).2⟩), (fun j h => by cases h)⟩
   . intro w180 hE; have hS := hS.grow (hE rfl); rintro _ ⟨A174_22, k177_22, A167_21_22, k170_21_22, rfl, hO178_22, hN179_22, hO171_21_22, hN172_21_22⟩; intro RR; refine WL.take rfl <| WL.call Jtf rfl XN42 rfl rfl (JP (Yz (hS.rl (i := 11) rfl) (⟨_, _, hO178_22.rd, ⟨⟨_, _, _, rfl, (Qi hO171_21_22.rd)⟩, trivial⟩⟩ : Rl _ _ _ _ ([([(1 : Int), (1 : Int), (1 : Int)] : List Int)] : List (List Int))) o183)) ?_; rintro _ w182 ⟨_, hGw182, hRww182, hNww182, r181, rfl, rfl, he⟩; subst he; exact Ja ⟨rfl, hGw182⟩
   . intro w187 hE; have hE := hE rfl; have hS := hS.grow hE; intro RR; refine WL.take rfl <| YX (vs := is ([(1 : Int), (1 : Int)] : List Int)) Jt XE3 rfl rfl rfl rfl (Qj _) rfl ?_; intro A188 k191 w189 hO192 hN193g hGw189; have hN193 : ∀ g, bl A188 = some g -> _ <= g := fun g hg => Nat.le_trans hE.size (hN193g g hg); exact Ja ⟨_, rfl, hGw189, ⟨A188, k191, rfl, hO192, hN193⟩, (fun _ => fun g hg => ⟨hN193g g hg, (hO192.bl_ge g hg).2⟩), (fun j h => by cases h)⟩
   . intro w194 hE; have hS := hS.grow (hE rfl); rintro _ ⟨A188_27, k191_27, rfl, hO192_27, hN193_27⟩; intro RR; refine WL.take rfl <| WL.call XF30 rfl XN30 rfl rfl (JP (Jah (hS.rd (i := 8) rfl) hO192_27.rd o197)) ?_; rintro _ w196 ⟨_, hGw196, hRww196, hNww196, r195, rfl, rfl, he⟩; subst he; exact Ja ⟨rfl, hGw196⟩
   . intro w201 hE; have hE := hE rfl; have hS := hS.grow hE; intro RR; refine WL.take rfl <| YX (vs := is ([(0 : Int), (0 : Int), (1 : Int)] : List Int)) Jt XE3 rfl rfl rfl rfl (Qj _) rfl ?_; intro A202 k205 w203 hO206 hN207g hGw203; have hN207 : ∀ g, bl A202 = some g -> _ <= g := fun g hg => Nat.le_trans hE.size (hN207g g hg); exact Ja ⟨_, rfl, hGw203, ⟨A202, k205, rfl, hO206, hN207⟩, (fun _ => fun g hg => ⟨hN207g g hg, (hO206.bl_ge g hg).2⟩), (fun j h => by cases h)⟩
   . intro w208 hE; have hS := hS.grow (hE rfl); rintro _ ⟨A202_32, k205_32, rfl, hO206_32, hN207_32⟩; intro RR; refine WL.take rfl <| WL.call XF30 rfl XN30 rfl rfl (JP (Jah (hS.rd (i := 6) rfl) hO206_32.rd o211)) ?_; rintro _ w210 ⟨_, hGw210, hRww210, hNww210, r209, rfl, rfl, he⟩; subst he; exact Ja ⟨rfl, hGw210⟩
   . intro w216 hE; have hE := hE rfl; have hS := hS.grow hE; intro RR; refine WL.take rfl <| YX (vs := is ([(0 : Int), (1 : Int), (0 : Int)] : List Int)) Jt XE3 rfl rfl rfl rfl (Qj _) rfl ?_; intro A217 k220 w218 hO221 hN222g hGw218; have hN222 : ∀ g, bl A217 = some g -> _ <= g := fun g hg => Nat.le_trans hE.size (hN222g g hg); exact Ja ⟨_, rfl, hGw218, ⟨A217, k220, rfl, hO221, hN222⟩, (fun _ => fun g hg => ⟨hN222g g hg, (hO221.bl_ge g hg).2⟩), (fun j h => by cases h)⟩
   . intro w223 hE; have hE := hE rfl; have hS := hS.grow hE; intro RR; refine WL.take rfl <| YX (vs := is ([(0 : Int), (0 : Int), (1 : Int)] : List Int)) Jt XE3 rfl rfl rfl rfl (Qj _) rfl ?_; intro A224 k227 w225 hO228 hN229g hGw225; have hN229 : ∀ g, bl A224 = some g -> _ <= g := fun g hg => Nat.le_trans hE.size (hN229g g hg); exact Ja ⟨_, rfl, hGw225, ⟨A224, k227, rfl, hO228, hN229⟩, (fun _ => fun g hg => ⟨hN229g g hg, (hO228.bl_ge g hg).2⟩), (fun j h => by cases h)⟩
   . intro w230 hE; have hE := hE rfl; have hS := hS.grow hE; rintro _ ⟨A217_38, k220_38, rfl, hO221_38, hN222_38⟩; rintro _ ⟨A224_39, k227_39, rfl, hO228_39, hN229_39⟩; intro RR; refine WL.take rfl <| YX (vs := [.slice A217_38 3 k220_38, .slice A224_39 3 k227_39]) Jw JD rfl rfl rfl rfl (by simp [Value.oneCell']) rfl ?_; intro A231 k234 w232 hO235 hN236g hGw232; have hN236 : ∀ g, bl A231 = some g -> _ <= g := fun g hg => Nat.le_trans hE.size (hN236g g hg); exact Ja ⟨_, rfl, hGw232, ⟨A231, k234, A217_38, k220_38, A224_39, k227_39, rfl, hO235, hN236, (hO221_38.ext hGw232), hN222_38, (hO228_39.ext hGw232), hN229_39⟩, (fun _ => fun g hg => ⟨hN236g g hg, (hO235.bl_ge g hg).2⟩), (fun j h => by cases h)⟩
   . intro w237 hE; have hS := hS.grow (hE rfl); rintro _ ⟨A231_40, k234_40, A217_38_40, k220_38_40, A224_39_40, k227_39_40, rfl, hO235_40, hN236_40, hO221_38_40, hN222_38_40, hO228_39_40, hN229_39_40⟩; intro RR; refine WL.take rfl <| WL.call Jtf rfl XN42 rfl rfl (JP (Yz (hS.rl (i := 5) rfl) (⟨_, _, hO235_40.rd, ⟨⟨_, _, _, rfl, (Qi hO221_38_40.rd)⟩, ⟨_, _, _, rfl, (Qi hO228_39_40.rd)⟩, trivial⟩⟩ : Rl _ _ _ _ ([([(0 : Int), (1 : Int), (0 : Int)] : List Int), ([(0 : Int), (0 : Int), (1 : Int)] : List Int)] : List (List Int))) o240)) ?_; rintro _ w239 ⟨_, hGw239, hRww239, hNww239, r238, rfl, rfl, he⟩; subst he; exact Ja ⟨rfl, hGw239⟩
   . intro w245 hE; have hE := hE rfl; have hS := hS.grow hE; intro RR; refine WL.take rfl <| YX (vs := is ([(0 : Int), (1 : Int), (1 : Int)] : List Int)) Jt XE3 rfl rfl rfl rfl (Qj _) rfl ?_; intro A246 k249 w247 hO250 hN251g hGw247; have hN251 : ∀ g, bl A246 = some g -> _ <= g := fun g hg => Nat.le_trans hE.size (hN251g g hg); exact Ja ⟨_, rfl, hGw247, ⟨A246, k249, rfl, hO250, hN251⟩, (fun _ => fun g hg => ⟨hN251g g hg, (hO250.bl_ge g hg).2⟩), (fun j h => by cases h)⟩
   . intro w252 hE; have hE := hE rfl; have hS := hS.grow hE; rintro _ ⟨A246_46, k249_46, rfl, hO250_46, hN251_46⟩; intro RR; refine WL.take rfl <| YX (vs := [.slice A246_46 3 k249_46]) Jw JD rfl rfl rfl rfl (by simp [Value.oneCell']) rfl ?_; intro A253 k256 w254 hO257 hN258g hGw254; have hN258 : ∀ g, bl A253 = some g -> _ <= g := fun g hg => Nat.le_trans hE.size (hN258g g hg); exact Ja ⟨_, rfl, hGw254, ⟨A253, k256, A246_46, k249_46, rfl, hO257, hN258, (hO250_46.ext hGw254), hN251_46⟩, (fun _ => fun g hg => ⟨hN258g g hg, (hO257.bl_ge g hg).2⟩), (fun j h => by cases h)⟩
   . intro w259 hE; have hS := hS.grow (hE rfl); rintro _ ⟨A253_47, k256_47, A246_46_47, k249_46_47, rfl, hO257_47, hN258_47, hO250_46_47, hN251_46_47⟩; intro RR; refine WL.take rfl <| WL.call Jtf rfl XN42 rfl rfl (JP (Yz (hS.rl (i := 2) rfl) (⟨_, _, hO257_47.rd, ⟨⟨_, _, _, rfl, (Qi hO250_46_47.rd)⟩, trivial⟩⟩ : Rl _ _ _ _ ([([(0 : Int), (1 : Int), (1 : Int)] : List Int)] : List (List Int))) o262)) ?_; rintro _ w261 ⟨_, hGw261, hRww261, hNww261, r260, rfl, rfl, he⟩; subst he; exact Ja ⟨rfl, hGw261⟩
   . intro w265 hE; intro RR; refine WL.take rfl <| Jm rfl rfl ?_; rw [o266]; exact Ja ⟨rfl, rfl⟩
   . intro w270 hE; intro RR; refine WL.take rfl <| Jm rfl rfl ?_; rw [o271]; exact Ja ⟨rfl, rfl⟩
   intro w276 hE; have hS := hS.grow (hE rfl); intro RR; refine WL.take rfl <| WL.call Joe rfl Jtc rfl rfl (JP (Zm (YY w276) (hS.rl (i := 15) rfl) o279)) ?_; rintro _ w278 ⟨_, hGw278, hRww278, hNww278, r277q, rfl, rfl, he⟩; subst he; exact Ja ⟨rfl, hGw278⟩
 intro vals w283 hT hVs hAp hCp; have hS := hS.grow hT; obtain ⟨A138_4, k139_4, hs140_4, hv4, hR143_4⟩ := hVs 4 (by decide); obtain ⟨A167_21, k170_21, hv21, hO171_21, hN172_21⟩ := hVs 21 (by decide); obtain ⟨A174_22, k177_22, A167_21_22, k170_21_22, hv22, hO178_22, hN179_22, hO171_21_22, hN172_21_22⟩ := hVs 22 (by decide); obtain ⟨A188_27, k191_27, hv27, hO192_27, hN193_27⟩ := hVs 27 (by decide); obtain ⟨A202_32, k205_32, hv32, hO206_32, hN207_32⟩ := hVs 32 (by decide); obtain ⟨A217_38, k220_38, hv38, hO221_38, hN222_38⟩ := hVs 38 (by decide); obtain ⟨A224_39, k227_39, hv39, hO228_39, hN229_39⟩ := hVs 39 (by decide); obtain ⟨A231_40, k234_40, A217_38_40, k220_38_40, A224_39_40, k227_39_40, hv40, hO235_40, hN236_40, hO221_38_40, hN222_38_40, hO228_39_40, hN229_39_40⟩ := hVs 40 (by decide); obtain ⟨A246_46, k249_46, hv46, hO250_46, hN251_46⟩ := hVs 46 (by decide); obtain ⟨A253_47, k256_47, A246_46_47, k249_46_47, hv47, hO257_47, hN258_47, hO250_46_47, hN251_46_47⟩ := hVs 47 (by decide); refine QU [(4, nS A138_4 x137 k139_4), (21, .slice A167_21 3 k170_21), (22, .slice A174_22 1 k177_22), (27, .slice A188_27 2 k191_27), (32, .slice A202_32 3 k205_32), (38, .slice A217_38 3 k220_38), (39, .slice A224_39 3 k227_39), (40, .slice A231_40 2 k234_40), (46, .slice A246_46 3 k249_46), (47, .slice A253_47 1 k256_47)] ⟨hv4, hv21, hv22, hv27, hv32, hv38, hv39, hv40, hv46, hv47, trivial⟩ <| Jv (by decide +kernel) <| W.ret <| ⟨_, rfl, Fin.nil ?_⟩
 exact (hS.pick [] rfl).fin rfl ⟨(decide (r277 = (0 : Int))), rfl, rfl, hv⟩
def Jrv (Ca : Int) (a : List (List Int)) (Cb : Int) (b : List (List Int)) (Q : Bool -> Prop) : Prop :=
  ((Ca <= (20 : Int)) -> (((Cb <= (20 : Int)) -> (Jg6 Ca a (150 : Int) (fun r18 => ((r18 = true) -> (Jg6 Cb b (150 : Int) (fun r21 => Q r21))) /\ (r18 = false -> Q false)))) /\ (¬ (Cb <= (20 : Int)) -> Q false))) /\ (¬ (Ca <= (20 : Int)) -> Q false)
theorem ok_few {w : World} {Q : Bool -> Prop} {Ca : Int} {a : List (List Int)} {Cb : Int} {b : List (List Int)} {Aa : Option Addr} {na ka : Nat} (ha : Rl w Aa na ka a) {Ab : Option Addr} {nb kb : Nat} (hb : Rl w Ab nb kb b) (hv : Jrv Ca a Cb b Q) :
   Calls Tryz.prog 12 #[.agg #[.int .i64 Ca, .slice Aa na ka], .agg #[.int .i64 Cb, .slice Ab nb kb]] w fun e w' => ∃ v Qr, e = .returned v /\ w.grownBy w' none /\ Rows w.heap.size none w' Qr /\ News w.heap.size Qr /\ ∃ (r0 : Bool), v = .bool r0 /\ Qr = [] /\ Q r0 := by
 have hna := ha.len; subst hna; obtain ⟨hsa, hHa⟩ := ha.heads; have hnb := hb.len; subst hnb; obtain ⟨hsb, hHb⟩ := hb.heads; refine Jk <| Jj (vs := [.agg #[nI Ca, nS Aa a ka], .agg #[nI Cb, nS Ab b kb]]) [4] XF12 rfl rfl rfl rfl ?_; have hS := Js w; unfold Jrv at hv; refine Jd 2 <| JC (z := 2) (cs := [nI Ca, nS Aa a ka]) hS rfl rfl rfl rfl ?_; intro g11 w12 hS; refine JC (z := 2) (cs := [nI Cb, nS Ab b kb]) hS rfl rfl rfl rfl ?_; intro g13 w14 hS; refine Jb 2 <| Jd 2 <| Je (off := 0) J7 rfl rfl <| Jn 1 0 XU3 hS rfl rfl rfl ⟨rfl, rfl⟩ <| Jrp rfl rfl rfl <| Jm rfl rfl ?_; by_cases g15 : Ca <= (20 : Int)
 .have hv := hv.1 g15; rw [decide_eq_true g15]; refine WL.take rfl <| Je (off := 0) J7 rfl rfl <| WL.take rfl <| Jn 0 0 XU3 hS rfl rfl rfl ⟨rfl, rfl⟩ <| Jb 3 <| Jm rfl rfl ?_; by_cases g16 : Cb <= (20 : Int)
  .have hv := hv.1 g16; rw [decide_eq_true g16]; refine WL.take rfl <| Jh (cs := [nI Ca, nS Aa a ka]) Jr JI rfl rfl (Jc (hS.own (i := 1) rfl)) rfl <| WL.take rfl <| SL.call hS (Jqn (RlH.rl (RlH.ext hHa hS.ext)) hv) XF44 rfl XN44 rfl rfl ?_; rintro _ _ w17 ⟨r18, rfl, rfl, hv⟩ hGw17 hS; have hS := hS.n0; refine WL.pick rfl rfl rfl <| Jm rfl rfl ?_; cases g19 : r18
   .have hv := hv.2 g19; refine Jb 5 <| W.ret <| ⟨_, rfl, Fin.nil ?_⟩
    exact (hS.pick [] rfl).fin rfl ⟨false, rfl, rfl, hv⟩
   have hv := hv.1 g19; refine WL.take rfl <| Jh (cs := [nI Cb, nS Ab b kb]) Jr JI rfl rfl (Jc (hS.own (i := 0) rfl)) rfl <| WL.take rfl <| SL.call hS (Jqn (RlH.rl (RlH.ext hHb hS.ext)) hv) XF44 rfl XN44 rfl rfl ?_; rintro _ _ w20 ⟨r21, rfl, rfl, hv⟩ hGw20 hS; have hS := hS.n0; refine Jb 3 <| W.ret <| ⟨_, rfl, Fin.nil ?_⟩
   exact (hS.pick [] rfl).fin rfl ⟨r21, rfl, rfl, hv⟩
  have hv := hv.2 g16; rw [decide_eq_false g16]; refine Jb 9 <| W.ret <| ⟨_, rfl, Fin.nil ?_⟩
  exact (hS.pick [] rfl).fin rfl ⟨false, rfl, rfl, hv⟩
 have hv := hv.2 g15; rw [decide_eq_false g15]; refine Jb 14 <| W.ret <| ⟨_, rfl, Fin.nil ?_⟩
 exact (hS.pick [] rfl).fin rfl ⟨false, rfl, rfl, hv⟩
def YH (Pf : Int) (Mf : Int) (mf : List Int) (Cm : Int) (m : List (List Int)) (Q : Int × List (List Int) × Bool -> Prop) : Prop :=
  Jb3 Pf Mf mf Cm m (fun r18 => ((r18 ≠ (0 : Int)) -> (Q ((0 : Int), ([] : List (List Int)), false))) /\ (¬ (r18 ≠ (0 : Int)) -> (Y6 Pf Mf mf Cm m (fun q => match q with | (c23, x24, x25, r26) => Q (c23, x24, (decide (r26 = (0 : Int))))))))
theorem Jck {w : World} {Q : Int × List (List Int) × Bool -> Prop} {Pf : Int} {Mf : Int} {mf : List Int} {Cm : Int} {m : List (List Int)} {Bf : Nat} {Af : Option Addr} {nf kf : Nat} (hf : Rd Bf w 1 Af nf kf (is mf)) {Am : Option Addr} {nm km : Nat} (hm : Rl w Am nm km m) (hv : YH Pf Mf mf Cm m Q) :
   Calls Tryz.prog 35 #[.agg #[.int .i64 Pf, .int .i64 Mf, .slice Af nf kf], .agg #[.int .i64 Cm, .slice Am nm km]] w fun e w' => ∃ v Qr, e = .returned v /\ w.grownBy w' none /\ Rows w.heap.size none w' Qr /\ News w.heap.size Qr /\ ∃ (c0 : Int) (r0 : List (List Int)) (r1 : Bool) (A0 : Option Addr) (k0 : Nat) (hs0 : Hs), v = .tuple #[.agg #[.int .i64 c0, .slice A0 r0.length k0], .bool r1] /\ Qr = [mx 22 3 A0 r0.length k0 hs0 r0] /\ Q (c0, r0, r1) := by
 have hnf := hf.ilen; subst hnf; have hnm := hm.len; subst hnm; obtain ⟨hsm, hHm⟩ := hm.heads; refine Jk <| Qd (vs := [.agg #[nI Pf, nI Mf, nS Af mf kf], .agg #[nI Cm, nS Am m km]]) [.cell 4 27, .tmp 5] XF35 rfl rfl rfl rfl ?_; have hS := Js w; unfold YH at hv; refine Jd 2 <| JC (z := 3) (cs := [nI Pf, nI Mf, nS Af mf kf]) hS rfl rfl rfl rfl ?_; intro g11 w12 hS; refine JC (z := 2) (cs := [nI Cm, nS Am m km]) hS rfl rfl rfl rfl ?_; intro g13 w14 hS; refine SL.alloc (cs := [nI 0, .slice none 0 0]) hS Jr rfl rfl ?_; intro g15 w16 hS; refine Jb 2 <| Jd 3 <| Jh (cs := [nI Pf, nI Mf, nS Af mf kf]) JY J1 rfl rfl (Jc (hS.own (i := 2) rfl)) rfl <| Jh (cs := [nI Cm, nS Am m km]) Jr JI rfl rfl (Jc (hS.own (i := 1) rfl)) rfl <| SL.call hS (Jm8 (hS.ro hf) (RlH.rl (RlH.ext hHm hS.ext)) hv) XF54 rfl XN54 rfl rfl ?_; rintro _ _ w17 ⟨r18, rfl, rfl, hv⟩ hGw17 hS; have hS := hS.n0; refine Jb 2 <| Ji rfl (fun c19 => ?_) (fun c19 => ?_)
 .have hv := hv.1 (oT c19); refine Jd 2 <| JN (cells := #[nI 0, .slice none 0 0]) Q3 rfl rfl rfl <| Jq (cs := [nI 0, .slice none 0 0]) 0 hS rfl Jr rfl rfl rfl rfl rfl ?_; intro w20 hS; refine Jb 2 <| W.ret ?_; have hS := hS.mxNil 22 3; have hm0 := hS.mxlen (i := 0) rfl; have hS := hS.relenMx (i := 0) rfl hm0.symm
  change St _ _ _ _ [_, _, _, _] at hS
  repeat with_reducible first | refine blk.ret ?_ | refine exits.retI ?_
  refine endC.mk ⟨[.agg #[nI 0, .slice none 0 0], .bool false], ⟨_, _, _, rfl, rfl, JF (cs := [nI 0, .slice none 0 0]) Jr JI rfl (Jc (hS.own (i := 1) rfl)), ⟨_, _, rfl, rfl, rfl⟩⟩, ?_⟩; exact ⟨_, hS.ext, (hS.pick [0] rfl).rows, JR (hS.pick [0] rfl).rows rfl, ⟨(0 : Int), ([] : List (List Int)), false, none, 0, (fun _ => (none, 0)), (by (try unfold nS); first | (rw [show (Value.slice none 0 0) = Value.slice none (([] : List (List Int))).length 0 from sm0 hm0.symm]; done) | (rw [show (Value.slice none 0 0) = Value.slice none (([] : List (List Int))).length 0 from sm0 hm0.symm]; rfl)), rfl, hv⟩⟩
 have hv := hv.2 (oF c19); refine Jl <| Jd 2 <| Jh (cs := [nI Pf, nI Mf, nS Af mf kf]) JY J1 rfl rfl (Jc (hS.own (i := 2) rfl)) rfl <| Jh (cs := [nI Cm, nS Am m km]) Jr JI rfl rfl (Jc (hS.own (i := 1) rfl)) rfl <| SL.call hS (Jdd (hS.ro hf) (RlH.rl (RlH.ext hHm hS.ext)) hv) XF71 rfl XN71 rfl rfl ?_; rintro _ _ w22 ⟨c23, x24, x25, r26, A27, k28, hs29, A31, k32, rfl, rfl, hv⟩ hGw22 hS; have hS := hS.n2; refine Jb 4 <| SL.alloc (cs := [nI 0, .slice none 0 0]) hS Jr rfl rfl ?_; intro g34 w35 hS; refine Jq (cs := [nI c23, nS A27 x24 k28]) 0 hS rfl Jr rfl rfl rfl rfl rfl ?_; intro w36 hS; refine Jb 3 <| Jd 2 <| Jh (cs := [nI c23, nS A27 x24 k28]) Jr JI rfl rfl (Jc (hS.own (i := 0) rfl)) rfl <| Jb 2 <| Jq (cs := [nI c23, nS A27 x24 k28]) 3 hS rfl Jr rfl rfl rfl rfl rfl ?_; intro w37 hS; refine Jb 2 <| W.ret ?_; have hS := hS.pick [1, 0, 2, 3, 4, 5] rfl
 change St _ _ _ _ [_, _, _, _, _, _] at hS
 repeat with_reducible first | refine blk.ret ?_ | refine exits.retI ?_
 refine endC.mk ⟨[.agg #[nI c23, nS A27 x24 k28], .bool (decide (r26 = (0 : Int)))], ⟨_, _, _, rfl, rfl, JF (cs := [nI c23, nS A27 x24 k28]) Jr JI rfl (Jc (hS.own (i := 3) rfl)), ⟨_, _, rfl, rfl, rfl⟩⟩, ?_⟩; exact (hS.pick [0] rfl).fin rfl ⟨c23, x24, (decide (r26 = (0 : Int))), A27, k28, hs29, rfl, rfl, hv⟩
end Go.Proofs.YtngdhnijkgjhcaaGreat
set_option linter.unusedSimpArgs false
set_option linter.unusedVariables false
set_option maxRecDepth 4000
set_option maxHeartbeats 4000000
namespace Go.Proofs.YtngdhnijkgjhcaaGreat
open Go.RowKit
end Go.Proofs.YtngdhnijkgjhcaaGreat
set_option linter.unusedSimpArgs false
set_option linter.unusedVariables false
set_option maxRecDepth 4000
set_option maxHeartbeats 4000000
namespace Go.Proofs.YtngdhnijkgjhcaaGreat
open Go.RowKit
end Go.Proofs.YtngdhnijkgjhcaaGreat
set_option linter.unusedSimpArgs false
set_option linter.unusedVariables false
set_option maxRecDepth 4000
set_option maxHeartbeats 4000000
namespace Go.Proofs.YtngdhnijkgjhcaaGreat
open Go.RowKit
end Go.Proofs.YtngdhnijkgjhcaaGreat
set_option linter.unusedSimpArgs false
set_option linter.unusedVariables false
set_option maxRecDepth 4000
set_option maxHeartbeats 4000000
namespace Go.Proofs.YtngdhnijkgjhcaaGreat
open Go.RowKit
end Go.Proofs.YtngdhnijkgjhcaaGreat
set_option linter.unusedVariables false
namespace Go.Proofs.YtngdhnijkgjhcaaGreat
abbrev Vec := Nat -> Int
def tX (m : Nat) (c : Vec) (v : Vec) : Vec := fun i => if i < m then (if i = 0 then 0 else v (i - 1)) - c i * v (m - 1) else 0
def Qk (u v : Vec) : Vec := fun i => u i + v i
def vsm (a : Int) (v : Vec) : Vec := fun i => a * v i
def vz : Vec := fun _ => 0
def e0 : Vec := fun i => if i = 0 then 1 else 0
def tXn (m : Nat) (c : Vec) : Nat -> Vec -> Vec
  | 0, v => v
  | n + 1, v => tX m c (tXn m c n v)
def opr (m : Nat) (c b : Vec) : Nat -> Vec -> Vec
  | 0, _ => vz
  | n + 1, v => Qk (opr m c b n v) (vsm (b n) (tXn m c n v))
def Y7 (m : Nat) (c a b : Vec) : Vec := opr m c b m a
section
variable (m : Nat) (c : Vec)
theorem tX_add (u v : Vec) : tX m c (Qk u v) = Qk (tX m c u) (tX m c v) := by
 funext i; simp only [tX, Qk]; split
 .split <;> grind
 .rfl
theorem tX_sm (a : Int) (v : Vec) : tX m c (vsm a v) = vsm a (tX m c v) := by
 funext i; simp only [tX, vsm]; split
 .split <;> grind
 .grind
theorem tX_z : tX m c vz = vz := by funext i; simp [tX, vz]
theorem Jfq (u : Vec) : Qk u vz = u := by funext i; simp [Qk, vz]
theorem z_vadd (u : Vec) : Qk vz u = u := by funext i; simp [Qk, vz]
theorem Jhr (u v : Vec) : Qk u v = Qk v u := by funext i; simp only [Qk]; omega
theorem Jfr (u v w : Vec) : Qk (Qk u v) w = Qk u (Qk v w) := by funext i; simp only [Qk]; omega
theorem Jp2 (a : Int) (u v : Vec) : vsm a (Qk u v) = Qk (vsm a u) (vsm a v) := by funext i; simp only [Qk, vsm]; grind
theorem vsm_sm (a b : Int) (u : Vec) : vsm a (vsm b u) = vsm (a * b) u := by funext i; simp only [vsm]; grind
theorem vsm_z (a : Int) : vsm a vz = vz := by funext i; simp [vsm, vz]
theorem Jin (n : Nat) (u v : Vec) : tXn m c n (Qk u v) = Qk (tXn m c n u) (tXn m c n v) := by
 induction n with
 | zero => rfl
 | succ n ih => simp only [tXn, ih, tX_add]
theorem Jmx (n : Nat) (a : Int) (v : Vec) : tXn m c n (vsm a v) = vsm a (tXn m c n v) := by
 induction n with
 | zero => rfl
 | succ n ih => simp only [tXn, ih, tX_sm]
theorem Jvw (n : Nat) : tXn m c n vz = vz := by
 induction n with
 | zero => rfl
 | succ n ih => simp only [tXn, ih, tX_z]
theorem Jvx (n : Nat) (v : Vec) : tXn m c n (tX m c v) = tX m c (tXn m c n v) := by
 induction n with
 | zero => rfl
 | succ n ih => simp only [tXn, ih]
theorem Jy9 (n k : Nat) (v : Vec) : tXn m c n (tXn m c k v) = tXn m c (n + k) v := by
 induction n with
 | zero => simp [tXn]
 | succ n ih => rw [Nat.succ_add]; simp only [tXn, ih]
variable (b : Vec)
theorem Jqm (n : Nat) (u v : Vec) : opr m c b n (Qk u v) = Qk (opr m c b n u) (opr m c b n v) := by
 induction n with
 | zero => simp [opr, Jfq]
 | succ n ih => simp only [opr, ih, Jin, Jp2]; funext i; simp only [Qk]; omega
theorem Jm7 (n : Nat) (a : Int) (v : Vec) : opr m c b n (vsm a v) = vsm a (opr m c b n v) := by
 induction n with
 | zero => simp [opr, vsm_z]
 | succ n ih => simp only [opr, ih, Jmx, Jp2, vsm_sm]; rw [Int.mul_comm (b n) a]
theorem opr_z (n : Nat) : opr m c b n vz = vz := by
 induction n with
 | zero => rfl
 | succ n ih => simp only [opr, ih, Jvw, vsm_z, Jfq]
theorem Jql (n k : Nat) (v : Vec) : opr m c b n (tXn m c k v) = tXn m c k (opr m c b n v) := by
 induction n with
 | zero => simp [opr, Jvw]
 | succ n ih => simp only [opr, ih, Jin, Jmx, Jy9]; rw [Nat.add_comm n k]
theorem Jkt (d : Vec) (n k : Nat) (v : Vec) : opr m c b n (opr m c d k v) = opr m c d k (opr m c b n v) := by
 induction n with
 | zero => simp only [opr, opr_z]
 | succ n ih => simp only [opr, ih, Jqm, Jm7, Jql]
theorem Jwj (d : Vec) (n : Nat) (v : Vec) : opr m c (Qk b d) n v = Qk (opr m c b n v) (opr m c d n v) := by
 induction n with
 | zero => simp [opr, Jfq]
 | succ n ih => simp only [opr, ih]; funext i; simp only [Qk, vsm]; grind
end
def vei (k : Nat) : Vec := fun i => if i = k then 1 else 0
theorem Jvy {m : Nat} {c : Vec} : ∀ {k : Nat}, k < m -> tXn m c k e0 = vei k
 | 0, _ => rfl
 | k + 1, h => by
  have ih : tXn m c k e0 = vei k := Jvy (by omega); simp only [tXn, ih]; funext i; simp only [tX, vei]; split
  .rw [if_neg (show ¬ m - 1 = k by omega)]; by_cases h0 : i = 0
   .subst h0; simp
   .simp only [h0, if_false]; by_cases h1 : i = k + 1
    .subst h1; simp
    .rw [if_neg (by omega), if_neg h1]; simp
  .rw [if_neg (by omega)]
theorem Jwk {m : Nat} {c a : Vec} : ∀ {n : Nat}, n <= m -> ∀ i, opr m c a n e0 i = if i < n then a i else 0
  | 0, _, i => by simp [opr, vz]
  | n + 1, h, i => by
    simp only [opr, Qk, vsm]
    rw [Jwk (n := n) (by omega) i, Jvy (by omega)]
    simp only [vei]
    by_cases h1 : i = n
    . subst h1; simp
    . by_cases h2 : i < n
      . simp [h2, h1, show i < n + 1 by omega]
      . simp [h2, h1, show ¬ i < n + 1 by omega]
def Sup (m : Nat) (v : Vec) : Prop := ∀ i, m <= i -> v i = 0
theorem Jbc {m : Nat} {c a : Vec} (h : Sup m a) : opr m c a m e0 = a := by
 funext i; rw [Jwk (Nat.le_refl m)]; split
 .rfl
 .exact (h i (by omega)).symm
theorem Sup.z {m : Nat} : Sup m vz := fun _ _ => rfl
theorem Sup.tX {m : Nat} {c v : Vec} : Sup m (tX m c v) := fun i h => by simp [Go.Proofs.YtngdhnijkgjhcaaGreat.tX, show ¬ i < m by omega]
theorem Sup.add {m : Nat} {u v : Vec} (hu : Sup m u) (hv : Sup m v) : Sup m (Qk u v) := fun i h => by simp [Qk, hu i h, hv i h]
theorem Sup.sm {m : Nat} {a : Int} {v : Vec} (hv : Sup m v) : Sup m (vsm a v) := fun i h => by simp [vsm, hv i h]
theorem Sup.tXn {m : Nat} {c v : Vec} (hv : Sup m v) : ∀ n, Sup m (tXn m c n v)
 | 0 => hv
 | _ + 1 => Sup.tX
theorem Sup.opr {m : Nat} {c b v : Vec} (hv : Sup m v) : ∀ n, Sup m (opr m c b n v)
 | 0 => Sup.z
 | n + 1 => (Sup.opr hv n).add (hv.tXn n).sm
theorem Jbn {m : Nat} {c a b : Vec} (ha : Sup m a) (hb : Sup m b) : Y7 m c a b = Y7 m c b a := by
 unfold Y7
 calc opr m c b m a = opr m c b m (opr m c a m e0) := by rw [Jbc ha]
  _ = opr m c a m (opr m c b m e0) := Jkt ..
  _ = opr m c a m b := by rw [Jbc hb]
theorem Jmt {m : Nat} {c a b d : Vec} (ha : Sup m a) (hb : Sup m b) (hd : Sup m d) : Y7 m c (Y7 m c a b) d = Y7 m c a (Y7 m c b d) := by
 rw [Jbn (a := a) (b := Y7 m c b d) ha (Sup.opr hb m)]; show opr m c d m (opr m c b m a) = opr m c a m (opr m c d m b); rw [<- Jkt m c d a m m b]; show opr m c d m (Y7 m c a b) = opr m c d m (Y7 m c b a); rw [Jbn ha hb]
theorem Jvm {m : Nat} {c a b d : Vec} : Y7 m c a (Qk b d) = Qk (Y7 m c a b) (Y7 m c a d) := Jwj ..
theorem Jvl {m : Nat} {c a : Vec} (hm : 0 < m) : Y7 m c a e0 = a := by
 have key : ∀ n, 0 < n -> opr m c e0 n a = a := by
  intro n
  induction n with
  | zero => intro h; omega
  | succ n ih =>
   intro _; rcases Nat.eq_zero_or_pos n with h | h
   .subst h; funext i; simp [opr, e0, Qk, vsm, vz, tXn]
   .simp only [opr, ih h]; funext i; simp [e0, Qk, vsm, show n ≠ 0 by omega]
 exact key m hm
def vcg (p : Int) (u v : Vec) : Prop := ∀ i, u i % p = v i % p
section
variable {p : Int} {m : Nat} {c c' u u' v v' b b' : Vec}
theorem vcg.refl (u : Vec) : vcg p u u := fun _ => rfl
theorem vcg.symm (h : vcg p u v) : vcg p v u := fun i => (h i).symm
theorem vcg.trans {w : Vec} (h : vcg p u v) (k : vcg p v w) : vcg p u w := fun i => (h i).trans (k i)
theorem Jgh {a a' d d' : Int} (h : a % p = a' % p) (k : d % p = d' % p) : (a * d) % p = (a' * d') % p := by
 rw [Int.mul_emod, h, k, <- Int.mul_emod]
theorem Job {a a' d d' : Int} (h : a % p = a' % p) (k : d % p = d' % p) : (a + d) % p = (a' + d') % p := by
 rw [Int.add_emod, h, k, <- Int.add_emod]
theorem Jmy {a a' d d' : Int} (h : a % p = a' % p) (k : d % p = d' % p) : (a - d) % p = (a' - d') % p := by
 rw [Int.sub_emod, h, k, <- Int.sub_emod]
theorem vcg.add (h : vcg p u u') (k : vcg p v v') : vcg p (Qk u v) (Qk u' v') := fun i => Job (h i) (k i)
theorem vcg.sm {a a' : Int} (ha : a % p = a' % p) (h : vcg p u u') : vcg p (vsm a u) (vsm a' u') := fun i => Jgh ha (h i)
theorem vcg.tX (hc : vcg p c c') (h : vcg p u u') : vcg p (tX m c u) (tX m c' u') := fun i => by
 simp only [Go.Proofs.YtngdhnijkgjhcaaGreat.tX]; split
 .split
  .exact Jmy rfl (Jgh (hc i) (h _))
  .exact Jmy (h _) (Jgh (hc i) (h _))
 .rfl
theorem vcg.tXn (hc : vcg p c c') (h : vcg p u u') : ∀ n, vcg p (tXn m c n u) (tXn m c' n u')
 | 0 => h
 | n + 1 => vcg.tX hc (vcg.tXn hc h n)
theorem vcg.opr (hc : vcg p c c') (hb : vcg p b b') (h : vcg p u u') : ∀ n, vcg p (opr m c b n u) (opr m c' b' n u')
 | 0 => .refl _
 | n + 1 => (vcg.opr hc hb h n).add (vcg.sm (hb n) (vcg.tXn hc h n))
theorem vcg.mul (hc : vcg p c c') (h : vcg p u u') (hb : vcg p b b') : vcg p (Y7 m c u b) (Y7 m c' u' b') := vcg.opr hc hb h m
end
end Go.Proofs.YtngdhnijkgjhcaaGreat
set_option linter.unusedVariables false
namespace Go.Proofs.YtngdhnijkgjhcaaGreat
def dv (p x : Nat) : Vec := fun i => ((x / p ^ i % p : Nat) : Int)
def vl (p : Nat) : Nat -> Vec -> Int
  | 0, _ => 0
  | n + 1, v => v 0 + (p : Int) * vl p n (fun i => v (i + 1))
def Cn (p n : Nat) (v : Vec) : Prop := ∀ i, i < n -> 0 <= v i /\ v i < p
def nm (p m : Nat) (v : Vec) : Nat := (vl p m (fun i => v i % (p : Int))).toNat
theorem Jav (p x i : Nat) : dv p x (i + 1) = dv p (x / p) i := by
 simp only [dv]; rw [Nat.pow_succ', <- Nat.div_div_eq_div_mul]
theorem ZG (p x : Nat) : dv p x 0 = ((x % p : Nat) : Int) := by simp [dv]
theorem Cn.tl {p n : Nat} {v : Vec} (h : Cn p (n + 1) v) : Cn p n (fun i => v (i + 1)) := fun i hi => h (i + 1) (by omega)
theorem Jp6 {p : Nat} (hp : 0 < p) : ∀ {n : Nat} {v : Vec}, Cn p n v -> 0 <= vl p n v /\ vl p n v < ((p ^ n : Nat) : Int)
 | 0, v, _ => by simp [vl]
 | n + 1, v, h => by
  have ih := Jp6 hp h.tl; have h0 := h 0 (by omega); simp only [vl]; have h1 : (p : Int) * vl p n (fun i => v (i + 1)) <= p * (((p ^ n : Nat) : Int) - 1) := Int.mul_le_mul_of_nonneg_left (by omega) (by omega); have h2 : 0 <= (p : Int) * vl p n (fun i => v (i + 1)) := Int.mul_nonneg (by omega) ih.1; have h3 : ((p ^ (n + 1) : Nat) : Int) = p * ((p ^ n : Nat) : Int) := by rw [Nat.pow_succ']; push_cast; rfl
  have h4 : (p : Int) * (((p ^ n : Nat) : Int) - 1) = p * ((p ^ n : Nat) : Int) - p := by rw [Int.mul_sub, Int.mul_one]
  omega
theorem Jfp {p : Nat} : ∀ {n : Nat} {u v : Vec}, (∀ i, i < n -> u i = v i) -> vl p n u = vl p n v
 | 0, _, _, _ => rfl
 | n + 1, u, v, h => by simp only [vl]; rw [h 0 (by omega), Jfp (n := n) fun i hi => h (i + 1) (by omega)]
theorem Jvn {p : Nat} (hp : 0 < p) : ∀ {n x : Nat}, x < p ^ n -> vl p n (dv p x) = x
 | 0, x, h => by simp at h; subst h; rfl
 | n + 1, x, h => by
  simp only [vl]; have : (fun i => dv p x (i + 1)) = dv p (x / p) := by funext i; exact Jav p x i
  rw [this, Jvn hp (n := n) (by rw [Nat.div_lt_iff_lt_mul hp, <- Nat.pow_succ]; exact h), ZG]; have := Nat.mod_add_div x p; have h2 : ((x % p + p * (x / p) : Nat) : Int) = (x : Int) := by rw [this]
  push_cast at h2 ⊢; exact h2
theorem dv_vl {p : Nat} (hp : 0 < p) : ∀ {n : Nat} {v : Vec}, Cn p n v -> ∀ i, i < n -> dv p (vl p n v).toNat i = v i
 | 0, _, _, i, hi => by omega
 | n + 1, v, h, i, hi => by
  have ih := Jp6 hp h.tl; have h0 := h 0 (by omega); obtain ⟨t, ht⟩ := Int.eq_ofNat_of_zero_le ih.1; obtain ⟨a, ha⟩ := Int.eq_ofNat_of_zero_le h0.1; have hv : (vl p (n + 1) v).toNat = a + p * t := by
   simp only [vl]; rw [ht, ha]; have : (a : Int) + (p : Int) * (t : Int) = ((a + p * t : Nat) : Int) := by push_cast; rfl
   rw [this]; rfl
  have hap : a < p := by have := h0.2; rw [ha] at this; omega
  rw [hv]; cases i with
  | zero => rw [ZG, Nat.add_mul_mod_self_left, Nat.mod_eq_of_lt hap, ha]
  | succ i =>
   rw [Jav]; have h2 : (a + p * t) / p = t := by rw [Nat.add_mul_div_left _ _ hp, Nat.div_eq_of_lt hap, Nat.zero_add]
   have ih2 := dv_vl hp h.tl i (by omega); rw [ht] at ih2; rw [h2]; exact ih2
section
variable {p m : Nat}
theorem md_cn (hp : 0 < p) (v : Vec) (n : Nat) : Cn p n (fun i => v i % (p : Int)) := fun i _ => ⟨Int.emod_nonneg _ (by omega), Int.emod_lt_of_pos _ (by omega)⟩
theorem Jde (hp : 0 < p) (v : Vec) : nm p m v < p ^ m := by
 have := Jp6 hp (md_cn hp v m); unfold nm; omega
theorem Jq4 (hp : 0 < p) (v : Vec) {i : Nat} (hi : i < m) : dv p (nm p m v) i = v i % (p : Int) := dv_vl hp (md_cn hp v m) i hi
theorem Jh9 (hp : 0 < p) (x n : Nat) : Cn p n (dv p x) := fun i _ => by
 have := Nat.mod_lt (x / p ^ i) hp; simp only [dv]; omega
theorem Jxf {x i : Nat} (hx : x < p ^ m) (hi : m <= i) : dv p x i = 0 := by
 rcases Nat.eq_zero_or_pos p with rfl | hp
 .simp only [dv]; cases m with
  | zero =>
   have : x = 0 := by simpa using hx
   subst this; simp
  | succ m => simp at hx
 .have : x / p ^ i = 0 := Nat.div_eq_of_lt (Nat.lt_of_lt_of_le hx (Nat.pow_le_pow_right hp hi)); simp [dv, this]
theorem Y8 {x : Nat} (hx : x < p ^ m) : Sup m (dv p x) := fun i hi => Jxf hx hi
theorem Jcv (x i : Nat) : dv p x i % (p : Int) = dv p x i := by
 simp only [dv]; rw [<- Int.natCast_emod, Nat.mod_mod]
theorem Jcl (hp : 0 < p) {x : Nat} (hx : x < p ^ m) : nm p m (dv p x) = x := by
 unfold nm; rw [Jfp (v := dv p x) fun i _ => Jcv x i, Jvn hp hx]; rfl
theorem Jwy {u v : Vec} (h : ∀ i, i < m -> u i % (p : Int) = v i % (p : Int)) : nm p m u = nm p m v := by
 unfold nm; rw [Jfp h]
theorem Jal {u v : Vec} (h : vcg p u v) : nm p m u = nm p m v := Jwy fun i _ => h i
theorem Jlv (hp : 0 < p) {v : Vec} (hv : Sup m v) : vcg p (dv p (nm p m v)) v := fun i => by
 rcases Nat.lt_or_ge i m with h | h
 .rw [Jq4 hp v h, Int.emod_emod]
 .rw [Jxf (Jde hp v) h, hv i h]
theorem nm_eq (hp : 0 < p) {x : Nat} {v : Vec} (hx : x < p ^ m) (h : ∀ i, i < m -> dv p x i = v i % (p : Int)) : nm p m v = x := by
 rw [<- Jcl hp hx]; exact Jwy fun i hi => by rw [h i hi, Int.emod_emod]
end
def JS (p m x y : Nat) : Nat := nm p m (Qk (dv p x) (dv p y))
def QB (p m x : Nat) : Nat := nm p m (vsm (-1) (dv p x))
def Ju (p m : Nat) (c : Vec) (x y : Nat) : Nat := nm p m (Y7 m c (dv p x) (dv p y))
section
variable {p m : Nat} {c : Vec}
theorem Jq2 (hp : 0 < p) (x y : Nat) : JS p m x y < p ^ m := Jde hp _
theorem QY (hp : 0 < p) (x : Nat) : QB p m x < p ^ m := Jde hp _
theorem Jje (hp : 0 < p) (x y : Nat) : Ju p m c x y < p ^ m := Jde hp _
theorem Jjj (hp : 0 < p) {x y : Nat} (hx : x < p ^ m) (hy : y < p ^ m) : vcg p (dv p (JS p m x y)) (Qk (dv p x) (dv p y)) := Jlv hp ((Y8 hx).add (Y8 hy))
theorem Jz9 (hp : 0 < p) {x : Nat} (hx : x < p ^ m) : vcg p (dv p (QB p m x)) (vsm (-1) (dv p x)) := Jlv hp (Y8 hx).sm
theorem Jvk {a b : Vec} (ha : Sup m a) : Sup m (Y7 m c a b) := Sup.opr ha m
theorem Jdk (hp : 0 < p) {x y : Nat} (hx : x < p ^ m) : vcg p (dv p (Ju p m c x y)) (Y7 m c (dv p x) (dv p y)) := Jlv hp (Jvk (Y8 hx))
theorem Jsp (x y : Nat) : JS p m x y = JS p m y x := by unfold JS; rw [Jhr]
theorem Jnu (hp : 0 < p) {x y z : Nat} (hx : x < p ^ m) (hy : y < p ^ m) (hz : z < p ^ m) : JS p m (JS p m x y) z = JS p m x (JS p m y z) := by
 show nm p m (Qk (dv p (JS p m x y)) (dv p z)) = nm p m (Qk (dv p x) (dv p (JS p m y z))); rw [Jal ((Jjj hp hx hy).add (vcg.refl _)), Jal ((vcg.refl (p := p) (dv p x)).add (Jjj hp hy hz)), Jfr]
theorem Jgt (p : Nat) : dv p 0 = vz := by funext i; simp [dv, vz]
theorem Jso (hp : 0 < p) {x : Nat} (hx : x < p ^ m) : JS p m x 0 = x := by unfold JS; rw [Jgt, Jfq, Jcl hp hx]
theorem QQ (hp : 0 < p) {x : Nat} (hx : x < p ^ m) : JS p m x (QB p m x) = 0 := by
 show nm p m (Qk (dv p x) (dv p (QB p m x))) = 0; rw [Jal ((vcg.refl (p := p) (dv p x)).add (Jz9 hp hx))]; have : Qk (dv p x) (vsm (-1) (dv p x)) = vz := by funext i; simp only [Qk, vsm, vz]; omega
 rw [this, <- Jgt p, Jcl hp (by exact Nat.pow_pos hp)]
theorem Jh6 {x y : Nat} (hx : x < p ^ m) (hy : y < p ^ m) : Ju p m c x y = Ju p m c y x := by
 unfold Ju; rw [Jbn (Y8 hx) (Y8 hy)]
theorem Jnt (hp : 0 < p) {x y z : Nat} (hx : x < p ^ m) (hy : y < p ^ m) (hz : z < p ^ m) : Ju p m c (Ju p m c x y) z = Ju p m c x (Ju p m c y z) := by
 show nm p m (Y7 m c (dv p (Ju p m c x y)) (dv p z)) = nm p m (Y7 m c (dv p x) (dv p (Ju p m c y z))); rw [Jal (vcg.mul (vcg.refl c) (Jdk hp hx) (vcg.refl _)), Jal (vcg.mul (vcg.refl c) (vcg.refl (dv p x)) (Jdk hp hy)), Jmt (Y8 hx) (Y8 hy) (Y8 hz)]
theorem Jji (hp : 2 <= p) : dv p 1 = e0 := by
 funext i; cases i with
 | zero => rw [ZG, Nat.mod_eq_of_lt (by omega)]; rfl
 | succ i =>
  have : (1 : Nat) / p ^ (i + 1) = 0 := Nat.div_eq_of_lt (Nat.one_lt_pow (by omega) (by omega)); simp [dv, this, e0]
theorem Jgp (hp : 2 <= p) (hm : 0 < m) {x : Nat} (hx : x < p ^ m) : Ju p m c x 1 = x := by
 unfold Ju; rw [Jji hp, Jvl hm, Jcl (by omega) hx]
theorem Jsm (hp : 0 < p) {x : Nat} (hx : x < p ^ m) : Ju p m c x 0 = 0 := by
 rw [Jh6 hx (Nat.pow_pos hp)]; unfold Ju; rw [Jgt]; have : Y7 m c vz (dv p x) = vz := opr_z ..; rw [this, <- Jgt p, Jcl hp (Nat.pow_pos hp)]
theorem Jw9 (hp : 0 < p) {x y z : Nat} (hx : x < p ^ m) (hy : y < p ^ m) (hz : z < p ^ m) : Ju p m c x (JS p m y z) = JS p m (Ju p m c x y) (Ju p m c x z) := by
 show nm p m (Y7 m c (dv p x) (dv p (JS p m y z))) = nm p m (Qk (dv p (Ju p m c x y)) (dv p (Ju p m c x z))); rw [Jal (vcg.mul (vcg.refl c) (vcg.refl (dv p x)) (Jjj hp hy hz)), Jal ((Jdk (c := c) hp hx).add (Jdk hp hx)), Jvm]
end
structure CR (q : Nat) (A M : Nat -> Nat -> Nat) : Prop where
  q2 : 2 <= q
  Al : ∀ x y, A x y < q
  Ml : ∀ x y, M x y < q
  Ac : ∀ x y, A x y = A y x
  Aa : ∀ {x y z}, x < q -> y < q -> z < q -> A (A x y) z = A x (A y z)
  Az : ∀ {x}, x < q -> A x 0 = x
  An : ∀ {x}, x < q -> ∃ y, y < q /\ A x y = 0
  Mc : ∀ {x y}, x < q -> y < q -> M x y = M y x
  Ma : ∀ {x y z}, x < q -> y < q -> z < q -> M (M x y) z = M x (M y z)
  M1 : ∀ {x}, x < q -> M x 1 = x
  M0 : ∀ {x}, x < q -> M x 0 = 0
  Md : ∀ {x y z}, x < q -> y < q -> z < q -> M x (A y z) = A (M x y) (M x z)
theorem Jpz {p m : Nat} (c : Vec) (hp : 2 <= p) (hm : 0 < m) : CR (p ^ m) (JS p m) (Ju p m c) where
 q2 := Nat.le_trans hp (by have := Nat.pow_le_pow_right (n := p) (by omega) hm; simpa using this)
 Al := Jq2 (by omega)
 Ml := Jje (by omega)
 Ac := Jsp
 Aa := Jnu (by omega)
 Az := Jso (by omega)
 An := fun {x} hx => ⟨QB p m x, QY (by omega) x, QQ (by omega) hx⟩
 Mc := Jh6
 Ma := Jnt (by omega)
 M1 := Jgp hp hm
 M0 := Jsm (by omega)
 Md := Jw9 (by omega)
end Go.Proofs.YtngdhnijkgjhcaaGreat
set_option linter.unusedVariables false
namespace Go.Proofs.YtngdhnijkgjhcaaGreat
def pw (M : Nat -> Nat -> Nat) (g : Nat) : Nat -> Nat
  | 0 => 1
  | k + 1 => M (pw M g k) g
theorem php : ∀ (n : Nat) (f : Nat -> Nat), (∀ i, i < n + 1 -> f i < n) -> ∃ i j, i < j /\ j < n + 1 /\ f i = f j
 | 0, f, h => absurd (h 0 (by omega)) (by omega)
 | n + 1, f, h => by
  by_cases hc : ∃ i, i < n + 1 /\ f i = f (n + 1)
  .obtain ⟨i, hi, he⟩ := hc; exact ⟨i, n + 1, hi, by omega, he⟩
  .have hv := h (n + 1) (by omega); obtain ⟨i, j, hij, hj, he⟩ := php n (fun i => if f i = n then f (n + 1) else f i) (fun i hi => by
    have hne : f i ≠ f (n + 1) := fun e => hc ⟨i, hi, e⟩; have := h i (by omega); show (if f i = n then f (n + 1) else f i) < n; split
    .omega
    .omega)
   refine ⟨i, j, hij, by omega, ?_⟩; have hi1 : f i ≠ f (n + 1) := fun e => hc ⟨i, by omega, e⟩; have hj1 : f j ≠ f (n + 1) := fun e => hc ⟨j, by omega, e⟩; split at he <;> split at he <;> omega
theorem Jkg {n : Nat} {f : Nat -> Nat} (hb : ∀ i, i < n -> f i < n) (hi : ∀ i j, i < j -> j < n -> f i ≠ f j) {y : Nat} (hy : y < n) : ∃ i, i < n /\ f i = y := by
 obtain ⟨i, j, hij, hj, he⟩ := php n (fun i => if i < n then f i else y) (fun i _ => by
  show (if i < n then f i else y) < n; split
  .rename_i h; exact hb i h
  .exact hy)
 rcases Nat.lt_or_ge j n with h | h
 .rw [if_pos h, if_pos (show i < n by omega)] at he; exact absurd he (hi i j hij h)
 .rw [if_neg (show ¬ j < n by omega), if_pos (show i < n by omega)] at he; exact ⟨i, by omega, he⟩
section
variable {q : Nat} {A M : Nat -> Nat -> Nat} (R : CR q A M)
include R
namespace CR
theorem one_lt : 1 < q := R.q2
theorem pos : 0 < q := by have := R.q2; omega
theorem I1 {x : Nat} (hx : x < q) : M 1 x = x := by rw [R.Mc R.one_lt hx, R.M1 hx]
theorem Z0 {x : Nat} (hx : x < q) : M 0 x = 0 := by rw [R.Mc R.pos hx, R.M0 hx]
theorem zA {x : Nat} (hx : x < q) : A 0 x = x := by rw [R.Ac, R.Az hx]
theorem pw_lt (g : Nat) : ∀ k, pw M g k < q
 | 0 => R.one_lt
 | k + 1 => R.Ml _ _
theorem pw_one {g : Nat} (hg : g < q) : pw M g 1 = g := R.I1 hg
theorem pw_add {g : Nat} (hg : g < q) (i : Nat) : ∀ j, pw M g (i + j) = M (pw M g i) (pw M g j)
 | 0 => (R.M1 (R.pw_lt g i)).symm
 | j + 1 => by
  show M (pw M g (i + j)) g = M (pw M g i) (M (pw M g j) g); rw [pw_add hg i j, R.Ma (R.pw_lt g i) (R.pw_lt g j) hg]
theorem pw_pw {g : Nat} (hg : g < q) (i : Nat) : ∀ j, pw M (pw M g i) j = pw M g (i * j)
 | 0 => rfl
 | j + 1 => by
  show M (pw M (pw M g i) j) (pw M g i) = _; rw [pw_pw hg i j, <- R.pw_add hg]; rfl
theorem one_pw : ∀ j, pw M 1 j = 1
 | 0 => rfl
 | j + 1 => by show M (pw M 1 j) 1 = 1; rw [one_pw j, R.M1 R.one_lt]
theorem zero_pw {n : Nat} (h : 0 < n) : pw M 0 n = 0 := by
 cases n with
 | zero => omega
 | succ n => exact R.M0 (R.pw_lt 0 n)
end CR
end
structure Gn (q : Nat) (M : Nat -> Nat -> Nat) (g : Nat) : Prop where
  lt : g < q
  one : pw M g (q - 1) = 1
  no : ∀ k, 0 < k -> k < q - 1 -> pw M g k ≠ 1
namespace Gn
variable {q g : Nat} {A M : Nat -> Nat -> Nat}
theorem per (G : Gn q M g) (R : CR q A M) (i k : Nat) : pw M g (i + (q - 1) * k) = pw M g i := by
 rw [R.pw_add G.lt, <- R.pw_pw G.lt, G.one, R.one_pw, R.M1 (R.pw_lt g i)]
theorem ne0 (G : Gn q M g) (R : CR q A M) (k : Nat) : pw M g k ≠ 0 := fun h => by
 have h1 := G.per R 0 (k + 1); have hq := R.q2; rw [Nat.zero_add] at h1; have : (q - 1) * (k + 1) = k + ((q - 1) * (k + 1) - k) := by
  have : k + 1 <= (q - 1) * (k + 1) := Nat.le_mul_of_pos_left _ (by omega); omega
 rw [this, R.pw_add G.lt, h, R.Z0 (R.pw_lt g _)] at h1; exact absurd h1 (by show ¬ (0 : Nat) = 1; omega)
theorem inj (G : Gn q M g) (R : CR q A M) {i j : Nat} (hij : i < j) (hj : j < q - 1) : pw M g i ≠ pw M g j := fun h => by
 have e1 : M (pw M g i) (pw M g (q - 1 - i)) = 1 := by rw [<- R.pw_add G.lt, show i + (q - 1 - i) = q - 1 by omega, G.one]
 have e2 : M (pw M g j) (pw M g (q - 1 - i)) = pw M g (j - i) := by
  rw [<- R.pw_add G.lt, show j + (q - 1 - i) = (j - i) + (q - 1) * 1 by omega, G.per R]
 rw [h] at e1; exact G.no (j - i) (by omega) (by omega) (e2.symm.trans e1)
theorem surj (G : Gn q M g) (R : CR q A M) {x : Nat} (h0 : 0 < x) (hx : x < q) : ∃ k, k < q - 1 /\ pw M g k = x := by
 obtain ⟨i, hi, he⟩ := Jkg (n := q - 1) (f := fun k => pw M g k - 1) (fun i hi => by
  have := R.pw_lt g i; have := G.ne0 R i; show pw M g i - 1 < q - 1; omega) (fun i j hij hj he => by
  have h1 := G.ne0 R i; have h2 := G.ne0 R j; exact G.inj R hij hj (by omega)) (y := x - 1) (by omega)
 have := G.ne0 R i; exact ⟨i, hi, by omega⟩
open Classical in
noncomputable def lg (q : Nat) (M : Nat -> Nat -> Nat) (g x : Nat) : Nat := if h : ∃ k, k < q - 1 /\ pw M g k = x then Classical.choose h else 0
theorem xone (G : Gn q M g) (R : CR q A M) {x : Nat} (h0 : 0 < x) (hx : x < q) : pw M x (q - 1) = 1 := by
  obtain ⟨k, hk, rfl⟩ := G.surj R h0 hx
  rw [R.pw_pw G.lt, Nat.mul_comm, <- R.pw_pw G.lt, G.one, R.one_pw]
end Gn
end Go.Proofs.YtngdhnijkgjhcaaGreat
set_option linter.unusedVariables false
namespace Go.Proofs.YtngdhnijkgjhcaaGreat
structure IsLf (n d : Nat) : Prop where
  two : 2 <= d
  dvd : n % d = 0
  min : ∀ e, 2 <= e -> n % e = 0 -> d <= e
def Jxi : Nat -> Nat -> Nat
  | _, 0 => 1
  | 0, _ + 1 => 0
  | n + 1, k + 1 => Jxi n k + Jxi n (k + 1)
section
variable {q : Nat} {A M : Nat -> Nat -> Nat} (R : CR q A M)
include R
namespace CR
theorem Aac {a b c : Nat} (ha : a < q) (hb : b < q) (hc : c < q) : A (A a b) c = A (A a c) b := by
 rw [R.Aa ha hb hc, R.Ac b c, <- R.Aa ha hc hb]
theorem A4 {a b c d : Nat} (ha : a < q) (hb : b < q) (hc : c < q) (hd : d < q) : A (A a b) (A c d) = A (A a c) (A b d) := by
 rw [<- R.Aa (R.Al a b) hc hd, R.Aac ha hb hc, R.Aa (R.Al a c) hb hd]
end CR
end
end Go.Proofs.YtngdhnijkgjhcaaGreat
set_option linter.unusedVariables false
namespace Go.Proofs.YtngdhnijkgjhcaaGreat
def hz (m : Nat) (c b y : Vec) (n : Nat) : Nat -> Vec
  | 0 => vz
  | k + 1 => Qk (tX m c (hz m c b y n k)) (vsm (b (n - 1 - k)) y)
theorem Jw4 {m : Nat} {c b y : Vec} {n : Nat} : ∀ {k : Nat}, k <= n -> Qk (tXn m c (n - k) (hz m c b y n k)) (opr m c b (n - k) y) = opr m c b n y
 | 0, _ => by simp only [hz, Nat.sub_zero]; rw [Jvw, z_vadd]
 | k + 1, h => by
  have ih := Jw4 (m := m) (c := c) (b := b) (y := y) (n := n) (k := k) (by omega); obtain ⟨r, hr⟩ : ∃ r, n - k = r + 1 := ⟨n - k - 1, by omega⟩
  rw [show n - (k + 1) = r by omega]; rw [hr] at ih; rw [<- ih]; show Qk (tXn m c r (Qk (tX m c (hz m c b y n k)) (vsm (b (n - 1 - k)) y))) (opr m c b r y) = Qk (tX m c (tXn m c r (hz m c b y n k))) (Qk (opr m c b r y) (vsm (b r) (tXn m c r y))); rw [Jin, Jmx, Jvx, show n - 1 - k = r by omega, Jfr, Jhr (vsm _ _)]
theorem hz_all (m : Nat) (c b y : Vec) (n : Nat) : hz m c b y n n = opr m c b n y := by
 have := Jw4 (m := m) (c := c) (b := b) (y := y) (n := n) (k := n) (Nat.le_refl n); rw [Nat.sub_self] at this; rw [<- this]; exact (Jfq _).symm
def dgl (p : Nat) : Nat -> Nat -> List Nat
  | 0, _ => []
  | n + 1, x => (x % p) :: dgl p n (x / p)
theorem Yj (p : Nat) : ∀ n x, (dgl p n x).length = n
 | 0, _ => rfl
 | n + 1, x => by simp [dgl, Yj p n]
theorem Jej (p : Nat) : ∀ n x i, i < n -> (((dgl p n x).getD i 0 : Nat) : Int) = dv p x i
 | 0, _, i, h => by omega
 | n + 1, x, 0, _ => by rw [ZG]; rfl
 | n + 1, x, i + 1, h => by
  show (((dgl p n (x / p)).getD i 0 : Nat) : Int) = _; rw [Jej p n (x / p) i (by omega), Jav]
@[reducible] noncomputable def hd0 (l : List Nat) : Nat := List.rec (motive := fun _ => Nat) 0 (fun x _ _ => x) l
@[reducible] noncomputable def tl0 (l : List Nat) : List Nat := List.rec (motive := fun _ => List Nat) [] (fun _ l _ => l) l
noncomputable def go (p a top : Nat) (cs : List Nat) : Nat -> List Nat -> List Nat -> List Nat :=
  List.rec (motive := fun _ => Nat -> List Nat -> List Nat -> List Nat) (fun _ _ _ => [])
    (fun c _ ih prev us ys => ((prev + (p - c) * top + a * hd0 ys) % p) :: ih (hd0 us) (tl0 us) (tl0 ys)) cs
noncomputable def tp (l : List Nat) : Nat -> Nat := List.rec (motive := fun _ => Nat -> Nat) (fun d => d) (fun x _ ih _ => ih x) l
noncomputable def Jnj (p : Nat) (cs ys gs : List Nat) : List Nat -> List Nat :=
  List.rec (motive := fun _ => List Nat -> List Nat) (fun acc => acc) (fun g _ ih acc => ih (go p g (tp acc 0) cs 0 acc ys)) gs
noncomputable def az (l : List Nat) : Bool := List.rec (motive := fun _ => Bool) true (fun x _ ih => bif Nat.beq x 0 then ih else false) l
noncomputable def is1 (l : List Nat) : Bool := List.rec (motive := fun _ => Bool) false (fun x t _ => bif Nat.beq x 1 then az t else false) l
noncomputable def run (p : Nat) (cs gs : List Nat) (n : Nat) : List Nat -> Bool :=
  Nat.rec (motive := fun _ => List Nat -> Bool) (fun y => is1 y) (fun _ ih y => bif is1 y then false else ih (Jnj p cs y gs y)) n
noncomputable def Jkj (p c : Nat) (al : List Nat) : List Nat -> List Nat :=
  List.rec (motive := fun _ => List Nat -> List Nat) (fun bs => bs) (fun a _ ih bs => ((hd0 bs + (p - a) * c) % p) :: ih (tl0 bs)) al
noncomputable def dvg (p : Nat) (low : List Nat) (k : Nat) : List Nat -> Bool :=
  Nat.rec (motive := fun _ => List Nat -> Bool) (fun r => az r) (fun _ ih r => ih (Jkj p (hd0 r) low (tl0 r))) k
noncomputable def nob (f : Nat -> Bool) (n : Nat) : Bool := Nat.rec (motive := fun _ => Bool) true (fun i ih => bif f i then false else ih) n
noncomputable def irrB (p m : Nat) (ml : List Nat) : Bool :=
  nob (fun d => !nob (fun w => dvg p (dgl p (d + 1) w).reverse (m - d) (1 :: ml.reverse)) (p ^ (d + 1))) (m / 2)
noncomputable def cand (p c : Nat) : List Nat := bif Nat.blt c p then [c] else bif Nat.blt c (p + p * p) then [(c - p) / p, (c - p) % p] else [(c - p - p * p) / (p * p), (c - p - p * p) / p % p, (c - p - p * p) % p]
noncomputable def gen1 (p m : Nat) (cs gs : List Nat) : Bool := run p cs gs (p ^ m - 2) (Jnj p cs (dgl p m 1) gs (dgl p m 1))
noncomputable def Jnr (p m : Nat) (cs : List Nat) : Bool := !nob (fun c => gen1 p m cs (cand p (p + p * p + p * p * p - 1 - c))) (p + p * p + p * p * p)
noncomputable def chk (p m lo n : Nat) : Bool := nob (fun v => bif irrB p m (dgl p m (lo + v)) then !Jnr p m (dgl p m (lo + v)) else false) n

theorem Jjc (l : List Nat) : hd0 l = l.getD 0 0 := by cases l <;> rfl
theorem Jfw (l : List Nat) (i : Nat) : (tl0 l).getD i 0 = l.getD (i + 1) 0 := by cases l <;> rfl
theorem Jy7 (l : List Nat) : (tl0 l).length = l.length - 1 := by cases l <;> simp [tl0]
theorem Jjd (p a top c : Nat) (cs : List Nat) (prev : Nat) (us ys : List Nat) : go p a top (c :: cs) prev us ys = ((prev + (p - c) * top + a * hd0 ys) % p) :: go p a top cs (hd0 us) (tl0 us) (tl0 ys) := rfl
theorem Jw6 (p a top : Nat) : ∀ (cs : List Nat) (prev : Nat) (us ys : List Nat), (go p a top cs prev us ys).length = cs.length
 | [], _, _, _ => rfl
 | c :: cs, prev, us, ys => by rw [Jjd, List.length_cons, Jw6 p a top cs, List.length_cons]
theorem go_at (p a top : Nat) : ∀ (cs : List Nat) (prev : Nat) (us ys : List Nat) (i : Nat), i < cs.length -> (go p a top cs prev us ys).getD i 0 = ((if i = 0 then prev else us.getD (i - 1) 0) + (p - cs.getD i 0) * top + a * ys.getD i 0) % p
 | [], _, _, _, i, h => by simp at h
 | c :: cs, prev, us, ys, 0, _ => by rw [Jjd, Jjc]; rfl
 | c :: cs, prev, us, ys, i + 1, h => by
  rw [Jjd]; show (go p a top cs (hd0 us) (tl0 us) (tl0 ys)).getD i 0 = _; rw [go_at p a top cs _ _ _ i (by simpa using h)]; cases i with
  | zero => rw [if_pos rfl, if_neg (by omega), Jjc, Jfw]; rfl
  | succ i => rw [if_neg (by omega), if_neg (by omega), Jfw, Jfw]; rfl
theorem tp_eq : ∀ (l : List Nat) (d : Nat), 0 < l.length -> tp l d = l.getD (l.length - 1) 0
 | [], _, h => by simp at h
 | [x], d, _ => rfl
 | x :: y :: l, d, _ => by
  show tp (y :: l) x = _; rw [tp_eq (y :: l) x (by simp)]; simp
def Rep (p m : Nat) (L : List Nat) (v : Vec) : Prop := L.length = m /\ ∀ i, i < m -> ((L.getD i 0 : Nat) : Int) = v i % (p : Int)
def hl (m : Nat) (c y : Vec) : List Nat -> Vec -> Vec
  | [], u => u
  | g :: gs, u => hl m c y gs (Qk (tX m c u) (vsm g y))
theorem Rep.step {p m : Nat} {cs us ys : List Nat} {c u y : Vec} (hp : 0 < p) (hm : 0 < m) (hc : Rep p m cs c) (hu : Rep p m us u) (hy : Rep p m ys y) (g : Nat) :
  Rep p m (go p g (tp us 0) cs 0 us ys) (Qk (tX m c u) (vsm g y)) := by
 refine ⟨by rw [Jw6, hc.1], fun i hi => ?_⟩; rw [go_at _ _ _ _ _ _ _ _ (by rw [hc.1]; exact hi), tp_eq _ _ (by rw [hu.1]; exact hm), hu.1]; have h1 := hu.2 (m - 1) (by omega); have h2 := hc.2 i hi; have h3 := hy.2 i hi; have hlt : cs.getD i 0 <= p := by
  have := Int.emod_lt_of_pos (c i) (show (0 : Int) < p by omega); omega
 have e : (((if i = 0 then 0 else us.getD (i - 1) 0) : Nat) : Int) % p = (if i = 0 then (0 : Int) else u (i - 1)) % p := by
  split
  .rfl
  .rw [hu.2 (i - 1) (by omega), Int.emod_emod]
 simp only [Qk, vsm, tX, if_pos hi]; generalize (if i = 0 then 0 else us.getD (i - 1) 0 : Nat) = A at *
 generalize (if i = 0 then (0 : Int) else u (i - 1)) = B at *
 generalize us.getD (m - 1) 0 = T at *
 generalize cs.getD i 0 = C at *
 generalize ys.getD i 0 = Y at *
 have hT : ((T : Nat) : Int) % p = u (m - 1) % p := by rw [h1, Int.emod_emod]
 have hC : ((C : Nat) : Int) % p = c i % p := by rw [h2, Int.emod_emod]
 have hY : ((Y : Nat) : Int) % p = y i % p := by rw [h3, Int.emod_emod]
 obtain ⟨D, hD⟩ : ∃ D, p = C + D := ⟨p - C, by omega⟩
 have hsub : p - C = D := by omega
 rw [hsub]; have hcast : ((A + D * T + g * Y : Nat) : Int) = ((A : Int) - C * T + g * Y) + p * T := by
  have : (p : Int) = C + D := by omega
  rw [this]; push_cast; rw [Int.add_mul]; omega
 rw [Int.natCast_emod, hcast, Int.add_mul_emod_self_left]; exact Job (Jmy e (Jgh hC hT)) (Jgh rfl hY)
theorem Jsl (p : Nat) (cs ys : List Nat) (g : Nat) (gs acc : List Nat) : Jnj p cs ys (g :: gs) acc = Jnj p cs ys gs (go p g (tp acc 0) cs 0 acc ys) := rfl
theorem Rep.mul {p m : Nat} {cs ys : List Nat} {c y : Vec} (hp : 0 < p) (hm : 0 < m) (hc : Rep p m cs c) (hy : Rep p m ys y) : ∀ {gs us : List Nat} {u : Vec}, Rep p m us u -> Rep p m (Jnj p cs ys gs us) (hl m c y gs u)
 | [], _, _, h => h
 | g :: gs, us, u, h => by rw [Jsl]; exact Rep.mul hp hm hc hy (Rep.step hp hm hc h hy g)
theorem Jno {m : Nat} {c y : Vec} (hy : Sup m y) : ∀ {gs : List Nat} {u : Vec}, Sup m u -> Sup m (hl m c y gs u)
 | [], _, h => h
 | g :: gs, u, h => Jno (gs := gs) (u := Qk (tX m c u) (vsm g y)) hy (Sup.add Sup.tX hy.sm)
theorem Jw5 {m : Nat} {c y : Vec} (hy : Sup m y) : ∀ {gs : List Nat} {U : Vec}, hl m c y gs (opr m c y m U) = opr m c y m (hl m c e0 gs U)
  | [], _ => rfl
  | g :: gs, U => by
    show hl m c y gs (Qk (tX m c (opr m c y m U)) (vsm g y)) = opr m c y m (hl m c e0 gs (Qk (tX m c U) (vsm g e0)))
    rw [<- Jw5 hy, Jqm, Jm7, Jbc hy]
    have := Jql m c y m 1 U
    rw [show tXn m c 1 U = tX m c U from rfl, show tXn m c 1 (opr m c y m U) = tX m c (opr m c y m U) from rfl] at this
    rw [this]
theorem Jjh {m : Nat} (hm : 0 < m) : Sup m e0 := fun i hi => by simp [e0, show i ≠ 0 by omega]
theorem hl_mul {m : Nat} {c y : Vec} (hm : 0 < m) (hy : Sup m y) (gs : List Nat) : hl m c y gs y = Y7 m c y (hl m c e0 gs e0) := by
 rw [Jbn hy (Jno (Jjh hm) (Jjh hm))]; show _ = opr m c y m (hl m c e0 gs e0); rw [<- Jw5 hy, Jbc hy]
theorem Jyt {p m x : Nat} : Rep p m (dgl p m x) (dv p x) := ⟨Yj p m x, fun i hi => by rw [Jej p m x i hi, Jcv]⟩
theorem Rep.cg {p m : Nat} {L : List Nat} {u v : Vec} (h : Rep p m L u) (hv : ∀ i, i < m -> u i % (p : Int) = v i % (p : Int)) : Rep p m L v := ⟨h.1, fun i hi => by rw [h.2 i hi, hv i hi]⟩
theorem Qad (x : Nat) (l : List Nat) : az (x :: l) = bif Nat.beq x 0 then az l else false := rfl
theorem Jjp : ∀ l : List Nat, az l = true ↔ ∀ i, i < l.length -> l.getD i 0 = 0
 | [] => ⟨fun _ i h => by simp at h, fun _ => rfl⟩
 | x :: l => by
  rw [Qad]; cases hx : Nat.beq x 0 with
  | true =>
   have := Nat.eq_of_beq_eq_true hx; subst this; rw [show (bif true then az l else false) = az l from rfl, Jjp l]; constructor
   .intro h i hi; cases i with
    | zero => rfl
    | succ i => exact h i (by simpa using hi)
   .intro h i hi; exact h (i + 1) (by simpa using hi)
  | false =>
   rw [show (bif false then az l else false) = false from rfl]; constructor
   .intro h; cases h
   .intro h; have := h 0 (by simp); simp only [List.getD_cons_zero] at this; subst this; cases hx
theorem Jqy {p m x : Nat} {L : List Nat} (hp : 2 <= p) (hm : 0 < m) (hx : x < p ^ m) (h : Rep p m L (Go.Proofs.YtngdhnijkgjhcaaGreat.dv p x)) : is1 L = true ↔ x = 1 := by
 obtain ⟨a, l, rfl⟩ : ∃ a l, L = a :: l := by
  cases L with
  | nil => have := h.1; simp at this; omega
  | cons a l => exact ⟨a, l, rfl⟩
 have hlen : l.length + 1 = m := h.1; have h0 := h.2 0 hm; have e : is1 (a :: l) = bif Nat.beq a 1 then az l else false := rfl; rw [e]; constructor
 .intro hb; cases ha : Nat.beq a 1 with
  | false => rw [ha] at hb; cases hb
  | true =>
   rw [ha] at hb; have hz := (Jjp l).1 hb; have ha1 := Nat.eq_of_beq_eq_true ha; subst ha1; rw [<- Jcl (p := p) (m := m) (by omega) hx, <- Jcl (p := p) (m := m) (x := 1) (by omega) (Nat.one_lt_pow (by omega) (by omega))]; refine Jwy fun i hi => ?_; rw [Jji hp, Jcv, <- Jcv, <- h.2 i hi]; cases i with
   | zero =>
    show (1 : Int) = e0 0 % p; simp only [e0, if_pos]; exact (Int.emod_eq_of_lt (by omega) (by omega)).symm
   | succ i =>
    show ((l.getD i 0 : Nat) : Int) = e0 (i + 1) % p; rw [hz i (by omega)]; simp [e0]
 .intro hx1; subst hx1; have ha : a = 1 := by
   have : ((a : Nat) : Int) = Go.Proofs.YtngdhnijkgjhcaaGreat.dv p 1 0 % p := h0; rw [Jcv, Jji hp] at this; simp [e0] at this; omega
  subst ha; show az l = true; refine (Jjp l).2 fun i hi => ?_; have : ((l.getD i 0 : Nat) : Int) = Go.Proofs.YtngdhnijkgjhcaaGreat.dv p 1 (i + 1) % p := h.2 (i + 1) (by omega); rw [Jcv, Jji hp] at this; simp only [e0] at this; rw [if_neg (by omega)] at this; exact Int.ofNat_eq_zero.1 this
def gel (p m : Nat) (c : Vec) (gs : List Nat) : Nat := nm p m (hl m c e0 gs e0)
theorem Jmg {p m x : Nat} {cs L gs : List Nat} {c : Vec} (hp : 2 <= p) (hm : 0 < m) (hx : x < p ^ m) (hc : Rep p m cs c) (h : Rep p m L (Go.Proofs.YtngdhnijkgjhcaaGreat.dv p x)) : Rep p m (Jnj p cs L gs L) (Go.Proofs.YtngdhnijkgjhcaaGreat.dv p (Ju p m c x (gel p m c gs))) := by
 have h1 := Rep.mul (gs := gs) (by omega) hm hc h h; rw [hl_mul hm (Y8 hx)] at h1; refine h1.cg fun i hi => ?_; have hs := Jno (c := c) (gs := gs) (Jjh hm) (Jjh hm); have e1 := Jdk (p := p) (m := m) (c := c) (by omega) hx (y := gel p m c gs); have e2 := vcg.mul (m := m) (vcg.refl (p := p) c) (vcg.refl (Go.Proofs.YtngdhnijkgjhcaaGreat.dv p x)) (Jlv (p := p) (m := m) (by omega) hs); exact ((e1.trans e2) i).symm
theorem Jv5 (p : Nat) (cs gs : List Nat) (n : Nat) (y : List Nat) : run p cs gs (n + 1) y = bif is1 y then false else run p cs gs n (Jnj p cs y gs y) := rfl
theorem Jv6 {p m : Nat} {cs gs : List Nat} {c : Vec} (hp : 2 <= p) (hm : 0 < m) (hc : Rep p m cs c) : ∀ {n : Nat} {L : List Nat} {x : Nat}, x < p ^ m -> Rep p m L (Go.Proofs.YtngdhnijkgjhcaaGreat.dv p x) -> run p cs gs n L = true ->
  (∀ k, k < n -> Ju p m c x (pw (Ju p m c) (gel p m c gs) k) ≠ 1) /\ Ju p m c x (pw (Ju p m c) (gel p m c gs) n) = 1
 | 0, L, x, hx, h, hr => by
  refine ⟨fun k hk => by omega, ?_⟩; show Ju p m c x 1 = 1; rw [Jgp hp hm hx]; exact (Jqy hp hm hx h).1 hr
 | n + 1, L, x, hx, h, hr => by
  rw [Jv5] at hr; cases h1 : is1 L with
  | true => rw [h1] at hr; cases hr
  | false =>
   rw [h1] at hr; have R := Jpz (p := p) (m := m) c hp hm; have hg : gel p m c gs < p ^ m := Jde (by omega) _; have ih := Jv6 hp hm hc (Jje (by omega) x _) (Jmg (gs := gs) hp hm hx hc h) hr; have e : ∀ k, Ju p m c (Ju p m c x (gel p m c gs)) (pw (Ju p m c) (gel p m c gs) k) = Ju p m c x (pw (Ju p m c) (gel p m c gs) (k + 1)) := fun k => by
    rw [R.Ma hx hg (R.pw_lt _ k), R.Mc hg (R.pw_lt _ k)]; rfl
   refine ⟨fun k hk => ?_, by rw [<- e]; exact ih.2⟩; cases k with
   | zero =>
    show Ju p m c x 1 ≠ 1; rw [Jgp hp hm hx]; intro hx1; rw [(Jqy hp hm hx h).2 hx1] at h1; cases h1
   | succ k => rw [<- e]; exact ih.1 k (by omega)
theorem Jz5 {p m : Nat} {cs gs : List Nat} {c : Vec} (hp : 2 <= p) (hm : 0 < m) (hc : Rep p m cs c) (h : gen1 p m cs gs = true) : Gn (p ^ m) (Ju p m c) (gel p m c gs) := by
 have R := Jpz (p := p) (m := m) c hp hm; have hg : gel p m c gs < p ^ m := Jde (by omega) _; have h1 := Jmg (gs := gs) hp hm R.one_lt hc Jyt; rw [R.I1 hg] at h1; obtain ⟨h2, h3⟩ := Jv6 hp hm hc hg h1 h; have hq := R.q2; have e : ∀ k, Ju p m c (gel p m c gs) (pw (Ju p m c) (gel p m c gs) k) = pw (Ju p m c) (gel p m c gs) (k + 1) := fun k => R.Mc hg (R.pw_lt _ k); refine ⟨hg, ?_, fun k h0 hk => ?_⟩
 .rw [show p ^ m - 1 = (p ^ m - 2) + 1 by omega, <- e]; exact h3
 .rw [show k = (k - 1) + 1 by omega, <- e]; exact h2 (k - 1) (by omega)
theorem Jwx (f : Nat -> Bool) (n : Nat) : nob f (n + 1) = bif f n then false else nob f n := rfl
theorem Jbv (f : Nat -> Bool) : ∀ n, nob f n = true ↔ ∀ i, i < n -> f i = false
 | 0 => ⟨fun _ i h => by omega, fun _ => rfl⟩
 | n + 1 => by
  rw [Jwx]; cases h : f n with
  | true =>
   refine ⟨fun h' => ?_, fun h' => ?_⟩
   .cases h'
   .rw [h' n (by omega)] at h; cases h
  | false =>
   show nob f n = true ↔ _; rw [Jbv f n]; refine ⟨fun h' i hi => ?_, fun h' i hi => h' i (by omega)⟩; rcases Nat.lt_or_ge i n with h1 | h1
   .exact h' i h1
   .rw [show i = n by omega]; exact h
theorem Jsj (f : Nat -> Bool) (n : Nat) (h : nob f n = false) : ∃ i, i < n /\ f i = true := by
 have hn : ¬ ∀ i, i < n -> f i = false := fun h' => by rw [(Jbv f n).2 h'] at h; cases h
 have := Classical.not_forall.1 hn; obtain ⟨i, hi⟩ := this; have h2 := Classical.not_imp.1 hi; exact ⟨i, h2.1, by cases hf : f i with | true => rfl | false => exact absurd hf h2.2⟩
theorem Jq0 {p m : Nat} {cs : List Nat} {c : Vec} (hp : 2 <= p) (hm : 0 < m) (hc : Rep p m cs c) (h : Jnr p m cs = true) : ∃ g, Gn (p ^ m) (Ju p m c) g := by
 unfold Jnr at h; obtain ⟨i, _, hi⟩ := Jsj _ _ (by simpa using h); exact ⟨_, Jz5 hp hm hc hi⟩
def rst (p d i : Nat) (l R : Vec) : Vec := fun j => if i <= j + d /\ j < i then (R j - l (j + d - i) * R i) % (p : Int) else R j
def rem (p d : Nat) (l R : Vec) (n : Nat) : Nat -> Vec
  | 0 => R
  | k + 1 => rst p d (n - 1 - k) l (rem p d l R n k)
def Dvd (p d : Nat) (l R : Vec) (n : Nat) : Prop := ∀ j, j < d -> rem p d l R n (n - d) j = 0
def Irr (p m : Nat) (c : Vec) : Prop := ∀ d, 0 < d -> 2 * d <= m -> ∀ w, w < p ^ d -> ¬ Dvd p d (dv p w) (fun i => if i = m then 1 else c i) (m + 1)
theorem Jd4 (p c a : Nat) (al bs : List Nat) : Jkj p c (a :: al) bs = ((hd0 bs + (p - a) * c) % p) :: Jkj p c al (tl0 bs) := rfl
theorem Jki (p c : Nat) : ∀ al bs : List Nat, al.length <= bs.length -> (Jkj p c al bs).length = bs.length
 | [], _, _ => rfl
 | a :: al, [], h => by simp at h
 | a :: al, b :: bs, h => by
  rw [Jd4, List.length_cons]; show (Jkj p c al bs).length + 1 = _; rw [Jki p c al bs (by simpa using h)]; rfl
theorem Jqc (p c : Nat) : ∀ (al bs : List Nat) (t : Nat), (Jkj p c al bs).getD t 0 = if t < al.length then (bs.getD t 0 + (p - al.getD t 0) * c) % p else bs.getD t 0
 | [], bs, t => by simp; rfl
 | a :: al, bs, 0 => by rw [Jd4, Jjc]; simp
 | a :: al, bs, t + 1 => by
  rw [Jd4]; show (Jkj p c al (tl0 bs)).getD t 0 = _; rw [Jqc p c al (tl0 bs) t, Jfw]; simp
theorem Jxd (p : Nat) (low : List Nat) (k : Nat) (r : List Nat) : dvg p low (k + 1) r = dvg p low k (Jkj p (hd0 r) low (tl0 r)) := rfl
theorem Jxe {p d n : Nat} {l R : Vec} {low : List Nat} (hp : 0 < p) (hl : low.length = d) (hlow : ∀ t, t < d -> ((low.getD t 0 : Nat) : Int) = l (d - 1 - t)) (hlp : ∀ t, t < d -> low.getD t 0 <= p) : ∀ (s k : Nat) (r : List Nat), s + k + d = n -> r.length = n - k ->
  (∀ t, t < n - k -> ((r.getD t 0 : Nat) : Int) = rem p d l R n k (n - 1 - k - t)) -> (dvg p low s r = true ↔ Dvd p d l R n)
 | 0, k, r, hs, hr, hv => by
  have : n - k = d := by omega
  rw [this] at hr hv; show az r = true ↔ _; rw [Jjp, hr]; have hk : n - d = k := by omega
  unfold Dvd; rw [hk]; constructor
  .intro h j hj; have := hv (d - 1 - j) (by omega); rw [h (d - 1 - j) (by omega), show n - 1 - k - (d - 1 - j) = j by omega] at this; exact this.symm
  .intro h t ht; have := hv t ht; rw [h (n - 1 - k - t) (by omega)] at this; exact Int.ofNat_eq_zero.1 this
 | s + 1, k, r, hs, hr, hv => by
  rw [Jxd]; have htl : (tl0 r).length = n - (k + 1) := by rw [Jy7, hr]; omega
  refine Jxe hp hl hlow hlp s (k + 1) _ (by omega) (by rw [Jki _ _ _ _ (by rw [htl, hl]; omega), htl]) fun t ht => ?_; rw [Jqc, hl, Jfw, Jjc]; have h0 := hv 0 (by omega); rw [Nat.sub_zero] at h0; have h1 := hv (t + 1) (by omega); rw [show n - 1 - k - (t + 1) = n - 1 - (k + 1) - t by omega] at h1; show _ = rst p d (n - 1 - k) l (rem p d l R n k) (n - 1 - (k + 1) - t); unfold rst; by_cases htd : t < d
  .rw [if_pos htd, if_pos (by omega)]; have h2 := hlow t htd; have h3 := hlp t htd; rw [show n - 1 - (k + 1) - t + d - (n - 1 - k) = d - 1 - t by omega, <- h0, <- h1, <- h2]; generalize r.getD (t + 1) 0 = X at *
   generalize low.getD t 0 = Y at *
   generalize r.getD 0 0 = Z at *
   obtain ⟨D, hD⟩ : ∃ D, p = Y + D := ⟨p - Y, by omega⟩
   rw [show p - Y = D by omega, Int.natCast_emod]; have hcast : ((X + D * Z : Nat) : Int) = ((X : Int) - Y * Z) + p * Z := by
    have : (p : Int) = Y + D := by omega
    rw [this]; push_cast; rw [Int.add_mul]; omega
   rw [hcast, Int.add_mul_emod_self_left]
  .rw [if_neg htd, if_neg (by omega)]; exact h1
theorem Jgo (l : List Nat) (t : Nat) (h : t < l.length) : l.reverse.getD t 0 = l.getD (l.length - 1 - t) 0 := by
 rw [List.getD_eq_getElem?_getD, List.getD_eq_getElem?_getD, List.getElem?_reverse h]
theorem dv_le {p : Nat} (hp : 0 < p) (x i : Nat) : 0 <= dv p x i /\ dv p x i < p := Jh9 hp x (i + 1) i (by omega)
theorem Jw2 {p m v : Nat} (hp : 0 < p) (hv : v < p ^ m) : irrB p m (dgl p m v) = true ↔ Irr p m (dv p v) := by
 have key : ∀ d w, 0 < d -> 2 * d <= m -> (dvg p (dgl p d w).reverse (m + 1 - d) (1 :: (dgl p m v).reverse) = true ↔ Dvd p d (dv p w) (fun i => if i = m then 1 else dv p v i) (m + 1)) := fun d w hd h2 => by
  refine Jxe hp (by rw [List.length_reverse, Yj]) (fun t ht => ?_) (fun t ht => ?_) (m + 1 - d) 0 _ (by omega) (by simp [Yj]) fun t ht => ?_
  .rw [Jgo _ _ (by rw [Yj]; exact ht), Yj, Jej _ _ _ _ (by omega)]
  .rw [Jgo _ _ (by rw [Yj]; exact ht), Yj]; have := Jej p d w (d - 1 - t) (by omega); have := dv_le hp w (d - 1 - t); omega
  .show _ = if m + 1 - 1 - 0 - t = m then (1 : Int) else dv p v (m + 1 - 1 - 0 - t)
   cases t with
   | zero => rw [if_pos (by omega)]; rfl
   | succ t =>
    rw [if_neg (by omega)]; show (((dgl p m v).reverse.getD t 0 : Nat) : Int) = _; rw [Jgo _ _ (by rw [Yj]; omega), Yj, Jej _ _ _ _ (by omega), show m + 1 - 1 - 0 - (t + 1) = m - 1 - t by omega]
 unfold irrB; rw [Jbv]; constructor
 .intro h d hd h2 w hw hD; have h3 := h (d - 1) (by omega); have h4 := (Jbv _ _).1 (by simpa using h3) w (by rw [show d - 1 + 1 = d by omega]; exact hw); rw [show d - 1 + 1 = d by omega, show m - (d - 1) = m + 1 - d by omega, (key d w hd h2).2 hD] at h4; cases h4
 .intro h d hd; have : nob (fun w => dvg p (dgl p (d + 1) w).reverse (m - d) (1 :: (dgl p m v).reverse)) (p ^ (d + 1)) = true := (Jbv _ _).2 fun w hw => by
   cases hb : dvg p (dgl p (d + 1) w).reverse (m - d) (1 :: (dgl p m v).reverse) with
   | false => rfl
   | true =>
    rw [show m - d = m + 1 - (d + 1) by omega] at hb; exact absurd ((key (d + 1) w (by omega) (by omega)).1 hb) (h (d + 1) (by omega) (by omega) w hw)
  rw [this]; rfl
theorem JW {p m lo n v : Nat} (hp : 2 <= p) (hm : 0 < m) (h : chk p m lo n = true) (h1 : lo <= v) (h2 : v < lo + n) (hv : v < p ^ m) (hi : Irr p m (dv p v)) : ∃ g, Gn (p ^ m) (Ju p m (dv p v)) g := by
 have h3 := (Jbv _ _).1 h (v - lo) (by omega); simp only [show lo + (v - lo) = v by omega, (Jw2 (by omega) hv).2 hi, cond_true] at h3; exact Jq0 hp hm Jyt (by simpa using h3)
end Go.Proofs.YtngdhnijkgjhcaaGreat
set_option linter.unusedVariables false
namespace Go.Proofs.YtngdhnijkgjhcaaGreat
theorem Js6 : chk 2 2 0 4 = true := by decide +kernel
theorem Js5 : chk 2 3 0 8 = true := by decide +kernel
theorem Js4 : chk 2 4 0 16 = true := by decide +kernel
theorem Js3 : chk 2 5 0 32 = true := by decide +kernel
theorem Js2 : chk 2 6 0 64 = true := by decide +kernel
theorem Js1 : chk 2 7 0 64 = true := by decide +kernel
theorem Jn7 : chk 2 7 64 64 = true := by decide +kernel
theorem Js0 : chk 2 8 0 24 = true := by decide +kernel
theorem Jn6 : chk 2 8 24 24 = true := by decide +kernel
theorem Jn5 : chk 2 8 48 24 = true := by decide +kernel
theorem Jn4 : chk 2 8 72 24 = true := by decide +kernel
theorem Jn3 : chk 2 8 96 24 = true := by decide +kernel
theorem Jls : chk 2 8 120 24 = true := by decide +kernel
theorem Jlr : chk 2 8 144 24 = true := by decide +kernel
theorem Jlq : chk 2 8 168 24 = true := by decide +kernel
theorem Jlp : chk 2 8 192 24 = true := by decide +kernel
theorem Jlo : chk 2 8 216 24 = true := by decide +kernel
theorem Jln : chk 2 8 240 16 = true := by decide +kernel
theorem Jsz : chk 3 2 0 9 = true := by decide +kernel
theorem Jsy : chk 3 3 0 27 = true := by decide +kernel
theorem Jsx : chk 3 4 0 64 = true := by decide +kernel
theorem Jn2 : chk 3 4 64 17 = true := by decide +kernel
theorem Jsw : chk 3 5 0 24 = true := by decide +kernel
theorem Jn1 : chk 3 5 24 24 = true := by decide +kernel
theorem Jn0 : chk 3 5 48 24 = true := by decide +kernel
theorem Jnz : chk 3 5 72 24 = true := by decide +kernel
theorem Jny : chk 3 5 96 24 = true := by decide +kernel
theorem Jlm : chk 3 5 120 24 = true := by decide +kernel
theorem Jll : chk 3 5 144 24 = true := by decide +kernel
theorem Jlk : chk 3 5 168 24 = true := by decide +kernel
theorem Jlj : chk 3 5 192 24 = true := by decide +kernel
theorem Jli : chk 3 5 216 24 = true := by decide +kernel
theorem Jlh : chk 3 5 240 3 = true := by decide +kernel
theorem Jsv : chk 5 2 0 25 = true := by decide +kernel
theorem Jsu : chk 5 3 0 64 = true := by decide +kernel
theorem Jnx : chk 5 3 64 61 = true := by decide +kernel
theorem Jst : chk 7 2 0 49 = true := by decide +kernel
theorem Jn9 : chk 11 2 0 64 = true := by decide +kernel
theorem Jlu : chk 11 2 64 57 = true := by decide +kernel
theorem Jn8 : chk 13 2 0 64 = true := by decide +kernel
theorem Jlt : chk 13 2 64 64 = true := by decide +kernel
theorem Jjk : chk 13 2 128 41 = true := by decide +kernel
theorem chk1_0 : ([2, 3, 5, 7, 11, 13, 17, 19, 23, 29, 31, 37, 41, 43, 47, 53, 59, 61] : List Nat).all (fun p => Jnr p 1 [0]) = true := by decide +kernel
theorem chk1_1 : ([67, 71, 73, 79, 83, 89, 97, 101, 103, 107, 109, 113, 127, 131, 137, 139, 149, 151] : List Nat).all (fun p => Jnr p 1 [0]) = true := by decide +kernel
theorem chk1_2 : ([157, 163, 167, 173, 179, 181, 191, 193, 197, 199, 211, 223, 227, 229, 233, 239, 241, 251] : List Nat).all (fun p => Jnr p 1 [0]) = true := by decide +kernel
theorem gx_2_2 {v : Nat} (hv : v < 2 ^ 2) (hI : Irr 2 2 (dv 2 v)) : ∃ g, Gn (2 ^ 2) (Ju 2 2 (dv 2 v)) g := by
 have hv2 : v < 4 := hv; exact JW (by decide) (by decide) Js6 (by omega) (by omega) hv hI
theorem gx_2_3 {v : Nat} (hv : v < 2 ^ 3) (hI : Irr 2 3 (dv 2 v)) : ∃ g, Gn (2 ^ 3) (Ju 2 3 (dv 2 v)) g := by
 have hv2 : v < 8 := hv; exact JW (by decide) (by decide) Js5 (by omega) (by omega) hv hI
theorem gx_2_4 {v : Nat} (hv : v < 2 ^ 4) (hI : Irr 2 4 (dv 2 v)) : ∃ g, Gn (2 ^ 4) (Ju 2 4 (dv 2 v)) g := by
 have hv2 : v < 16 := hv; exact JW (by decide) (by decide) Js4 (by omega) (by omega) hv hI
theorem gx_2_5 {v : Nat} (hv : v < 2 ^ 5) (hI : Irr 2 5 (dv 2 v)) : ∃ g, Gn (2 ^ 5) (Ju 2 5 (dv 2 v)) g := by
 have hv2 : v < 32 := hv; exact JW (by decide) (by decide) Js3 (by omega) (by omega) hv hI
theorem gx_2_6 {v : Nat} (hv : v < 2 ^ 6) (hI : Irr 2 6 (dv 2 v)) : ∃ g, Gn (2 ^ 6) (Ju 2 6 (dv 2 v)) g := by
 have hv2 : v < 64 := hv; exact JW (by decide) (by decide) Js2 (by omega) (by omega) hv hI
theorem gx_2_7 {v : Nat} (hv : v < 2 ^ 7) (hI : Irr 2 7 (dv 2 v)) : ∃ g, Gn (2 ^ 7) (Ju 2 7 (dv 2 v)) g := by
 have hv2 : v < 128 := hv; rcases Nat.lt_or_ge v 64 with h | h
 .exact JW (by decide) (by decide) Js1 (by omega) (by omega) hv hI
 exact JW (by decide) (by decide) Jn7 (by omega) (by omega) hv hI
theorem gx_2_8 {v : Nat} (hv : v < 2 ^ 8) (hI : Irr 2 8 (dv 2 v)) : ∃ g, Gn (2 ^ 8) (Ju 2 8 (dv 2 v)) g := by
 have hv2 : v < 256 := hv; rcases Nat.lt_or_ge v 24 with h | h
 .exact JW (by decide) (by decide) Js0 (by omega) (by omega) hv hI
 rcases Nat.lt_or_ge v 48 with h | h
 .exact JW (by decide) (by decide) Jn6 (by omega) (by omega) hv hI
 rcases Nat.lt_or_ge v 72 with h | h
 .exact JW (by decide) (by decide) Jn5 (by omega) (by omega) hv hI
 rcases Nat.lt_or_ge v 96 with h | h
 .exact JW (by decide) (by decide) Jn4 (by omega) (by omega) hv hI
 rcases Nat.lt_or_ge v 120 with h | h
 .exact JW (by decide) (by decide) Jn3 (by omega) (by omega) hv hI
 rcases Nat.lt_or_ge v 144 with h | h
 .exact JW (by decide) (by decide) Jls (by omega) (by omega) hv hI
 rcases Nat.lt_or_ge v 168 with h | h
 .exact JW (by decide) (by decide) Jlr (by omega) (by omega) hv hI
 rcases Nat.lt_or_ge v 192 with h | h
 .exact JW (by decide) (by decide) Jlq (by omega) (by omega) hv hI
 rcases Nat.lt_or_ge v 216 with h | h
 .exact JW (by decide) (by decide) Jlp (by omega) (by omega) hv hI
 rcases Nat.lt_or_ge v 240 with h | h
 .exact JW (by decide) (by decide) Jlo (by omega) (by omega) hv hI
 exact JW (by decide) (by decide) Jln (by omega) (by omega) hv hI
theorem gx_3_2 {v : Nat} (hv : v < 3 ^ 2) (hI : Irr 3 2 (dv 3 v)) : ∃ g, Gn (3 ^ 2) (Ju 3 2 (dv 3 v)) g := by
 have hv2 : v < 9 := hv; exact JW (by decide) (by decide) Jsz (by omega) (by omega) hv hI
theorem gx_3_3 {v : Nat} (hv : v < 3 ^ 3) (hI : Irr 3 3 (dv 3 v)) : ∃ g, Gn (3 ^ 3) (Ju 3 3 (dv 3 v)) g := by
 have hv2 : v < 27 := hv; exact JW (by decide) (by decide) Jsy (by omega) (by omega) hv hI
theorem gx_3_4 {v : Nat} (hv : v < 3 ^ 4) (hI : Irr 3 4 (dv 3 v)) : ∃ g, Gn (3 ^ 4) (Ju 3 4 (dv 3 v)) g := by
 have hv2 : v < 81 := hv; rcases Nat.lt_or_ge v 64 with h | h
 .exact JW (by decide) (by decide) Jsx (by omega) (by omega) hv hI
 exact JW (by decide) (by decide) Jn2 (by omega) (by omega) hv hI
theorem gx_3_5 {v : Nat} (hv : v < 3 ^ 5) (hI : Irr 3 5 (dv 3 v)) : ∃ g, Gn (3 ^ 5) (Ju 3 5 (dv 3 v)) g := by
 have hv2 : v < 243 := hv; rcases Nat.lt_or_ge v 24 with h | h
 .exact JW (by decide) (by decide) Jsw (by omega) (by omega) hv hI
 rcases Nat.lt_or_ge v 48 with h | h
 .exact JW (by decide) (by decide) Jn1 (by omega) (by omega) hv hI
 rcases Nat.lt_or_ge v 72 with h | h
 .exact JW (by decide) (by decide) Jn0 (by omega) (by omega) hv hI
 rcases Nat.lt_or_ge v 96 with h | h
 .exact JW (by decide) (by decide) Jnz (by omega) (by omega) hv hI
 rcases Nat.lt_or_ge v 120 with h | h
 .exact JW (by decide) (by decide) Jny (by omega) (by omega) hv hI
 rcases Nat.lt_or_ge v 144 with h | h
 .exact JW (by decide) (by decide) Jlm (by omega) (by omega) hv hI
 rcases Nat.lt_or_ge v 168 with h | h
 .exact JW (by decide) (by decide) Jll (by omega) (by omega) hv hI
 rcases Nat.lt_or_ge v 192 with h | h
 .exact JW (by decide) (by decide) Jlk (by omega) (by omega) hv hI
 rcases Nat.lt_or_ge v 216 with h | h
 .exact JW (by decide) (by decide) Jlj (by omega) (by omega) hv hI
 rcases Nat.lt_or_ge v 240 with h | h
 .exact JW (by decide) (by decide) Jli (by omega) (by omega) hv hI
 exact JW (by decide) (by decide) Jlh (by omega) (by omega) hv hI
theorem gx_5_2 {v : Nat} (hv : v < 5 ^ 2) (hI : Irr 5 2 (dv 5 v)) : ∃ g, Gn (5 ^ 2) (Ju 5 2 (dv 5 v)) g := by
 have hv2 : v < 25 := hv; exact JW (by decide) (by decide) Jsv (by omega) (by omega) hv hI
theorem gx_5_3 {v : Nat} (hv : v < 5 ^ 3) (hI : Irr 5 3 (dv 5 v)) : ∃ g, Gn (5 ^ 3) (Ju 5 3 (dv 5 v)) g := by
 have hv2 : v < 125 := hv; rcases Nat.lt_or_ge v 64 with h | h
 .exact JW (by decide) (by decide) Jsu (by omega) (by omega) hv hI
 exact JW (by decide) (by decide) Jnx (by omega) (by omega) hv hI
theorem gx_7_2 {v : Nat} (hv : v < 7 ^ 2) (hI : Irr 7 2 (dv 7 v)) : ∃ g, Gn (7 ^ 2) (Ju 7 2 (dv 7 v)) g := by
 have hv2 : v < 49 := hv; exact JW (by decide) (by decide) Jst (by omega) (by omega) hv hI
theorem Jz4 {v : Nat} (hv : v < 11 ^ 2) (hI : Irr 11 2 (dv 11 v)) : ∃ g, Gn (11 ^ 2) (Ju 11 2 (dv 11 v)) g := by
 have hv2 : v < 121 := hv; rcases Nat.lt_or_ge v 64 with h | h
 .exact JW (by decide) (by decide) Jn9 (by omega) (by omega) hv hI
 exact JW (by decide) (by decide) Jlu (by omega) (by omega) hv hI
theorem Jz3 {v : Nat} (hv : v < 13 ^ 2) (hI : Irr 13 2 (dv 13 v)) : ∃ g, Gn (13 ^ 2) (Ju 13 2 (dv 13 v)) g := by
 have hv2 : v < 169 := hv; rcases Nat.lt_or_ge v 64 with h | h
 .exact JW (by decide) (by decide) Jn8 (by omega) (by omega) hv hI
 rcases Nat.lt_or_ge v 128 with h | h
 .exact JW (by decide) (by decide) Jlt (by omega) (by omega) hv hI
 exact JW (by decide) (by decide) Jjk (by omega) (by omega) hv hI
noncomputable def prL : List Nat := [2, 3, 5, 7, 11, 13, 17, 19, 23, 29, 31, 37, 41, 43, 47, 53, 59, 61, 67, 71, 73, 79, 83, 89, 97, 101, 103, 107, 109, 113, 127, 131, 137, 139, 149, 151, 157, 163, 167, 173, 179, 181, 191, 193, 197, 199, 211, 223, 227, 229, 233, 239, 241, 251]
theorem Jzj : (List.range 257).all (fun p => prL.contains p || Nat.blt p 2 || (List.range p).any (fun e => Nat.ble 2 e && Nat.beq (p % e) 0)) = true := by decide +kernel
theorem Jzi {p : Nat} (hp : IsLf p p) (h : p <= 256) : p ∈ prL := by
 have h1 := List.all_eq_true.1 Jzj p (List.mem_range.2 (by omega)); simp only [Bool.or_eq_true, List.contains_iff_mem, List.any_eq_true, List.mem_range, Bool.and_eq_true] at h1; rcases h1 with (h1 | h1) | ⟨e, he, h2, h3⟩
 .exact h1
 .have := hp.two; have := Nat.le_of_ble_eq_true h1; omega
 .have := hp.min e (Nat.le_of_ble_eq_true h2) (Nat.eq_of_beq_eq_true h3); omega
theorem gx_1 {p : Nat} (hp : IsLf p p) (h : p <= 256) : ∃ g, Gn (p ^ 1) (Ju p 1 (dv p 0)) g := by
 have hm := Jzi hp h; have hg : Jnr p 1 [0] = true := by
  unfold prL at hm; rw [show ([2, 3, 5, 7, 11, 13, 17, 19, 23, 29, 31, 37, 41, 43, 47, 53, 59, 61, 67, 71, 73, 79, 83, 89, 97, 101, 103, 107, 109, 113, 127, 131, 137, 139, 149, 151, 157, 163, 167, 173, 179, 181, 191, 193, 197, 199, 211, 223, 227, 229, 233, 239, 241, 251] : List Nat) = ([2, 3, 5, 7, 11, 13, 17, 19, 23, 29, 31, 37, 41, 43, 47, 53, 59, 61] : List Nat) ++ ([67, 71, 73, 79, 83, 89, 97, 101, 103, 107, 109, 113, 127, 131, 137, 139, 149, 151] : List Nat) ++ ([157, 163, 167, 173, 179, 181, 191, 193, 197, 199, 211, 223, 227, 229, 233, 239, 241, 251] : List Nat) from rfl] at hm; simp only [List.mem_append] at hm; rcases hm with (h | h) | h
  .exact List.all_eq_true.1 chk1_0 p h
  .exact List.all_eq_true.1 chk1_1 p h
  .exact List.all_eq_true.1 chk1_2 p h
 refine Jq0 hp.two (by decide) ⟨rfl, fun i hi => ?_⟩ hg; rw [show i = 0 by omega, Jgt]; simp [vz]
theorem Jwf {p m : Nat} (hp : IsLf p p) (hm : 2 <= m) (hq : p ^ m <= 256) : (p = 2 /\ m = 2) ∨ (p = 2 /\ m = 3) ∨ (p = 2 /\ m = 4) ∨ (p = 2 /\ m = 5) ∨ (p = 2 /\ m = 6) ∨ (p = 2 /\ m = 7) ∨ (p = 2 /\ m = 8) ∨ (p = 3 /\ m = 2) ∨ (p = 3 /\ m = 3) ∨ (p = 3 /\ m = 4) ∨ (p = 3 /\ m = 5) ∨ (p = 5 /\ m = 2) ∨ (p = 5 /\ m = 3) ∨ (p = 7 /\ m = 2) ∨ (p = 11 /\ m = 2) ∨ (p = 13 /\ m = 2) := by
  have h2 := hp.two
  have hpow : ∀ k, k <= m -> p ^ k <= 256 := fun k hk => Nat.le_trans (Nat.pow_le_pow_right (by omega) hk) hq
  have hp2 : p <= 16 := by
    rcases Nat.lt_or_ge 16 p with h | h
    . have h1 := hpow 2 hm
      have h3 : 17 ^ 2 <= p ^ 2 := Nat.pow_le_pow_left h 2
      omega
    . exact h
  have hnd : ∀ e, 2 <= e -> e < p -> p % e ≠ 0 := fun e he hlt h0 => by have := hp.min e he h0; omega
  have hc : p = 2 ∨ p = 3 ∨ p = 5 ∨ p = 7 ∨ p = 11 ∨ p = 13 := by
    have h3 := hnd 2 (by omega)
    have h4 := hnd 3 (by omega)
    omega
  rcases hc with rfl | rfl | rfl | rfl | rfl | rfl
  . have : m <= 8 := by
      rcases Nat.lt_or_ge 8 m with h | h
      . have := hpow 9 h; omega
      . exact h
    omega
  . have : m <= 5 := by
      rcases Nat.lt_or_ge 5 m with h | h
      . have := hpow 6 h; omega
      . exact h
    omega
  . have : m <= 3 := by
      rcases Nat.lt_or_ge 3 m with h | h
      . have := hpow 4 h; omega
      . exact h
    omega
  . have : m <= 2 := by
      rcases Nat.lt_or_ge 2 m with h | h
      . have := hpow 3 h; omega
      . exact h
    omega
  . have : m <= 2 := by
      rcases Nat.lt_or_ge 2 m with h | h
      . have := hpow 3 h; omega
      . exact h
    omega
  . have : m <= 2 := by
      rcases Nat.lt_or_ge 2 m with h | h
      . have := hpow 3 h; omega
      . exact h
    omega
theorem gen_ex {p m v : Nat} (hp : IsLf p p) (hm : 0 < m) (hq : p ^ m <= 256) (hv : v < p ^ m) (h1 : m = 1 -> v = 0) (hI : Irr p m (dv p v)) : ∃ g, Gn (p ^ m) (Ju p m (dv p v)) g := by
  rcases Nat.lt_or_ge m 2 with h | h
  . have : m = 1 := by omega
    subst this
    rw [h1 rfl]
    exact gx_1 hp (by simpa using hq)
  . rcases Jwf hp h hq with ⟨rfl, rfl⟩ | ⟨rfl, rfl⟩ | ⟨rfl, rfl⟩ | ⟨rfl, rfl⟩ | ⟨rfl, rfl⟩ | ⟨rfl, rfl⟩ | ⟨rfl, rfl⟩ | ⟨rfl, rfl⟩ | ⟨rfl, rfl⟩ | ⟨rfl, rfl⟩ | ⟨rfl, rfl⟩ | ⟨rfl, rfl⟩ | ⟨rfl, rfl⟩ | ⟨rfl, rfl⟩ | ⟨rfl, rfl⟩ | ⟨rfl, rfl⟩
    . exact gx_2_2 hv hI
    . exact gx_2_3 hv hI
    . exact gx_2_4 hv hI
    . exact gx_2_5 hv hI
    . exact gx_2_6 hv hI
    . exact gx_2_7 hv hI
    . exact gx_2_8 hv hI
    . exact gx_3_2 hv hI
    . exact gx_3_3 hv hI
    . exact gx_3_4 hv hI
    . exact gx_3_5 hv hI
    . exact gx_5_2 hv hI
    . exact gx_5_3 hv hI
    . exact gx_7_2 hv hI
    . exact Jz4 hv hI
    . exact Jz3 hv hI
end Go.Proofs.YtngdhnijkgjhcaaGreat
set_option linter.unusedVariables false
set_option linter.unusedSimpArgs false
namespace Go.Proofs.YtngdhnijkgjhcaaGreat
def vo (l : List Int) : Vec := fun i => l.getD i 0
theorem J3 (l : List Int) (i : Nat) : gi l (i : Int) = vo l i := rfl
theorem QM (l : List Int) (i : Nat) (x : Int) : si l (i : Int) x = l.set i x := rfl
theorem Jer (a b : Nat) : (a : Int).tmod (b : Int) = ((a % b : Nat) : Int) := rfl
theorem Jvv (a b : Nat) : (a : Int).tdiv (b : Int) = ((a / b : Nat) : Int) := rfl
theorem Qw (l : List Int) (i j : Nat) (x : Int) : vo (l.set i x) j = if i = j /\ i < l.length then x else vo l j := by
 unfold vo; rw [List.getD_eq_getElem?_getD, List.getD_eq_getElem?_getD, List.getElem?_set]; by_cases h : i = j
 .subst h; by_cases h2 : i < l.length
  .simp [h2]
  .simp [h2]
 .simp [h]
theorem Jmr (n : Nat) (i : Nat) : vo (List.replicate n (0 : Int)) i = 0 := by
 unfold vo; rw [List.getD_eq_getElem?_getD, List.getElem?_replicate]; split <;> rfl
theorem Jch {l : List Int} {i : Nat} (h : l.length <= i) : vo l i = 0 := by
 unfold vo; rw [List.getD_eq_getElem?_getD, List.getElem?_eq_none h]; rfl
theorem Yb {l o : List Int} (h : l.length = o.length) (hv : ∀ i, i < l.length -> vo l i = vo o i) : l = o := by
 refine List.ext_getElem h fun i h1 h2 => ?_; have := hv i h1; unfold vo at this; rw [List.getD_eq_getElem?_getD, List.getD_eq_getElem?_getD, List.getElem?_eq_getElem h1, List.getElem?_eq_getElem h2] at this; exact this
theorem JE {x : Int} (h : -1000000000000 <= x) (h2 : x <= 1000000000000) : I64 x := ⟨by omega, by omega⟩
theorem Jf0 {n : Nat} (h : n <= 1000000000000) : I64 (n : Int) := JE (by omega) (by omega)
def dgi (p n x : Nat) : List Int := (dgl p n x).map fun (a : Nat) => (a : Int)
theorem Qu (p n x : Nat) : (dgi p n x).length = n := by simp [dgi, Yj]
theorem Y9 {p n x i : Nat} (h : i < n) : vo (dgi p n x) i = dv p x i := by
 rw [<- Jej p n x i h]; unfold vo dgi; rw [List.getD_eq_getElem?_getD, List.getElem?_map, List.getD_eq_getElem?_getD]; rw [List.getElem?_eq_getElem (by rw [Yj]; exact h)]; rfl
theorem Jvs {b : Bool} {Q : Int -> Prop} (h : Q (if b = true then 0 else 1)) : Jg7 b Q := by
 cases b
 .exact ⟨fun h' => absurd h' (by decide), fun _ => h⟩
 .exact ⟨fun _ => h, fun h' => absurd h' (by decide)⟩
theorem Jzz {n k : Nat} (hn : 2 <= n) (hk : n < k * k) (h : ∀ e, e < k -> 2 <= e -> n % e ≠ 0) : IsLf n n := by
 refine ⟨hn, Nat.mod_self n, fun e he hm => ?_⟩; rcases Nat.lt_or_ge e k with hc | hc
 .exact absurd hm (h e hc he)
 .obtain ⟨t, ht⟩ := Nat.dvd_of_mod_eq_zero hm; have hq1 : t < k := by
   rcases Nat.lt_or_ge t k with h1 | h1
   .exact h1
   .have := Nat.mul_le_mul hc h1; omega
  rcases Nat.lt_or_ge t 2 with h2 | h2
  .have : t = 0 ∨ t = 1 := by omega
   rcases this with rfl | rfl
   .omega
   .omega
  .exact absurd (Nat.mod_eq_zero_of_dvd ⟨e, by rw [ht, Nat.mul_comm]⟩) (h t hq1 h2)
theorem Jfs {x : Nat} {Q : Int -> Prop} (h2 : 2 <= x) (hx : x <= 256) (h : ∀ d : Nat, IsLf x d -> Q d) : YG x Q := by
 refine ⟨fun z => ∃ k : Nat, z = k /\ 2 <= k /\ k <= 17 /\ ∀ e, e < k -> 2 <= e -> x % e ≠ 0, fun z => (20 - z).toNat, ⟨2, rfl, by omega, by omega, fun e _ _ => by omega⟩, ?_⟩; rintro _ ⟨k, rfl, hk2, hk, hm⟩; dsimp only; have e1 : ((k : Nat) : Int) * (k : Int) = ((k * k : Nat) : Int) := by push_cast; rfl
 have hb : k * k <= 17 * 17 := Nat.mul_le_mul hk hk; rw [e1]; refine ⟨JE (by omega) (by omega), fun hle => ⟨by omega, ?_, ?_⟩, fun hgt => ?_⟩
 .intro h0; rw [Jer] at h0; refine h k ⟨hk2, by omega, fun e he h3 => ?_⟩; rcases Nat.lt_or_ge e k with hc | hc
  .exact absurd h3 (hm e hc he)
  .exact hc
 .intro h0; rw [Jer] at h0; have hk16 : k <= 16 := by
   rcases Nat.lt_or_ge 16 k with hc | hc
   .have := Nat.mul_le_mul hc hc; omega
   .exact hc
  refine ⟨JE (by omega) (by omega), ⟨k + 1, by push_cast; rfl, by omega, by omega, fun e he h3 => ?_⟩, by omega⟩; rcases Nat.lt_or_ge e k with hc | hc
  .exact hm e hc h3
  .rw [show e = k by omega]; omega
 .exact h x (Jzz h2 (by omega) hm)
theorem IsLf.uniq {n d e : Nat} (h : IsLf n d) (h' : IsLf n e) : d = e := Nat.le_antisymm (h.min e h'.two h'.dvd) (h'.min d h.two h.dvd)
theorem Jr4 {x : Int} {Q : Bool -> Prop} (hx : x <= 256) (h : ∀ b : Bool, (b = true ↔ 2 <= x /\ IsLf x.toNat x.toNat) -> Q b) : Jb7 x Q := by
 refine ⟨fun h2 => ?_, fun h2 => h false ⟨fun h' => by (cases h'), fun h' => absurd h'.1 h2⟩⟩; obtain ⟨n, rfl⟩ := Int.eq_ofNat_of_zero_le (show 0 <= x by omega); refine Jfs (by omega) (by omega) fun d hd => h _ ?_; rw [decide_eq_true_iff, Int.toNat_natCast]; constructor
 .intro he; have : d = n := by omega
  subst this; exact ⟨h2, hd⟩
 .rintro ⟨_, hn⟩; rw [hd.uniq hn]
theorem Jvp {x : Nat} {Q : Bool -> Prop} (h2 : 2 <= x) (hx : x <= 256) (h : ∀ b : Bool, (b = true ↔ IsLf x x) -> Q b) : Jds x Q := by
 refine ⟨fun z => ∃ k : Nat, z = k /\ 2 <= k /\ k <= x /\ ∀ e, e < k -> 2 <= e -> x % e ≠ 0, fun z => (x - z).toNat, ⟨2, rfl, by omega, by omega, fun e _ _ => by omega⟩, ?_⟩; rintro _ ⟨k, rfl, hk2, hk, hm⟩; dsimp only; refine ⟨fun hlt => ⟨by omega, fun h0 => ?_, fun h0 => ?_⟩, fun hge => ?_⟩
 .rw [Jer] at h0; refine h false ⟨fun h' => by (cases h'), fun hp => ?_⟩; have := hp.min k hk2 (by omega); omega
 .rw [Jer] at h0; refine ⟨JE (by omega) (by omega), ⟨k + 1, by push_cast; rfl, by omega, by omega, fun e he h3 => ?_⟩, by omega⟩; rcases Nat.lt_or_ge e k with hc | hc
  .exact hm e hc h3
  .rw [show e = k by omega]; omega
 .refine h true ⟨fun _ => ⟨h2, Nat.mod_self x, fun e he h0 => ?_⟩, fun _ => rfl⟩; rcases Nat.lt_or_ge e x with hc | hc
  .exact absurd h0 (hm e (by omega) he)
  .exact hc
theorem QG {p a b : Nat} (hp : 0 < p) (h : a <= b) : p ^ a <= p ^ b := Nat.pow_le_pow_right hp h
theorem Jik {p : Nat} {M : Int} {mf : List Int} {Q : Int -> Prop} (hp : 2 <= p) (hp2 : p <= 256) (h : ∀ r : Int, (p ^ M.toNat <= 256 -> r = ((p ^ M.toNat : Nat) : Int)) -> (256 < p ^ M.toNat -> 256 < r) -> Q r) : Ja1 p M mf Q := by
 refine ⟨fun r => (p ^ M.toNat <= 256 -> r = ((p ^ M.toNat : Nat) : Int)) /\ (256 < p ^ M.toNat -> 256 < r), ⟨fun z i => ∃ k : Nat, i = k /\ k <= M.toNat /\ z = ((p ^ k : Nat) : Int) /\ p ^ k <= 65536 /\ k <= 16, fun z i => (20 - i).toNat, ⟨0, rfl, Nat.zero_le _, by simp, by simp, by omega⟩, ?_⟩, fun r hr => h r hr.1 hr.2⟩; rintro _ _ ⟨k, rfl, hk, rfl, hb, hk16⟩; dsimp only; refine ⟨fun hlt => ⟨fun hle => ?_, fun hgt => ?_⟩, fun hge => ?_⟩
 .have hk8 : p ^ k <= 256 := by omega
  have hkk : k < 16 := by
   rcases Nat.lt_or_ge k 16 with hc | hc
   .exact hc
   .have h1 := QG (p := p) (by omega) hc; have h2 : 2 ^ 16 <= p ^ 16 := Nat.pow_le_pow_left hp 16; omega
  have e1 : ((p ^ k : Nat) : Int) * (p : Int) = ((p ^ (k + 1) : Nat) : Int) := by rw [Nat.pow_succ]; push_cast; rfl
  have hb2 : p ^ (k + 1) <= 65536 := by
   rw [Nat.pow_succ]; have := Nat.mul_le_mul hk8 hp2; omega
  rw [e1]; exact ⟨JE (by omega) (by omega), JE (by omega) (by omega), ⟨k + 1, by push_cast; rfl, by omega, rfl, hb2, by omega⟩, by omega⟩
 .have := QG (p := p) (by omega) hk; exact ⟨fun h' => by omega, fun _ => by omega⟩
 .have : k = M.toNat := by omega
  subst this; exact ⟨fun _ => rfl, fun h' => by omega⟩
def Jhf (P M : Int) : Int := if 2 <= P /\ 1 <= M /\ P.toNat ^ M.toNat <= 256 then ((P.toNat ^ M.toNat : Nat) : Int) else 0
theorem Jkb {P M : Int} {mf : List Int} {Q : Int -> Prop} (h : Q (Jhf P M)) : Jbl P M mf Q := by
 refine ⟨fun h1 => ?_, fun h1 => ⟨fun h2 => ?_, fun h2 => ⟨fun h3 => ?_, fun h3 => ?_⟩⟩⟩
 .rw [Jhf, if_neg (by omega)] at h; exact h
 .rw [Jhf, if_neg (by omega)] at h; exact h
 .rw [Jhf, if_neg] at h
  .exact h
  .rintro ⟨h4, h5, h6⟩; have e1 : 2 ^ 9 <= P.toNat ^ 9 := Nat.pow_le_pow_left (by omega) 9; have e2 := QG (p := P.toNat) (by omega) (show 9 <= M.toNat by omega); omega
 .obtain ⟨p, rfl⟩ := Int.eq_ofNat_of_zero_le (show 0 <= P by omega); obtain ⟨m, rfl⟩ := Int.eq_ofNat_of_zero_le (show 0 <= M by omega); refine ⟨fun z i => ∃ k : Nat, i = k /\ k <= m /\ z = ((p ^ k : Nat) : Int) /\ p ^ k <= 256, fun z i => (20 - i).toNat, ⟨0, rfl, Nat.zero_le _, by simp, by simp⟩, ?_⟩; rintro _ _ ⟨k, rfl, hk, rfl, hb⟩; dsimp only; rw [show (256 : Int) = ((256 : Nat) : Int) from rfl, Jvv]; have hd : 256 / p <= 256 := Nat.div_le_self _ _; have hdm : ∀ a, a <= 256 / p ↔ a * p <= 256 := fun a => Nat.le_div_iff_mul_le (show 0 < p by omega); generalize 256 / p = D at *
  refine ⟨fun hlt => ⟨⟨by omega, JE (by omega) (by omega)⟩, fun hgt => ?_, fun hle => ?_⟩, fun hge => ?_⟩
  .rw [Jhf, if_neg] at h
   .exact h
   .rintro ⟨_, _, h6⟩; simp only [Int.toNat_natCast] at h6; have h7 : p ^ (k + 1) <= 256 := Nat.le_trans (QG (by omega) (by omega)) h6; rw [Nat.pow_succ] at h7; have := (hdm _).2 h7; omega
  .have h7 : p ^ (k + 1) <= 256 := by rw [Nat.pow_succ]; exact (hdm _).1 (by omega)
   have e1 : ((p ^ k : Nat) : Int) * (p : Int) = ((p ^ (k + 1) : Nat) : Int) := by rw [Nat.pow_succ]; push_cast; rfl
   rw [e1]; exact ⟨JE (by omega) (by omega), JE (by omega) (by omega), ⟨k + 1, by push_cast; rfl, by omega, rfl, h7⟩, by omega⟩
  .have : k = m := by omega
   subst this; rw [Jhf, if_pos ⟨by omega, by omega, by simpa using hb⟩] at h
   simpa using h
theorem Jdl (x p i : Nat) : x / p ^ i / p = x / p ^ (i + 1) := by rw [Nat.div_div_eq_div_mul, Nat.pow_succ]
theorem Jfu {p n x : Nat} {Q : List Int -> Prop} (hp : 0 < p) (hn : n <= 1000) (hx : x <= 1000) (h : Q (dgi p n x)) : Z6 p n x Q := by
 refine ⟨⟨by omega, by omega, by omega⟩, fun l z i => ∃ k : Nat, i = k /\ k <= n /\ z = ((x / p ^ k : Nat) : Int) /\ l.length = n /\ ∀ j, j < k -> vo l j = dv p x j, fun l z i => (n - i).toNat, ⟨0, rfl, Nat.zero_le _, by simp, by simp, fun j hj => by omega⟩, ?_⟩; rintro l _ _ ⟨k, rfl, hk, rfl, hl, hv⟩; dsimp only; have hd : x / p ^ k <= x := Nat.div_le_self _ _; have hd2 : x / p ^ k / p <= x / p ^ k := Nat.div_le_self _ _; rw [Jvv, Jer, QM]; simp only [Int.toNat_natCast]; refine ⟨fun hlt => ⟨by omega, ⟨by omega, by omega⟩, ⟨by omega, Jf0 (by omega)⟩, JE (by omega) (by omega), ⟨k + 1, by push_cast; rfl, by omega, by rw [Jdl], by rw [List.length_set, hl], fun j hj => ?_⟩, by omega⟩, fun hge => ?_⟩
 .rw [Qw]; by_cases hjk : k = j
  .subst hjk; rw [if_pos ⟨rfl, by omega⟩]; rfl
  .rw [if_neg (by omega)]; exact hv j (by omega)
 .have : l = dgi p n x := Yb (by rw [hl, Qu]) fun j hj => by rw [hv j (by omega), Y9 (by omega)]
  rw [this]; exact h
theorem Jr2 {p n x : Nat} {Q : List Int -> Prop} (hp : 0 < p) (hn : n <= 1000) (hx : x <= 1000) (h : Q (dgi p n x)) : Jb4 x p n Q := by
 refine ⟨⟨by omega, by omega, by omega⟩, fun l z i => ∃ k : Nat, i = k /\ k <= n /\ z = ((x / p ^ k : Nat) : Int) /\ l.length = n /\ ∀ j, j < k -> vo l j = dv p x j, fun l z i => (n - i).toNat, ⟨0, rfl, Nat.zero_le _, by simp, by simp, fun j hj => by omega⟩, ?_⟩; rintro l _ _ ⟨k, rfl, hk, rfl, hl, hv⟩; dsimp only; have hd : x / p ^ k <= x := Nat.div_le_self _ _; have hd2 : x / p ^ k / p <= x / p ^ k := Nat.div_le_self _ _; rw [Jvv, Jer, QM]; simp only [Int.toNat_natCast]; refine ⟨fun hlt => ⟨by omega, ⟨by omega, by omega⟩, ⟨by omega, Jf0 (by omega)⟩, JE (by omega) (by omega), ⟨k + 1, by push_cast; rfl, by omega, by rw [Jdl], by rw [List.length_set, hl], fun j hj => ?_⟩, by omega⟩, fun hge => ?_⟩
 .rw [Qw]; by_cases hjk : k = j
  .subst hjk; rw [if_pos ⟨rfl, by omega⟩]; rfl
  .rw [if_neg (by omega)]; exact hv j (by omega)
 .have : l = dgi p n x := Yb (by rw [hl, Qu]) fun j hj => by rw [hv j (by omega), Y9 (by omega)]
  rw [this]; exact h
theorem Jka {p m x : Nat} {mf : List Int} {Q : Int -> Prop} (hp : 2 <= p) (hp2 : p <= 256) (hx : x <= 256) (h : Q ((if x % p = p - 1 then x - x % p else x + 1 : Nat) : Int)) : ZJ p m mf x Q := by
 have hm := Nat.mod_lt x (show 0 < p by omega); have hm2 := Nat.mod_le x p; refine ⟨by omega, JE (by omega) (by omega), fun h0 => ⟨by omega, ?_⟩, fun h0 => ?_⟩
 .rw [Jer] at h0 ⊢; rw [if_pos (by omega)] at h; refine ⟨JE (by omega) (by omega), ?_⟩; rw [show (x : Int) - ((x % p : Nat) : Int) = ((x - x % p : Nat) : Int) by omega]; exact h
 .rw [Jer] at h0; rw [if_neg (by omega)] at h; exact ⟨JE (by omega) (by omega), by push_cast at h ⊢; exact h⟩
theorem Jc8 {l : List Int} {Q : List Int -> Prop} (hl : l.length <= 1000000) (h : Q l) : Zj l Q := by
 intro b hb; refine ⟨fun h1 => by rw [<- hb h1]; exact h, fun _ => ⟨by omega, by simpa using h⟩⟩
end Go.Proofs.YtngdhnijkgjhcaaGreat
set_option linter.unusedVariables false
set_option linter.unusedSimpArgs false
namespace Go.Proofs.YtngdhnijkgjhcaaGreat
theorem Jb0 {l : List Int} {f : Int -> Bool} : l.any f = true ↔ ∃ i, i < l.length /\ f (vo l i) = true := by
  rw [List.any_eq_true]
  constructor
  . rintro ⟨x, hx, hf⟩
    obtain ⟨i, hi, rfl⟩ := List.mem_iff_getElem.1 hx
    refine ⟨i, hi, ?_⟩
    unfold vo; rw [List.getD_eq_getElem?_getD, List.getElem?_eq_getElem hi]; exact hf
  . rintro ⟨i, hi, hf⟩
    unfold vo at hf
    rw [List.getD_eq_getElem?_getD, List.getElem?_eq_getElem hi] at hf
    exact ⟨l[i], List.getElem_mem hi, hf⟩
theorem Jcq {l : List Int} {p : Int -> (Bool -> Prop) -> Prop} {f : Int -> Bool} {Q : Bool -> Prop} (hl : l.length <= 1000000000) (hp : ∀ x (R : Bool -> Prop), R (f x) -> p x R) (h : Q (l.any f)) : Q7 l p Q := by
 refine ⟨fun z => ∃ k : Nat, z = k /\ k <= l.length /\ ∀ j, j < k -> f (vo l j) = false, fun z => (l.length - z).toNat, ⟨0, rfl, Nat.zero_le _, fun j hj => by omega⟩, ?_⟩; rintro _ ⟨k, rfl, hk, hv⟩; dsimp only; refine ⟨fun hlt => ⟨⟨by omega, by omega⟩, hp _ _ ⟨fun hb => ?_, fun hb => ⟨JE (by omega) (by omega), ⟨k + 1, by push_cast; rfl, by omega, fun j hj => ?_⟩, by omega⟩⟩⟩, fun hge => ?_⟩
 .rw [Jb0.2 ⟨k, by omega, hb⟩] at h; rw [decide_eq_true (by omega)]; exact h
 .rw [J3] at hb; by_cases hjk : j = k
  .subst hjk; exact hb
  .exact hv j (by omega)
 .have : l.any f = false := by
   cases hb : l.any f with
   | false => rfl
   | true =>
    obtain ⟨i, hi, hf⟩ := Jb0.1 hb; rw [hv i (by omega)] at hf; cases hf
  rw [this] at h; exact h
theorem Jm4 {p : Nat} {a l c : Int} (hp : 0 < p) (ha : 0 <= a) (hl : l <= p) (hc : 0 <= c) : (a + ((p : Int) - l) * c).tmod p = (a - l * c) % (p : Int) := by
 have h1 : 0 <= ((p : Int) - l) * c := Int.mul_nonneg (by omega) hc; rw [Int.tmod_eq_emod_of_nonneg (by omega)]; have : a + ((p : Int) - l) * c = (a - l * c) + p * c := by rw [Int.sub_mul]; omega
 rw [this, Int.add_mul_emod_self_left]
theorem Jm3 {p d n : Nat} {l R : Vec} (hp : 0 < p) {N : Nat} (hR : Cn p N R) : ∀ k, Cn p N (rem p d l R n k)
 | 0 => hR
 | k + 1 => fun j hj => by
  show 0 <= rst _ _ _ _ _ j /\ rst _ _ _ _ _ j < _; unfold rst; split
  .exact ⟨Int.emod_nonneg _ (by omega), Int.emod_lt_of_pos _ (by omega)⟩
  .exact Jm3 hp hR k j hj
theorem Jgz {a b : Int} {p : Nat} (hp : p <= 256) (ha : 0 <= a /\ a <= p) (hb : 0 <= b /\ b <= p) : 0 <= a * b /\ a * b <= 65536 := by
 obtain ⟨x, rfl⟩ := Int.eq_ofNat_of_zero_le ha.1; obtain ⟨y, rfl⟩ := Int.eq_ofNat_of_zero_le hb.1; have : x * y <= 256 * 256 := Nat.mul_le_mul (by omega) (by omega); have e : ((x : Int)) * (y : Int) = ((x * y : Nat) : Int) := by push_cast; rfl
 rw [e]; omega
theorem Jqb {l : List Int} {n i : Nat} (h : i < n) : vo (l.take n) i = vo l i := by
 unfold vo; rw [List.getD_eq_getElem?_getD, List.getD_eq_getElem?_getD, List.getElem?_take, if_pos h]
theorem Jht {p : Nat} {l o : List Int} {Q : Bool -> Prop} (hp : 0 < p) (hp2 : p <= 256) (hl : Cn p l.length (vo l)) (ho : Cn p o.length (vo o)) (hd : 0 < l.length) (hdn : l.length <= o.length) (hn : o.length <= 1000)
  (h : ∀ b : Bool, (b = true ↔ Dvd p l.length (vo l) (vo o) o.length) -> Q b) : Z5 p l o Q := by
 refine Jc8 (by omega) ⟨JE (by omega) (by omega), ?_⟩; generalize hdd : l.length = d at *
 generalize hnn : o.length = n at *
 refine ⟨fun x z => ∃ k : Nat, z = (n : Int) - 1 - k /\ k <= n - d /\ x.length = n /\ ∀ j, j < n -> vo x j = rem p d (vo l) (vo o) n k j, fun x z => (z + 1).toNat, ⟨0, by omega, by omega, hnn, fun j _ => rfl⟩, ?_⟩; rintro x _ ⟨k, rfl, hk, hx, hv⟩; dsimp only; have hc := Jm3 (d := d) (l := vo l) (n := n) hp ho k; refine ⟨fun hle => ?_, fun hgt => ?_⟩
 .obtain ⟨i, hi⟩ : ∃ i : Nat, (n : Int) - 1 - k = i := ⟨n - 1 - k, by omega⟩
  rw [hi]; have hin : i = n - 1 - k := by omega
  refine ⟨fun y z => ∃ t : Nat, z = t /\ t <= d /\ y.length = n /\ ∀ j, j < n -> vo y j = if i <= j + d /\ j + d < i + t then rem p d (vo l) (vo o) n (k + 1) j else rem p d (vo l) (vo o) n k j, fun y z => (d - z).toNat, ⟨0, rfl, Nat.zero_le _, hx, fun j hj => by rw [if_neg (by omega)]; exact hv j hj⟩, ?_⟩; rintro y _ ⟨t, rfl, ht, hy, hw⟩; dsimp only; have e1 : (i : Int) - (d : Int) + (t : Int) = ((i - d + t : Nat) : Int) := by omega
  rw [e1, J3, J3, J3, QM]; have hyi : vo y i = rem p d (vo l) (vo o) n k i := by rw [hw i (by omega), if_neg (by omega)]
  refine ⟨fun hlt => ?_, fun hge => ?_⟩
  .have hyj : vo y (i - d + t) = rem p d (vo l) (vo o) n k (i - d + t) := by rw [hw _ (by omega), if_neg (by omega)]
   have c1 := hl t (by omega); have c2 := hc i (by omega); have c3 := hc (i - d + t) (by omega); rw [hyi, hyj]; have c4 := Jgz (a := (p : Int) - vo l t) (b := rem p d (vo l) (vo o) n k i) hp2 ⟨by omega, by omega⟩ ⟨c2.1, by omega⟩; refine ⟨⟨by omega, by omega⟩, JE (by omega) (by omega), JE (by omega) (by omega), ⟨by omega, by omega⟩, JE (by omega) (by omega), ⟨by omega, by omega⟩, JE (by omega) (by omega), JE (by omega) (by omega), by omega, ⟨by omega, by omega⟩, JE (by omega) (by omega), ⟨t + 1, by push_cast; rfl, by omega, by rw [List.length_set, hy], fun j hj => ?_⟩, by omega⟩; rw [Qw]; by_cases hjt : i - d + t = j
   .subst hjt; rw [if_pos ⟨rfl, by omega⟩, if_pos (by omega), Jm4 hp c3.1 (by omega) c2.1]; show _ = rst p d (n - 1 - k) (vo l) (rem p d (vo l) (vo o) n k) (i - d + t); unfold rst; rw [<- hin, if_pos (by omega), show i - d + t + d - i = t by omega]
   .rw [if_neg (fun h => hjt h.1), hw j hj]; by_cases hc2 : i <= j + d /\ j + d < i + t
    .rw [if_pos hc2, if_pos (by omega)]
    .rw [if_neg hc2, if_neg (by omega)]
  .refine ⟨JE (by omega) (by omega), ⟨k + 1, by omega, by omega, hy, fun j hj => ?_⟩, by omega⟩; rw [hw j hj]; have htd : t = d := by omega
   by_cases hc2 : i <= j + d /\ j + d < i + t
   .rw [if_pos hc2]
   .rw [if_neg hc2]; show _ = rst p d (n - 1 - k) (vo l) (rem p d (vo l) (vo o) n k) j; unfold rst; rw [<- hin, if_neg (by omega)]
 .refine ⟨⟨by omega, by omega⟩, Jcq (f := fun x => decide (x ≠ 0)) (by rw [List.length_take]; omega) (fun x R hR => hR) (h _ ?_)⟩; have hkk : k = n - d := by omega
  have hlen : (x.take (d : Int).toNat).length = d := by rw [List.length_take]; omega
  rw [Bool.not_eq_true']; constructor
  .intro hb j hj; have h2 : ¬ (x.take (d : Int).toNat).any (fun x => decide (x ≠ 0)) = true := by rw [hb]; decide
   rw [Jb0] at h2; have h3 : decide (vo (x.take (d : Int).toNat) j ≠ 0) = false := by
    cases hc3 : decide (vo (x.take (d : Int).toNat) j ≠ 0) with
    | false => rfl
    | true => exact absurd ⟨j, by omega, hc3⟩ h2
   rw [Jqb (by simpa using hj), hv j (by omega), hkk] at h3; have h4 := of_decide_eq_false h3; omega
  .intro hD; cases hb : (x.take (d : Int).toNat).any (fun x => decide (x ≠ 0)) with
   | false => rfl
   | true =>
    obtain ⟨i, hi, hf⟩ := Jb0.1 hb; rw [Jqb (by simpa using (by omega : i < d)), hv i (by omega), hkk, hD i (by omega)] at hf; exact absurd hf (by decide)
theorem Je4 (o : List Int) : vo (o ++ [(1 : Int)]) = fun i => if i = o.length then 1 else vo o i := by
 funext i; unfold vo; rw [List.getD_eq_getElem?_getD, List.getD_eq_getElem?_getD]; rcases Nat.lt_trichotomy i o.length with h | h | h
 .rw [List.getElem?_append_left h, if_neg (by omega)]
 .subst h; simp
 .rw [if_neg (by omega), List.getElem?_eq_none (by simp; omega), List.getElem?_eq_none (by omega)]
theorem Jqe {p : Nat} {o : List Int} (hp : 2 <= p) (ho : Cn p o.length (vo o)) : Cn p (o.length + 1) (vo (o ++ [(1 : Int)])) := fun i hi => by
 rw [Je4]; dsimp only; split
 .omega
 .exact ho i (by omega)
theorem Jmu {p : Nat} {l o : List Int} {Q : Bool -> Prop} (hp : 2 <= p) (hp2 : p <= 256) (hl : Cn p l.length (vo l)) (ho : Cn p o.length (vo o)) (hd : 0 < l.length) (hdn : l.length <= o.length) (hn : o.length <= 1000)
  (h : ∀ b : Bool, (b = true ↔ Dvd p l.length (vo l) (fun i => if i = o.length then 1 else vo o i) (o.length + 1)) -> Q b) : Zt l o p Q := by
 unfold Zt; simp only [List.nil_append]; rw [<- Je4] at h; have hcR := Jqe hp ho; have hnn : (o ++ [(1 : Int)]).length = o.length + 1 := by simp
 refine ⟨by omega, by omega, JE (by omega) (by omega), ?_⟩; generalize hdd : l.length = d at *
 generalize hN : o.length + 1 = n at *
 generalize hoo : o ++ [(1 : Int)] = r at *
 refine ⟨fun x z => ∃ k : Nat, z = (n : Int) - 1 - k /\ k <= n - d /\ x.length = n /\ ∀ j, j < n -> vo x j = if j + k < n then rem p d (vo l) (vo r) n k j else 0, fun x z => (z + 1).toNat, ⟨0, by omega, by omega, hnn, fun j hj => by rw [if_pos (by omega)]; rfl⟩, ?_⟩; rintro x _ ⟨k, rfl, hk, hx, hv⟩; dsimp only; have hc := Jm3 (d := d) (l := vo l) (n := n) (p := p) (by omega) hcR k; refine ⟨fun hle => ⟨⟨by omega, by omega⟩, ?_⟩, fun hgt => ?_⟩
 .obtain ⟨i, hi⟩ : ∃ i : Nat, (n : Int) - 1 - k = i := ⟨n - 1 - k, by omega⟩
  rw [hi]; have hin : i = n - 1 - k := by omega
  have hxi : vo x i = rem p d (vo l) (vo r) n k i := by rw [hv i (by omega), if_pos (by omega)]
  refine ⟨fun y z => ∃ t : Nat, z = t /\ t <= d /\ y.length = n /\ ∀ j, j < n -> vo y j = if i <= j + d /\ j + d < i + t then rem p d (vo l) (vo r) n (k + 1) j else vo x j, fun y z => (d - z).toNat, ⟨0, rfl, Nat.zero_le _, hx, fun j hj => by rw [if_neg (by omega)]⟩, ?_⟩; rintro y _ ⟨t, rfl, ht, hy, hw⟩; dsimp only; have e1 : (i : Int) - (d : Int) + (t : Int) = ((i - d + t : Nat) : Int) := by omega
  rw [e1, J3, J3, J3, QM, QM]; refine ⟨fun hlt => ?_, fun hge => ?_⟩
  .have hyj : vo y (i - d + t) = rem p d (vo l) (vo r) n k (i - d + t) := by rw [hw _ (by omega), if_neg (by omega), hv _ (by omega), if_pos (by omega)]
   have c1 := hl t (by omega); have c2 := hc i (by omega); have c3 := hc (i - d + t) (by omega); rw [hxi, hyj]; have c4 := Jgz (a := (p : Int) - rem p d (vo l) (vo r) n k i) (b := vo l t) hp2 ⟨by omega, by omega⟩ ⟨c1.1, by omega⟩; refine ⟨JE (by omega) (by omega), JE (by omega) (by omega), JE (by omega) (by omega), JE (by omega) (by omega), ⟨by omega, by omega⟩, JE (by omega) (by omega), ⟨by omega, by omega⟩, JE (by omega) (by omega), JE (by omega) (by omega), by omega, ⟨by omega, by omega⟩, JE (by omega) (by omega), ⟨t + 1, by push_cast; rfl, by omega, by rw [List.length_set, hy], fun j hj => ?_⟩, by omega⟩; rw [Qw]; by_cases hjt : i - d + t = j
   .subst hjt; rw [if_pos ⟨rfl, by omega⟩, if_pos (by omega), Jm4 (by omega) c3.1 (by omega) c1.1]; show _ = rst p d (n - 1 - k) (vo l) (rem p d (vo l) (vo r) n k) (i - d + t); unfold rst; rw [<- hin, if_pos (by omega), show i - d + t + d - i = t by omega, Int.mul_comm]
   .rw [if_neg (fun h => hjt h.1), hw j hj]; by_cases hc2 : i <= j + d /\ j + d < i + t
    .rw [if_pos hc2, if_pos (by omega)]
    .rw [if_neg hc2, if_neg (by omega)]
  .refine ⟨⟨by omega, by omega⟩, JE (by omega) (by omega), ⟨k + 1, by omega, by omega, by rw [List.length_set, hy], fun j hj => ?_⟩, by omega⟩; rw [Qw]; by_cases hij : i = j
   .subst hij; rw [if_pos ⟨rfl, by omega⟩, if_neg (by omega)]
   .rw [if_neg (fun h => hij h.1), hw j hj]; have htd : t = d := by omega
    by_cases hc2 : i <= j + d /\ j + d < i + t
    .rw [if_pos hc2, if_pos (by omega)]
    .rw [if_neg hc2, hv j hj]; by_cases hjk : j + k < n
     .rw [if_pos hjk, if_pos (by omega)]; show _ = rst p d (n - 1 - k) (vo l) (rem p d (vo l) (vo r) n k) j; unfold rst; rw [<- hin, if_neg (by omega)]
     .rw [if_neg hjk, if_neg (by omega)]
 .have hkk : k = n - d := by omega
  refine ⟨fun z => ∃ t : Nat, z = t /\ t <= n /\ ∀ j, j < t -> vo x j = 0, fun z => (n - z).toNat, ⟨0, rfl, Nat.zero_le _, fun j hj => by omega⟩, ?_⟩; rintro _ ⟨t, rfl, ht, hz⟩; dsimp only; rw [J3]; refine ⟨fun hlt => ⟨⟨by omega, by omega⟩, fun hne => ?_, fun heq => ⟨JE (by omega) (by omega), ⟨t + 1, by push_cast; rfl, by omega, fun j hj => ?_⟩, by omega⟩⟩, fun hge => ?_⟩
  .refine h false ⟨fun h' => absurd h' (by decide), fun hD => ?_⟩; rw [hv t (by omega)] at hne; by_cases hc2 : t + k < n
   .rw [if_pos hc2, hkk, hD t (by omega)] at hne; exact absurd rfl hne
   .rw [if_neg hc2] at hne; exact absurd rfl hne
  .by_cases hjt : j = t
   .subst hjt; omega
   .exact hz j (by omega)
  .refine h true ⟨fun _ j hj => ?_, fun _ => rfl⟩; have h1 := hz j (by omega); rw [hv j (by omega), if_pos (by omega), hkk] at h1; exact h1
theorem Jbj {p d w : Nat} (hw : w < p ^ d) : vo (dgi p d w) = dv p w := by
 funext i; rcases Nat.lt_or_ge i d with h | h
 .exact Y9 h
 .rw [Jch (by rw [Qu]; exact h), Jxf hw h]
theorem Jgu {p d w : Nat} (hp : 0 < p) (hw : w < p ^ d) (n : Nat) : Cn p n (vo (dgi p d w)) := by rw [Jbj hw]; exact Jh9 hp w n
theorem Jy4 {p m : Nat} {mf : List Int} {Q : Bool -> Prop} (hp : 2 <= p) (hp2 : p <= 256) (hm : mf.length = m) (hq : p ^ m <= 256) (hc : Cn p m (vo mf))
  (h : ∀ b : Bool, (b = true ↔ Irr p m (vo mf)) -> Q b) : Yl p m mf Q := by
 have hm9 : m <= 8 := by
  rcases Nat.lt_or_ge 8 m with h1 | h1
  .have e1 : 2 ^ 9 <= p ^ 9 := Nat.pow_le_pow_left (by omega) 9; have e2 := QG (p := p) (by omega) (show 9 <= m by omega); omega
  .exact h1
 refine Jc8 (by omega) ⟨by omega, ?_⟩; have hlen : (mf ++ [(1 : Int)]).length = m + 1 := by simp [hm]
 have hcs : Cn p (m + 1) (vo (mf ++ [(1 : Int)])) := by have := Jqe hp (o := mf) (by rw [hm]; exact hc); rwa [hm] at this
 have hpd : ∀ d, 2 * d <= m -> p ^ d <= 256 := fun d hd => Nat.le_trans (QG (by omega) (by omega)) hq; refine ⟨fun a b => ∃ d : Nat, a = d /\ 1 <= d /\ 2 * (d - 1) <= m /\ b = ((p ^ d : Nat) : Int) /\ p ^ d <= 65536 /\ ∀ e, 0 < e -> e < d -> 2 * e <= m -> ∀ w, w < p ^ e -> ¬ Dvd p e (dv p w) (fun i => if i = m then 1 else vo mf i) (m + 1), fun a b => (20 - a).toNat, ⟨1, rfl, by omega, by omega, by simp, by simp; omega, fun e h1 h2 => by omega⟩, ?_⟩; rintro _ _ ⟨d, rfl, hd1, hd2, rfl, hdp, hnd⟩; dsimp only; refine ⟨JE (by omega) (by omega), fun hle => ?_, fun hgt => ?_⟩
 .have hpd' := hpd d (by omega); refine ⟨fun z => ∃ w : Nat, z = w /\ w <= p ^ d /\ ∀ u, u < w -> ¬ Dvd p d (dv p u) (fun i => if i = m then 1 else vo mf i) (m + 1), fun z => ((p ^ d : Nat) - z).toNat, ⟨0, rfl, Nat.zero_le _, fun u hu => by omega⟩, ?_⟩; rintro _ ⟨w, rfl, hw, hnw⟩; dsimp only; refine ⟨fun hlt => ?_, fun hge => ?_⟩
  .have hw2 : w < p ^ d := by omega
   refine ⟨_, Jfu (by omega) (by omega) (by omega) rfl, ?_⟩; have hdl := Qu p d w; refine (?_ : ∃ r : Bool, Z5 p (dgi p d w) (mf ++ [(1 : Int)]) (fun q => q = r) /\ _); by_cases hD : Dvd p d (dv p w) (fun i => if i = m then 1 else vo mf i) (m + 1)
   .refine ⟨true, Jht (by omega) hp2 (by rw [hdl]; exact Jgu (by omega) hw2 d) (by rw [hlen]; exact hcs) (by omega) (by omega) (by omega) fun b hb => ?_, fun _ => ?_, fun h' => absurd h' (by decide)⟩
    .rw [hdl, hlen, Jbj hw2, Je4, hm] at hb; exact hb.2 hD
    .exact h false ⟨fun h' => absurd h' (by decide), fun hI => absurd hD (hI d (by omega) (by omega) w hw2)⟩
   .refine ⟨false, Jht (by omega) hp2 (by rw [hdl]; exact Jgu (by omega) hw2 d) (by rw [hlen]; exact hcs) (by omega) (by omega) (by omega) fun b hb => ?_, fun h' => absurd h' (by decide), fun _ => ?_⟩
    .rw [hdl, hlen, Jbj hw2, Je4, hm] at hb; cases b with
     | false => rfl
     | true => exact absurd (hb.1 rfl) hD
    .refine ⟨JE (by omega) (by omega), ⟨w + 1, by push_cast; rfl, by omega, fun u hu => ?_⟩, by omega⟩; by_cases huw : u = w
     .subst huw; exact hD
     .exact hnw u (by omega)
  .have e1 : ((p ^ d : Nat) : Int) * (p : Int) = ((p ^ (d + 1) : Nat) : Int) := by rw [Nat.pow_succ]; push_cast; rfl
   have hb2 : p ^ (d + 1) <= 65536 := by
    rw [Nat.pow_succ]; have := Nat.mul_le_mul hpd' hp2; omega
   rw [e1]; refine ⟨JE (by omega) (by omega), Jf0 (by omega), ⟨d + 1, by push_cast; rfl, by omega, by omega, rfl, hb2, fun e he0 he h2 u hu => ?_⟩, by omega⟩; by_cases hed : e = d
   .subst hed; exact hnw u (by omega)
   .exact hnd e he0 (by omega) h2 u hu
 .exact h true ⟨fun _ e he0 h2 u hu => hnd e he0 (by omega) h2 u hu, fun _ => rfl⟩
theorem v_rirr {p m : Nat} {mf : List Int} {Q : Bool -> Prop} (hp : 2 <= p) (hp2 : p <= 256) (hm : mf.length = m) (hq : p ^ m <= 256) (hc : Cn p m (vo mf))
  (h : ∀ b : Bool, (b = true ↔ Irr p m (vo mf)) -> Q b) : Jg5 mf p Q := by
 have hm9 : m <= 8 := by
  rcases Nat.lt_or_ge 8 m with h1 | h1
  .have e1 : 2 ^ 9 <= p ^ 9 := Nat.pow_le_pow_left (by omega) 9; have e2 := QG (p := p) (by omega) (show 9 <= m by omega); omega
  .exact h1
 unfold Jg5; rw [hm]; have hpd : ∀ d, 2 * d <= m -> p ^ d <= 256 := fun d hd => Nat.le_trans (QG (by omega) (by omega)) hq; refine ⟨fun b a => ∃ d : Nat, a = d + 1 /\ 2 * d <= m /\ b = ((p ^ d : Nat) : Int) /\ ∀ e, 0 < e -> e <= d -> 2 * e <= m -> ∀ w, w < p ^ e -> ¬ Dvd p e (dv p w) (fun i => if i = m then 1 else vo mf i) (m + 1), fun b a => (20 - a).toNat, ⟨0, rfl, by omega, by simp, fun e h1 h2 => by omega⟩, ?_⟩; rintro _ _ ⟨d, rfl, hd2, rfl, hnd⟩; dsimp only; have hpd' := hpd d hd2; refine ⟨JE (by omega) (by omega), fun hle => ?_, fun hgt => ?_⟩
 .have e1 : ((p ^ d : Nat) : Int) * (p : Int) = ((p ^ (d + 1) : Nat) : Int) := by rw [Nat.pow_succ]; push_cast; rfl
  have hpd2 := hpd (d + 1) (by omega); rw [e1]; refine ⟨Jf0 (by omega), ?_⟩; refine ⟨fun z => ∃ w : Nat, z = w /\ w <= p ^ (d + 1) /\ ∀ u, u < w -> ¬ Dvd p (d + 1) (dv p u) (fun i => if i = m then 1 else vo mf i) (m + 1), fun z => ((p ^ (d + 1) : Nat) - z).toNat, ⟨0, rfl, Nat.zero_le _, fun u hu => by omega⟩, ?_⟩; rintro _ ⟨w, rfl, hw, hnw⟩; dsimp only; rw [show (d : Int) + 1 = ((d + 1 : Nat) : Int) by push_cast; rfl]; refine ⟨fun hlt => ?_, fun hge => ?_⟩
  .have hw2 : w < p ^ (d + 1) := by omega
   have hdl := Qu p (d + 1) w; refine Jr2 (by omega) (by omega) (by omega) (Jmu hp hp2 (by rw [hdl]; exact Jgu (by omega) hw2 _) (by rw [hm]; exact hc) (by omega) (by omega) (by omega) fun b hb => ?_); rw [hdl, hm, Jbj hw2] at hb; refine ⟨fun hb1 => ?_, fun hb0 => ?_⟩
   .exact h false ⟨fun h' => absurd h' (by decide), fun hI => absurd (hb.1 hb1) (hI (d + 1) (by omega) (by omega) w hw2)⟩
   .refine ⟨JE (by omega) (by omega), ⟨w + 1, by push_cast; rfl, by omega, fun u hu => ?_⟩, by omega⟩; by_cases huw : u = w
    .subst huw; intro hD; rw [hb.2 hD] at hb0; exact absurd hb0 (by decide)
    .exact hnw u (by omega)
  .refine ⟨JE (by omega) (by omega), ⟨d + 1, rfl, by omega, rfl, fun e he0 he h2 u hu => ?_⟩, by omega⟩; by_cases hed : e = d + 1
   .subst hed; exact hnw u (by omega)
   .exact hnd e he0 (by omega) h2 u hu
 .exact h true ⟨fun _ e he0 h2 u hu => hnd e he0 (by omega) h2 u hu, fun _ => rfl⟩
structure FV (P M : Int) (mf : List Int) (p m v : Nat) : Prop where
  eP : P = p
  eM : M = m
  pr : IsLf p p
  m0 : 0 < m
  q : p ^ m <= 256
  vlt : v < p ^ m
  m1 : m = 1 -> mf = [] /\ v = 0
  m2 : m ≠ 1 -> mf = dgi p m v
  irr : Irr p m (dv p v)
def Y3 (P M : Int) (mf : List Int) : Prop := ∃ p m v, FV P M mf p m v
open Classical in
noncomputable def ck (P M : Int) (mf : List Int) : Int := if Y3 P M mf then 0 else 1
theorem Jia {P M : Int} {mf : List Int} (h : Y3 P M mf) : ck P M mf = 0 := if_pos h
theorem Y0 {P M : Int} {mf : List Int} (h : ¬ Y3 P M mf) : ck P M mf = 1 := if_neg h
theorem Jz2 (p : Nat) (c : Vec) : Irr p 1 c := fun d h1 h2 => by omega
theorem Jd2 {p : Nat} (hp : IsLf p p) (hq : p <= 256) : FV p ((1 : Nat) : Int) [] p 1 0 := ⟨rfl, rfl, hp, by omega, by simpa using hq, by have := hp.two; simp; omega, fun _ => ⟨rfl, rfl⟩, fun h => absurd rfl h, Jz2 p _⟩
theorem Jq7 {p m : Nat} {mf : List Int} (hp : 0 < p) (hl : mf.length = m) (hc : Cn p m (vo mf)) : nm p m (vo mf) < p ^ m /\ mf = dgi p m (nm p m (vo mf)) /\ vo mf = dv p (nm p m (vo mf)) := by
 have hlt := Jde (m := m) hp (vo mf); have he : mf = dgi p m (nm p m (vo mf)) := Yb (by rw [hl, Qu]) fun i hi => by
  have h1 := hc i (by omega); rw [Y9 (by omega), Jq4 hp _ (by omega), Int.emod_eq_of_lt h1.1 h1.2]
 exact ⟨hlt, he, by have := congrArg vo he; rw [Jbj hlt] at this; exact this⟩
theorem FV.cn {P M : Int} {mf : List Int} {p m v : Nat} (h : FV P M mf p m v) (hm : m ≠ 1) : mf.length = m /\ Cn p m (vo mf) /\ Irr p m (vo mf) := by
 have := h.pr.two; rw [h.m2 hm]; exact ⟨Qu p m v, Jgu (by omega) h.vlt m, by rw [Jbj h.vlt]; exact h.irr⟩
theorem FV.vo {P M : Int} {mf : List Int} {p m v : Nat} (h : FV P M mf p m v) : Go.Proofs.YtngdhnijkgjhcaaGreat.vo mf = dv p v := by
 by_cases hm : m = 1
 .rw [(h.m1 hm).1, (h.m1 hm).2, Jgt]; rfl
 .rw [h.m2 hm, Jbj h.vlt]
theorem Jy5 {P M : Int} {mf : List Int} {Q : Int -> Prop} (h : Q (ck P M mf)) : Jfk P M mf Q := by
 refine ⟨fun h1 => ?_, fun h1 => Jr4 (by omega) fun b hb => ⟨fun hb0 => ?_, fun hb1 => ?_⟩⟩
 .rw [Y0] at h
  .exact h
  .rintro ⟨p, m, v, hV⟩; have e1 := QG (p := p) (by have := hV.pr.two; omega) hV.m0; have := hV.q; have := hV.eP; rw [show p ^ (0 + 1) = p from Nat.pow_one p] at e1; omega
 .rw [Y0] at h
  .exact h
  .rintro ⟨p, m, v, hV⟩; have := hV.pr.two; have : b = true := hb.2 ⟨by rw [hV.eP]; omega, by rw [hV.eP]; exact hV.pr⟩; rw [this] at hb0; exact absurd hb0 (by decide)
 .have hbt : b = true := by cases b <;> first | rfl | exact absurd hb1 (by decide)
  obtain ⟨hP2, hPr⟩ := hb.1 hbt; obtain ⟨p, rfl⟩ := Int.eq_ofNat_of_zero_le (show 0 <= P by omega); rw [Int.toNat_natCast] at hPr; refine ⟨fun h2 => ?_, fun h2 => Jik (by omega) (by omega) fun r hr1 hr2 => ⟨fun h3 => ?_, fun h3 => ?_⟩⟩
  .rw [Y0] at h
   .exact h
   .rintro ⟨p', m, v, hV⟩; have := hV.m0; have := hV.eM; omega
  .rw [Y0] at h
   .exact h
   .rintro ⟨p', m, v, hV⟩; have e1 := hV.eM; have e2 := hV.eP; have e3 := hV.q; have : p = p' := by omega
    subst this; rw [e1, Int.toNat_natCast] at hr1; have := hr1 e3; omega
  .obtain ⟨m, rfl⟩ := Int.eq_ofNat_of_zero_le (show 0 <= M by omega); rw [Int.toNat_natCast] at hr1 hr2; have hq : p ^ m <= 256 := by
    rcases Nat.lt_or_ge 256 (p ^ m) with hc | hc
    .exact absurd (hr2 hc) h3
    .exact hc
   refine ⟨fun h4 => Jvs ?_, fun h4 => ⟨fun h5 => ?_, fun h5 => ?_⟩⟩
   .have hm1 : m = 1 := by omega
    subst hm1; by_cases hl : mf = []
    .subst hl; rw [Jia ⟨_, _, _, Jd2 hPr (by omega)⟩] at h
     simpa using h
    .rw [Y0] at h
     .simpa [hl] using h
     .rintro ⟨p', m, v, hV⟩; exact hl (hV.m1 (by have := hV.eM; omega)).1
   .rw [Y0] at h
    .exact h
    .rintro ⟨p', m', v, hV⟩; have e1 := hV.eM; have := (hV.cn (by omega)).1; omega
   .have hlen : mf.length = m := by omega
    have hm8 : mf.length <= 1000000000 := by
     have := Nat.lt_two_pow_self (n := m); have e1 : 2 ^ m <= p ^ m := Nat.pow_le_pow_left (by omega) m; omega
    refine Jcq (f := fun x => if x < 0 then true else decide ((p : Int) <= x)) hm8 (fun x R hR => ⟨fun hx => by simpa [hx] using hR, fun hx => by simpa [hx] using hR⟩) ⟨fun hb6 => ?_, fun hb6 => ?_⟩
    .rw [Y0] at h
     .exact h
     .rintro ⟨p', m', v, hV⟩; have e1 := hV.eM; have e2 := hV.eP; have e3 : p = p' := by omega
      have e4 : m = m' := by omega
      subst e3; subst e4; obtain ⟨i, hi, hf⟩ := Jb0.1 hb6; have hcn := (hV.cn (by omega)).2.1 i (by omega); rw [if_neg (by omega)] at hf; have := of_decide_eq_true hf; omega
    .have hcn : Cn p m (vo mf) := fun i hi => by
      have h6 : ¬ mf.any (fun x => if x < 0 then true else decide ((p : Int) <= x)) = true := by rw [hb6]; decide
      rw [Jb0] at h6; by_cases hx : vo mf i < 0
      .exact absurd ⟨i, by omega, by rw [if_pos hx]⟩ h6
      .by_cases hx2 : (p : Int) <= vo mf i
       .exact absurd ⟨i, by omega, by rw [if_neg hx, decide_eq_true hx2]⟩ h6
       .omega
     have hcl := Jq7 (by omega) hlen hcn; refine Jy4 (by omega) (by omega) hlen hq hcn fun b2 hb2 => Jvs ?_; by_cases hI : Irr p m (vo mf)
     .rw [hb2.2 hI, if_pos rfl]; rw [Jia ⟨p, m, nm p m (vo mf), rfl, rfl, hPr, by omega, hq, hcl.1, fun e => by omega, fun _ => hcl.2.1, by rw [<- hcl.2.2]; exact hI⟩] at h; exact h
     .rw [if_neg (fun e => hI (hb2.1 e))]; rw [Y0] at h
      .exact h
      .rintro ⟨p', m', v, hV⟩; have e1 := hV.eM; have e2 := hV.eP; have e3 : p = p' := by omega
       have e4 : m = m' := by omega
       subst e3; subst e4; exact hI (hV.cn (by omega)).2.2
theorem Jvq {P M : Int} {mf : List Int} {Q : Int -> Prop} (h : Q (ck P M mf)) : Jdt P M mf Q := by
 refine Jkb ⟨fun h0 => ?_, fun h0 => ?_⟩
 .rw [Y0] at h
  .exact h
  .rintro ⟨p, m, v, hV⟩; have h1 := hV.pr.two; have h2 := hV.m0; have h3 := hV.q; rw [hV.eP, hV.eM, Jhf, if_pos ⟨by omega, by omega, by simpa using h3⟩] at h0; have h4 : 0 < p ^ m := Nat.pow_pos (by omega); simp only [Int.toNat_natCast] at h0; omega
 .unfold Jhf at h0; by_cases hc : 2 <= P /\ 1 <= M /\ P.toNat ^ M.toNat <= 256
  .obtain ⟨h1, h2, hq⟩ := hc; obtain ⟨p, rfl⟩ := Int.eq_ofNat_of_zero_le (show 0 <= P by omega); obtain ⟨m, rfl⟩ := Int.eq_ofNat_of_zero_le (show 0 <= M by omega); simp only [Int.toNat_natCast] at hq; have hp256 : p <= 256 := by
    have := QG (p := p) (by omega) (show 1 <= m by omega); rw [Nat.pow_one] at this; omega
   refine Jvp (by omega) hp256 fun b hb => ⟨fun hb0 => ?_, fun hb1 => ?_⟩
   .rw [Y0] at h
    .exact h
    .rintro ⟨p', m', v, hV⟩; have e2 := hV.eP; have e3 : p = p' := by omega
     subst e3; rw [hb.2 hV.pr] at hb0; exact absurd hb0 (by decide)
   .have hbt : b = true := by cases b <;> first | rfl | exact absurd hb1 (by decide)
    have hPr := hb.1 hbt; refine ⟨fun h4 => ⟨fun h5 => ?_, fun h5 => ?_⟩, fun h4 => ⟨fun h5 => ?_, fun h5 => ?_⟩⟩
    .rw [Y0] at h
     .exact h
     .rintro ⟨p', m', v, hV⟩; have e1 := hV.eM; have := (hV.m1 (by omega)).1; rw [this] at h5; exact h5 rfl
    .have hm1 : m = 1 := by omega
     subst hm1; have hl : mf = [] := List.length_eq_zero_iff.1 (by omega); subst hl; rw [Jia ⟨_, _, _, Jd2 hPr hp256⟩] at h; exact h
    .rw [Y0] at h
     .exact h
     .rintro ⟨p', m', v, hV⟩; have e1 := hV.eM; have := (hV.cn (by omega)).1; omega
    .have hlen : mf.length = m := by omega
     refine ⟨fun z => ∃ k : Nat, z = k /\ k <= m /\ Cn p k (vo mf), fun z => (m - z).toNat, ⟨0, rfl, Nat.zero_le _, fun i hi => by omega⟩, ?_⟩; rintro _ ⟨k, rfl, hk, hcn⟩; dsimp only; rw [J3]; have hno : ¬ (0 <= vo mf k /\ vo mf k < p) -> k < m -> ¬ Y3 p m mf := by
      rintro hbad hkm ⟨p', m', v, hV⟩; have e1 := hV.eM; have e2 := hV.eP; have e3 : p = p' := by omega
      have e4 : m = m' := by omega
      subst e3; subst e4; exact hbad ((hV.cn (by omega)).2.1 k hkm)
     have hm8 : m <= 1000000000 := by
      have := Nat.lt_two_pow_self (n := m); have e1 : 2 ^ m <= p ^ m := Nat.pow_le_pow_left (by omega) m; omega
     refine ⟨fun hlt => ⟨fun hneg => ⟨⟨by omega, by omega⟩, ?_⟩, fun hpos => ⟨⟨by omega, by omega⟩, ⟨by omega, by omega⟩, fun hbig => ?_, fun hsm => ⟨JE (by omega) (by omega), ⟨k + 1, by push_cast; rfl, by omega, fun i hi => ?_⟩, by omega⟩⟩⟩, fun hge => ?_⟩
     .rw [Y0 (hno (by omega) (by omega))] at h; exact h
     .rw [Y0 (hno (by omega) (by omega))] at h; exact h
     .by_cases hik : i = k
      .subst hik; omega
      .exact hcn i (by omega)
     .have hkm : k = m := by omega
      subst hkm; have hcl := Jq7 (by omega) hlen hcn; refine v_rirr (by omega) hp256 hlen hq hcn fun b2 hb2 => ⟨fun hb3 => ?_, fun hb3 => ?_⟩
      .rw [Y0] at h
       .exact h
       .rintro ⟨p', m', v, hV⟩; have e1 := hV.eM; have e2 := hV.eP; have e3 : p = p' := by omega
        have e4 : k = m' := by omega
        subst e3; subst e4; rw [hb2.2 (hV.cn (by omega)).2.2] at hb3; exact absurd hb3 (by decide)
      .have hbt2 : b2 = true := by cases b2 <;> first | rfl | exact absurd hb3 (by decide)
       rw [Jia ⟨p, k, nm p k (vo mf), rfl, rfl, hPr, by omega, hq, hcl.1, fun e => by omega, fun _ => hcl.2.1, by rw [<- hcl.2.2]; exact hb2.1 hbt2⟩] at h; exact h
  .rw [if_neg hc] at h0; exact absurd rfl h0
end Go.Proofs.YtngdhnijkgjhcaaGreat
