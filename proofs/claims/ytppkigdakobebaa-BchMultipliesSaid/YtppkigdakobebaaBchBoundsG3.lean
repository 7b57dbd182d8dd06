/- Contracts of functions of the program, and what they lean on: D14, D9, D15, D10, Pure, Ru, B1, B2, B3, B4, B5, B6, D16, B7. -/
import Derived.Test.YtppkigdakobebaaBchBoundsG2
set_option linter.unusedSimpArgs false
set_option linter.unusedVariables false
set_option maxRecDepth 4000
set_option maxHeartbeats 4000000
namespace Go.Proofs.Ytppkigdakobebaa
open Go.RowKit
def Qn (n : Int) (l : LI) (Q : Int × Int × Int × Int × Int × Int × Int -> Prop) : Prop :=
  Qk n (fun r14 => (((!r14) = true) -> (Q ((0 : Int), (0 : Int), (0 : Int), (0 : Int), (0 : Int), (0 : Int), (4 : Int)))) /\ ((!r14) = false -> (YD n l (fun x19 => QU x19 (fun x24 => ∃ (I49 : Int -> Int -> Int -> Int -> Int -> Int -> Int -> Prop) (μ50 : Int -> Int -> Int -> Int -> Int -> Int -> Int -> Nat), I49 1 (0 : Int) (0 : Int) (0 : Int) (0 : Int) (0 : Int) (0 : Int) /\ ∀ (z42 : Int) (z43 : Int) (z44 : Int) (z45 : Int) (z46 : Int) (z47 : Int) (z48 : Int), (I49 z42 z43 z44 z45 z46 z47 z48 -> (((z48 < (x24.length : Int)) -> ((0 <= z48 /\ z48 < (x24.length : Nat)) /\ (Qu x19 (gi x24 z48) (fun x55 => ∃ (I80 : Int -> Int -> Int -> Int -> Int -> Int -> Int -> Prop) (μ81 : Int -> Int -> Int -> Int -> Int -> Int -> Int -> Nat), I80 z42 z43 z44 z45 z46 z47 0 /\ ∀ (z73 : Int) (z74 : Int) (z75 : Int) (z76 : Int) (z77 : Int) (z78 : Int) (z79 : Int), (I80 z73 z74 z75 z76 z77 z78 z79 -> (((z79 < n) -> (QQ z79 (x55.length : Int) (fun r93 => ∃ (I115 : Int -> Int -> Int -> Int -> Int -> Int -> Int -> Prop) (μ116 : Int -> Int -> Int -> Int -> Int -> Int -> Int -> Nat), I115 z73 z74 z75 z76 z77 z78 0 /\ ∀ (z108 : Int) (z109 : Int) (z110 : Int) (z111 : Int) (z112 : Int) (z113 : Int) (z114 : Int), (I115 z108 z109 z110 z111 z112 z113 z114 -> (((z114 < (x55.length : Int)) -> (∃ J129 : Int -> Int -> Int -> Int -> Int -> Int -> Int -> Int -> Bool -> Prop, ((0 <= z114 /\ z114 < (x55.length : Nat)) /\ (∃ (r231 : Int), JO z114 (gi x24 z48) (gi x55 z114) (0 : Int) (0 : Int) (fun q => q = r231) /\ (((z108 < r231) -> (∃ (r245 : Int), JO z114 (gi x24 z48) (gi x55 z114) (0 : Int) (0 : Int) (fun q => q = r245) /\ ((fun (z134 : Int) (z135 : Int) (z136 : Int) (z137 : Int) (z138 : Int) (z139 : Int) => ∃ (I166 : Int -> Int -> Int -> Int -> Int -> Int -> Int -> Int -> Prop) (μ167 : Int -> Int -> Int -> Int -> Int -> Int -> Int -> Int -> Nat), I166 (gi x55 z114) (0 : Int) z134 z135 z136 z137 z138 z139 /\ ∀ (z158 : Int) (z159 : Int) (z160 : Int) (z161 : Int) (z162 : Int) (z163 : Int) (z164 : Int) (z165 : Int), (I166 z158 z159 z160 z161 z162 z163 z164 z165 -> (((z159 < (x55.length : Int)) -> ((I64 (z159 + 1)) /\ ((I64 ((z159 + 1) * z79)) /\ ((I64 (z114 + ((z159 + 1) * z79))) /\ (((x55.length : Int) ≠ 0) /\ ((0 <= ((z114 + ((z159 + 1) * z79)).tmod (x55.length : Int)) /\ ((z114 + ((z159 + 1) * z79)).tmod (x55.length : Int)) < (x55.length : Nat)) /\ ((((min z158 (gi x55 ((z114 + ((z159 + 1) * z79)).tmod (x55.length : Int)))) < r93) -> (J129 z160 z161 z162 z163 z164 z165 (min z158 (gi x55 ((z114 + ((z159 + 1) * z79)).tmod (x55.length : Int)))) (z159 + 1) (decide (z159 < (x55.length : Int))))) /\ (¬ ((min z158 (gi x55 ((z114 + ((z159 + 1) * z79)).tmod (x55.length : Int)))) < r93) -> (∃ (r203 : Int), JO z114 (gi x24 z48) (min z158 (gi x55 ((z114 + ((z159 + 1) * z79)).tmod (x55.length : Int)))) z79 (z159 + 1) (fun q => q = r203) /\ (((z160 < r203) -> (∃ (r217 : Int), JO z114 (gi x24 z48) (min z158 (gi x55 ((z114 + ((z159 + 1) * z79)).tmod (x55.length : Int)))) z79 (z159 + 1) (fun q => q = r217) /\ ((fun (z192 : Int) (z193 : Int) (z194 : Int) (z195 : Int) (z196 : Int) (z197 : Int) => I166 (min z158 (gi x55 ((z114 + ((z159 + 1) * z79)).tmod (x55.length : Int)))) (z159 + 1) z192 z193 z194 z195 z196 z197 /\ μ167 (min z158 (gi x55 ((z114 + ((z159 + 1) * z79)).tmod (x55.length : Int)))) (z159 + 1) z192 z193 z194 z195 z196 z197 < μ167 z158 z159 z160 z161 z162 z163 z164 z165) r217 z114 (gi x24 z48) (min z158 (gi x55 ((z114 + ((z159 + 1) * z79)).tmod (x55.length : Int)))) z79 (z159 + 1)))) /\ (¬ (z160 < r203) -> ((fun (z192 : Int) (z193 : Int) (z194 : Int) (z195 : Int) (z196 : Int) (z197 : Int) => I166 (min z158 (gi x55 ((z114 + ((z159 + 1) * z79)).tmod (x55.length : Int)))) (z159 + 1) z192 z193 z194 z195 z196 z197 /\ μ167 (min z158 (gi x55 ((z114 + ((z159 + 1) * z79)).tmod (x55.length : Int)))) (z159 + 1) z192 z193 z194 z195 z196 z197 < μ167 z158 z159 z160 z161 z162 z163 z164 z165) z160 z161 z162 z163 z164 z165)))))))))))) /\ (¬ (z159 < (x55.length : Int)) -> (J129 z160 z161 z162 z163 z164 z165 z158 z159 (decide (z159 < (x55.length : Int)))))))) r245 z114 (gi x24 z48) (gi x55 z114) (0 : Int) (0 : Int)))) /\ (¬ (z108 < r231) -> ((fun (z134 : Int) (z135 : Int) (z136 : Int) (z137 : Int) (z138 : Int) (z139 : Int) => ∃ (I166 : Int -> Int -> Int -> Int -> Int -> Int -> Int -> Int -> Prop) (μ167 : Int -> Int -> Int -> Int -> Int -> Int -> Int -> Int -> Nat), I166 (gi x55 z114) (0 : Int) z134 z135 z136 z137 z138 z139 /\ ∀ (z158 : Int) (z159 : Int) (z160 : Int) (z161 : Int) (z162 : Int) (z163 : Int) (z164 : Int) (z165 : Int), (I166 z158 z159 z160 z161 z162 z163 z164 z165 -> (((z159 < (x55.length : Int)) -> ((I64 (z159 + 1)) /\ ((I64 ((z159 + 1) * z79)) /\ ((I64 (z114 + ((z159 + 1) * z79))) /\ (((x55.length : Int) ≠ 0) /\ ((0 <= ((z114 + ((z159 + 1) * z79)).tmod (x55.length : Int)) /\ ((z114 + ((z159 + 1) * z79)).tmod (x55.length : Int)) < (x55.length : Nat)) /\ ((((min z158 (gi x55 ((z114 + ((z159 + 1) * z79)).tmod (x55.length : Int)))) < r93) -> (J129 z160 z161 z162 z163 z164 z165 (min z158 (gi x55 ((z114 + ((z159 + 1) * z79)).tmod (x55.length : Int)))) (z159 + 1) (decide (z159 < (x55.length : Int))))) /\ (¬ ((min z158 (gi x55 ((z114 + ((z159 + 1) * z79)).tmod (x55.length : Int)))) < r93) -> (∃ (r203 : Int), JO z114 (gi x24 z48) (min z158 (gi x55 ((z114 + ((z159 + 1) * z79)).tmod (x55.length : Int)))) z79 (z159 + 1) (fun q => q = r203) /\ (((z160 < r203) -> (∃ (r217 : Int), JO z114 (gi x24 z48) (min z158 (gi x55 ((z114 + ((z159 + 1) * z79)).tmod (x55.length : Int)))) z79 (z159 + 1) (fun q => q = r217) /\ ((fun (z192 : Int) (z193 : Int) (z194 : Int) (z195 : Int) (z196 : Int) (z197 : Int) => I166 (min z158 (gi x55 ((z114 + ((z159 + 1) * z79)).tmod (x55.length : Int)))) (z159 + 1) z192 z193 z194 z195 z196 z197 /\ μ167 (min z158 (gi x55 ((z114 + ((z159 + 1) * z79)).tmod (x55.length : Int)))) (z159 + 1) z192 z193 z194 z195 z196 z197 < μ167 z158 z159 z160 z161 z162 z163 z164 z165) r217 z114 (gi x24 z48) (min z158 (gi x55 ((z114 + ((z159 + 1) * z79)).tmod (x55.length : Int)))) z79 (z159 + 1)))) /\ (¬ (z160 < r203) -> ((fun (z192 : Int) (z193 : Int) (z194 : Int) (z195 : Int) (z196 : Int) (z197 : Int) => I166 (min z158 (gi x55 ((z114 + ((z159 + 1) * z79)).tmod (x55.length : Int)))) (z159 + 1) z192 z193 z194 z195 z196 z197 /\ μ167 (min z158 (gi x55 ((z114 + ((z159 + 1) * z79)).tmod (x55.length : Int)))) (z159 + 1) z192 z193 z194 z195 z196 z197 < μ167 z158 z159 z160 z161 z162 z163 z164 z165) z160 z161 z162 z163 z164 z165)))))))))))) /\ (¬ (z159 < (x55.length : Int)) -> (J129 z160 z161 z162 z163 z164 z165 z158 z159 (decide (z159 < (x55.length : Int)))))))) z108 z109 z110 z111 z112 z113))))) /\ ∀ (z119 : Int) (z120 : Int) (z121 : Int) (z122 : Int) (z123 : Int) (z124 : Int) (z126 : Int) (z127 : Int) (b128 : Bool), (J129 z119 z120 z121 z122 z123 z124 z126 z127 b128 -> ((I64 (z114 + 1)) /\ (I115 z119 z120 z121 z122 z123 z124 (z114 + 1) /\ μ116 z119 z120 z121 z122 z123 z124 (z114 + 1) < μ116 z108 z109 z110 z111 z112 z113 z114))))) /\ (¬ (z114 < (x55.length : Int)) -> ((fun (z84 : Int) (z85 : Int) (z86 : Int) (z87 : Int) (z88 : Int) (z89 : Int) => (I64 (z79 + 1)) /\ (I80 z84 z85 z86 z87 z88 z89 (z79 + 1) /\ μ81 z84 z85 z86 z87 z88 z89 (z79 + 1) < μ81 z73 z74 z75 z76 z77 z78 z79)) z108 z109 z110 z111 z112 z113))))))) /\ (¬ (z79 < n) -> ((I64 (z48 + 1)) /\ (I49 z73 z74 z75 z76 z77 z78 (z48 + 1) /\ μ50 z73 z74 z75 z76 z77 z78 (z48 + 1) < μ50 z42 z43 z44 z45 z46 z47 z48))))))))) /\ (¬ (z48 < (x24.length : Int)) -> (Q (z42, z43, z44, z45, z46, z47, (0 : Int)))))))))))
theorem QI {w : World} {Q : Int × Int × Int × Int × Int × Int × Int -> Prop} {n : Int} {l : LI} {Bl : Nat} {Al : Option Addr} {nl kl : Nat} (hl : Rd Bl w 1 Al nl kl (is l)) (hv : Qn n l Q) :
   Calls Try.prog 25 #[.int .i64 n, .slice Al nl kl] w <| Rt w fun v Qr => ∃ (r0 : Int) (r1 : Int) (r2 : Int) (r3 : Int) (r4 : Int) (r5 : Int) (r6 : Int), v = .tuple #[.int .i64 r0, .agg #[.int .i64 r1, .int .i64 r2, .int .i64 r3, .int .i64 r4, .int .i64 r5], .int .i64 r6] /\ Qr = [] /\ Q (r0, r1, r2, r3, r4, r5, r6) := by
 have hnl := hl.ilen; subst hnl; refine Jm <| Yw (vs := [nI n, nS Al l kl]) [.tmp 4, .cell 5 38, .tmp 6] Jbi rfl rfl rfl rfl ?_; have hS := Jp w; unfold Qn at hv; refine Je 3 <| SL.alloc (cs := [nI 0, nI 0, nI 0, nI 0, nI 0]) hS Jk rfl rfl ?_; intro g11 w12 hS; refine Jb 2 <| Je 4 <| SL.call hS (Yu  hv) XF48 rfl XN48 rfl rfl ?_; rintro _ _ w13 ⟨r14, rfl, rfl, hv⟩ hGw13 hS; have hS := hS.n0; refine Jb 2 <| Jg rfl (fun c15 => ?_) (fun c15 => ?_)
 .have hv := hv.1 (c15); refine Je 2 <| JE (cells := #[nI 0, nI 0, nI 0, nI 0, nI 0]) QW rfl rfl rfl <| JG rfl rfl <| JC (cs := [nI 0, nI 0, nI 0, nI 0, nI 0]) 0 hS rfl Jk rfl rfl rfl rfl rfl ?_; intro w16 hS; refine Jb 2 <| W.ret ?_
  repeat with_reducible first | refine blk.ret ?_ | refine exits.retI ?_
  refine endC.mk ⟨[nI 0, .agg #[nI 0, nI 0, nI 0, nI 0, nI 0], nI 4], ⟨_, _, rfl, rfl, ⟨_, _, _, rfl, rfl, Qq (cs := [nI 0, nI 0, nI 0, nI 0, nI 0]) Jk JA rfl (J6 (hS.own (i := 0) rfl)), ⟨_, _, rfl, rfl, rfl⟩⟩⟩, ?_⟩; exact (hS.pick [] rfl).fin rfl ⟨(0 : Int), (0 : Int), (0 : Int), (0 : Int), (0 : Int), (0 : Int), (4 : Int), rfl, rfl, hv⟩
 have hv := hv.2 (c15); refine Jh <| Je 4 <| SL.call hS (ZE (hS.ro hl) hv) XF65 rfl XN65 rfl rfl ?_; rintro _ _ w17 ⟨x19, g18, A20, k21, rfl, rfl, hv⟩ hGw17 hS; have hS := hS.n2; refine Jb 2 <| Je 4 <| SL.call hS (ZD (hS.rd (i := 1) rfl) (hS.rd (i := 0) rfl) hv) XF66 rfl XN66 rfl rfl ?_; rintro _ _ w23 ⟨x24, A25, k26, rfl, rfl, hv⟩ hGw23 hS; have hS := hS.n1; refine WL.len JK rfl rfl <| Jb 2 <| W.block ?_; obtain ⟨I49, μ50, hv, hk271⟩ := hv; refine JB (σ := Int × Int × Int × Int × Int × Int × Int) (fun q w1 => match q with | (z42, z43, z44, z45, z46, z47, z48) => I49 z42 z43 z44 z45 z46 z47 z48 /\ St TT w none w1 [nR 3 A25 x24 k26, .row 95 7 (nA g18) 1 1 [nS A20 x19 k21, nI z42, nI z43, nI z44, nI z45, nI z46, nI z47], .row 4 1 A20 x19.length k21 (bs x19), .row 38 5 (nA g11) 1 1 [nI 0, nI 0, nI 0, nI 0, nI 0]]) (fun (z42, z43, z44, z45, z46, z47, z48) => [(0, nI n), (4, nI 0), (5, nP g11), (6, nI 0), (7, nP g18), (20, nS A25 x24 k26), (21, nI (x24.length : Int)), (22, nI z48)]) (fun (z42, z43, z44, z45, z46, z47, z48) => μ50 z42 z43 z44 z45 z46 z47 z48) ((1 : Int), (0 : Int), (0 : Int), (0 : Int), (0 : Int), (0 : Int), (0 : Int)) ⟨hv, hS⟩ ⟨rfl, rfl, rfl, rfl, rfl, rfl, rfl, rfl, trivial⟩ ?_; rintro ⟨z42, z43, z44, z45, z46, z47, z48⟩ w51 ⟨hv, hS⟩; have hv := hk271 z42 z43 z44 z45 z46 z47 z48 hv; refine Je 5 <| Jg rfl (fun c52 => ?_) (fun c52 => ?_)
 .have hv := hv.1 (oT c52); refine Jh <| Jz <| W.block <| Je 2 ?_; obtain ⟨o53, hv⟩ := hv; refine JF JK XE3 (hS.rd (i := 0) rfl) rfl rfl o53 rfl <| JI XU3 rfl rfl (Qw (hS.rd (i := 0) rfl) o53) rfl <| Jb 2 <| Je 4 <| SL.call hS (Y8 (hS.rd (i := 2) rfl) (hS.rd (i := 1) rfl) hv) XF67 rfl XN67 rfl rfl ?_; rintro _ _ w54 ⟨x55, A56, k57, rfl, rfl, hv⟩ hGw54 hS; have hS := hS.n1; refine Jb 2 <| Je 5 <| W.block ?_; obtain ⟨I80, μ81, hv, hk259⟩ := hv; refine JB (σ := Int × Int × Int × Int × Int × Int × Int) (fun q w1 => match q with | (z73, z74, z75, z76, z77, z78, z79) => I80 z73 z74 z75 z76 z77 z78 z79 /\ St TT w none w1 [nR 3 A56 x55 k57, nR 3 A25 x24 k26, .row 95 7 (nA g18) 1 1 [nS A20 x19 k21, nI z73, nI z74, nI z75, nI z76, nI z77, nI z78], .row 4 1 A20 x19.length k21 (bs x19), .row 38 5 (nA g11) 1 1 [nI 0, nI 0, nI 0, nI 0, nI 0]]) (fun (z73, z74, z75, z76, z77, z78, z79) => [(0, nI n), (4, nI 0), (5, nP g11), (6, nI 0), (7, nP g18), (9, nI (gi x24 z48)), (10, nS A56 x55 k57), (20, nS A25 x24 k26), (21, nI (x24.length : Int)), (22, nI z48), (23, .bool (decide (z48 < (x24.length : Int)))), (29, nI n), (30, nI z79)]) (fun (z73, z74, z75, z76, z77, z78, z79) => μ81 z73 z74 z75 z76 z77 z78 z79) (z42, z43, z44, z45, z46, z47, (0 : Int)) ⟨hv, hS⟩ ⟨rfl, rfl, rfl, rfl, rfl, rfl, rfl, rfl, rfl, rfl, rfl, rfl, rfl, trivial⟩ ?_; rintro ⟨z73, z74, z75, z76, z77, z78, z79⟩ w82 ⟨hv, hS⟩; have hv := hk259 z73 z74 z75 z76 z77 z78 z79 hv; refine Je 5 <| Jg rfl (fun c83 => ?_) (fun c83 => ?_)
  .have hv := hv.1 (oT c83); refine Jh <| Jz <| W.block <| Je 10 <| QP (vs := [nP g18, nI (gi x24 z48), nI z79, nS A56 x55 k57]) (cs := []) (R := fun v1 w1 => ∃ (z84 : Int) (z85 : Int) (z86 : Int) (z87 : Int) (z88 : Int) (z89 : Int), v1 = .tuple #[] /\ ((I64 (z79 + 1)) /\ (I80 z84 z85 z86 z87 z88 z89 (z79 + 1) /\ μ81 z84 z85 z86 z87 z88 z89 (z79 + 1) < μ81 z73 z74 z75 z76 z77 z78 z79)) /\ St TT w none w1 [nR 3 A56 x55 k57, nR 3 A25 x24 k26, .row 95 7 (nA g18) 1 1 [nS A20 x19 k21, nI z84, nI z85, nI z86, nI z87, nI z88, nI z89], .row 4 1 A20 x19.length k21 (bs x19), .row 38 5 (nA g11) 1 1 [nI 0, nI 0, nI 0, nI 0, nI 0]]) rfl XF69 rfl XN69 rfl rfl (Jl (vs := [nP g18, nI (gi x24 z48), nI z79, nS A56 x55 k57]) [] XF69 rfl rfl rfl rfl ?_) ?_
   .refine Jz ?_; refine Je 2 <| WL.len JK rfl rfl <| Jb 2 <| WL.len JK rfl rfl <| SL.call hS (Y9  hv) XF59 rfl XN59 rfl rfl ?_; rintro _ _ w92 ⟨r93, rfl, rfl, hv⟩ hGw92 hS; have hS := hS.n0; refine Jb 3 <| Je 3 <| WL.len JK rfl rfl <| Jb 2 <| W.block ?_; obtain ⟨I115, μ116, hv, hk257⟩ := hv; refine JB (σ := Int × Int × Int × Int × Int × Int × Int) (fun q w1 => match q with | (z108, z109, z110, z111, z112, z113, z114) => I115 z108 z109 z110 z111 z112 z113 z114 /\ St TT w none w1 [nR 3 A56 x55 k57, nR 3 A25 x24 k26, .row 95 7 (nA g18) 1 1 [nS A20 x19 k21, nI z108, nI z109, nI z110, nI z111, nI z112, nI z113], .row 4 1 A20 x19.length k21 (bs x19), .row 38 5 (nA g11) 1 1 [nI 0, nI 0, nI 0, nI 0, nI 0]]) (fun (z108, z109, z110, z111, z112, z113, z114) => [(0, nP g18), (1, nI (gi x24 z48)), (2, nI z79), (3, nS A56 x55 k57), (8, nI (x55.length : Int)), (9, nI r93), (19, nS A56 x55 k57), (20, nI (x55.length : Int)), (21, nI z114)]) (fun (z108, z109, z110, z111, z112, z113, z114) => μ116 z108 z109 z110 z111 z112 z113 z114) (z73, z74, z75, z76, z77, z78, (0 : Int)) ⟨hv, hS⟩ ⟨rfl, rfl, rfl, rfl, rfl, rfl, rfl, rfl, rfl, trivial⟩ ?_; rintro ⟨z108, z109, z110, z111, z112, z113, z114⟩ w117 ⟨hv, hS⟩; have hv := hk257 z108 z109 z110 z111 z112 z113 z114 hv; refine Je 5 <| Jg rfl (fun c118 => ?_) (fun c118 => ?_)
    .have hv := hv.1 (oT c118); refine Jh <| Jz ?_; obtain ⟨J129, hv, hk256⟩ := hv; refine Q4 (σ := Int × Int × Int × Int × Int × Int × Int × Int × Bool × Nat) (fun q w1 => match q with | (z119, z120, z121, z122, z123, z124, z126, z127, b128, g125) => J129 z119 z120 z121 z122 z123 z124 z126 z127 b128 /\ St TT w none w1 [.row 38 5 (nA g125) 1 1 [nI z114, nI (gi x24 z48), nI z126, nI z79, nI z127], nR 3 A56 x55 k57, nR 3 A25 x24 k26, .row 95 7 (nA g18) 1 1 [nS A20 x19 k21, nI z119, nI z120, nI z121, nI z122, nI z123, nI z124], .row 4 1 A20 x19.length k21 (bs x19), .row 38 5 (nA g11) 1 1 [nI 0, nI 0, nI 0, nI 0, nI 0]]) (fun (z119, z120, z121, z122, z123, z124, z126, z127, b128, g125) => [(0, nP g18), (1, nI (gi x24 z48)), (2, nI z79), (3, nS A56 x55 k57), (8, nI (x55.length : Int)), (9, nI r93), (10, nI z114), (11, nI (gi x55 z114)), (12, nP g125), (19, nS A56 x55 k57), (20, nI (x55.length : Int)), (21, nI z114), (22, .bool (decide (z114 < (x55.length : Int)))), (38, .bool b128)]) ?_ ?_
     .refine W.block ?_; refine Je 3 ?_; obtain ⟨o130, hv⟩ := hv; refine JF JK XE3 (hS.rd (i := 0) rfl) rfl rfl o130 rfl <| JI XU3 rfl rfl (Qw (hS.rd (i := 0) rfl) o130) rfl <| Jb 3 <| Je 5 <| JE (cells := #[nI z114, nI (gi x24 z48), nI (gi x55 z114), nI 0, nI 0]) QW rfl rfl rfl <| SL.alloc (cs := [nI 0, nI 0, nI 0, nI 0, nI 0]) hS Jk rfl rfl ?_; intro g131 w132 hS; refine JC (cs := [nI z114, nI (gi x24 z48), nI (gi x55 z114), nI 0, nI 0]) 0 hS rfl Jk rfl rfl rfl rfl rfl ?_; intro w133 hS; refine Ja <| Je 3 <| Jr 0 Jk JA hS rfl ⟨rfl, rfl⟩ rfl <| QP (vs := [nP g18, .agg #[nI z114, nI (gi x24 z48), nI (gi x55 z114), nI 0, nI 0]]) (cs := []) (R := fun v1 w1 => ∃ (z134 : Int) (z135 : Int) (z136 : Int) (z137 : Int) (z138 : Int) (z139 : Int), v1 = .tuple #[] /\ (∃ (I166 : Int -> Int -> Int -> Int -> Int -> Int -> Int -> Int -> Prop) (μ167 : Int -> Int -> Int -> Int -> Int -> Int -> Int -> Int -> Nat), I166 (gi x55 z114) (0 : Int) z134 z135 z136 z137 z138 z139 /\ ∀ (z158 : Int) (z159 : Int) (z160 : Int) (z161 : Int) (z162 : Int) (z163 : Int) (z164 : Int) (z165 : Int), (I166 z158 z159 z160 z161 z162 z163 z164 z165 -> (((z159 < (x55.length : Int)) -> ((I64 (z159 + 1)) /\ ((I64 ((z159 + 1) * z79)) /\ ((I64 (z114 + ((z159 + 1) * z79))) /\ (((x55.length : Int) ≠ 0) /\ ((0 <= ((z114 + ((z159 + 1) * z79)).tmod (x55.length : Int)) /\ ((z114 + ((z159 + 1) * z79)).tmod (x55.length : Int)) < (x55.length : Nat)) /\ ((((min z158 (gi x55 ((z114 + ((z159 + 1) * z79)).tmod (x55.length : Int)))) < r93) -> (J129 z160 z161 z162 z163 z164 z165 (min z158 (gi x55 ((z114 + ((z159 + 1) * z79)).tmod (x55.length : Int)))) (z159 + 1) (decide (z159 < (x55.length : Int))))) /\ (¬ ((min z158 (gi x55 ((z114 + ((z159 + 1) * z79)).tmod (x55.length : Int)))) < r93) -> (∃ (r203 : Int), JO z114 (gi x24 z48) (min z158 (gi x55 ((z114 + ((z159 + 1) * z79)).tmod (x55.length : Int)))) z79 (z159 + 1) (fun q => q = r203) /\ (((z160 < r203) -> (∃ (r217 : Int), JO z114 (gi x24 z48) (min z158 (gi x55 ((z114 + ((z159 + 1) * z79)).tmod (x55.length : Int)))) z79 (z159 + 1) (fun q => q = r217) /\ ((fun (z192 : Int) (z193 : Int) (z194 : Int) (z195 : Int) (z196 : Int) (z197 : Int) => I166 (min z158 (gi x55 ((z114 + ((z159 + 1) * z79)).tmod (x55.length : Int)))) (z159 + 1) z192 z193 z194 z195 z196 z197 /\ μ167 (min z158 (gi x55 ((z114 + ((z159 + 1) * z79)).tmod (x55.length : Int)))) (z159 + 1) z192 z193 z194 z195 z196 z197 < μ167 z158 z159 z160 z161 z162 z163 z164 z165) r217 z114 (gi x24 z48) (min z158 (gi x55 ((z114 + ((z159 + 1) * z79)).tmod (x55.length : Int)))) z79 (z159 + 1)))) /\ (¬ (z160 < r203) -> ((fun (z192 : Int) (z193 : Int) (z194 : Int) (z195 : Int) (z196 : Int) (z197 : Int) => I166 (min z158 (gi x55 ((z114 + ((z159 + 1) * z79)).tmod (x55.length : Int)))) (z159 + 1) z192 z193 z194 z195 z196 z197 /\ μ167 (min z158 (gi x55 ((z114 + ((z159 + 1) * z79)).tmod (x55.length : Int)))) (z159 + 1) z192 z193 z194 z195 z196 z197 < μ167 z158 z159 z160 z161 z162 z163 z164 z165) z160 z161 z162 z163 z164 z165)))))))))))) /\ (¬ (z159 < (x55.length : Int)) -> (J129 z160 z161 z162 z163 z164 z165 z158 z159 (decide (z159 < (x55.length : Int)))))))) /\ St TT w none w1 [.row 38 5 (nA g131) 1 1 [nI z114, nI (gi x24 z48), nI (gi x55 z114), nI 0, nI 0], nR 3 A56 x55 k57, nR 3 A25 x24 k26, .row 95 7 (nA g18) 1 1 [nS A20 x19 k21, nI z134, nI z135, nI z136, nI z137, nI z138, nI z139], .row 4 1 A20 x19.length k21 (bs x19), .row 38 5 (nA g11) 1 1 [nI 0, nI 0, nI 0, nI 0, nI 0]]) rfl Jbg rfl XN68 rfl rfl (Jl (vs := [nP g18, .agg #[nI z114, nI (gi x24 z48), nI (gi x55 z114), nI 0, nI 0]]) [] Jbg rfl rfl rfl rfl ?_) ?_
      .refine Jz ?_; refine JS <| Q6 (z := 5) (cs := [nI z114, nI (gi x24 z48), nI (gi x55 z114), nI 0, nI 0]) hS rfl rfl rfl rfl ?_; intro g227 w228 hS; refine Ja <| Jz ?_; obtain ⟨r231, o233, hv⟩ := hv; refine JQ 7 [⟨[], [3], false⟩, ⟨[0], [], false⟩, ⟨[], [0], true⟩, ⟨[2], [], true⟩, ⟨[3], [], true⟩, ⟨[4], [], false⟩, ⟨[1, 5], [], true⟩] [(4, .agg #[nI z114, nI (gi x24 z48), nI (gi x55 z114), nI 0, nI 0]), (5, nI r231), (6, nP g18), (7, nP g18), (8, .pointer (some ((⟨g18, 0, none⟩ : Addr).add 1))), (9, nI z108), (10, .bool (decide (z108 < r231)))] Try.mixed (by kernel_rfl) rfl rfl ?_ ?_
       . refine ⟨og hS fun _ _ hS => Jr 0 Jk JA hS rfl ⟨rfl, rfl⟩ rfl <| Ja ⟨rfl, Ji _⟩, ?_, oD, oD, fun _ _ _ => Jc (off := 1) QO rfl rfl <| Ja ⟨rfl, rfl⟩, og hS fun _ _ hS => Jo 4 1 XU3 hS rfl rfl rfl ⟨rfl, rfl⟩ <| Ja ⟨rfl, Ji _⟩, oD, trivial⟩; intro w230 hE RR; refine WL.call Z9 rfl Jbf rfl rfl (Jw (Qs  o233)) ?_; rintro _ w232 ⟨_, hGw232, hRww232, hNww232, r231q, rfl, rfl, he⟩; subst he; exact Ja ⟨rfl, hGw232⟩
       intro w239 hT; have hS := hS.grow hT; refine JH <| Jg rfl (fun c240 => ?_) (fun c240 => ?_)
       .have hv := hv.1 (oT c240); obtain ⟨r245, o247, hv⟩ := hv; have hS0 := hS; refine Zs 7 [1, 4] (fun _ => false) (fun _ => none) (fun _ v u => u = v) [⟨[], [0], true⟩, ⟨[], [0], true⟩, ⟨[], [3], false⟩, ⟨[2], [], false⟩, ⟨[], [3], false⟩, ⟨[0], [], true⟩, ⟨[5], [], true⟩] [.k 11 (nP g18), .k 12 (nP g18), .k 13 (.agg #[nI z114, nI (gi x24 z48), nI (gi x55 z114), nI 0, nI 0]), .k 14 (nI r245), .k 15 (.agg #[nI z114, nI (gi x24 z48), nI (gi x55 z114), nI 0, nI 0]), .k 16 (nP g18), .k 17 (.pointer (some ((⟨g18, 0, none⟩ : Addr).add 1)))] (fun _ => vbD) Try.mixed (by kernel_rfl) rfl rfl (fun _ _ _ _ _ _ _ h => h) ?_ ?_
        . refine ⟨oC, oC, og hS fun _ _ hS => Jr 0 Jk JA hS rfl ⟨rfl, rfl⟩ rfl <| Ja ⟨rfl, Ji _⟩, ?_, og hS fun _ _ hS => Jr 0 Jk JA hS rfl ⟨rfl, rfl⟩ rfl <| Ja ⟨rfl, Ji _⟩, oC, fun _ _ _ => Jc (off := 1) QO rfl rfl <| Ja ⟨rfl, rfl⟩, trivial⟩; intro w244 hE; intro RR; refine WL.call Z9 rfl Jbf rfl rfl (Jw (Qs  o247)) ?_; rintro _ w246 ⟨_, hGw246, hRww246, hNww246, r245q, rfl, rfl, he⟩; subst he; exact Ja ⟨rfl, hGw246⟩
        intro X hX; have hX : X ∈ ([[], [4], [1], [1, 4]] : List (List Nat)) := hX; simp only [List.mem_cons, List.not_mem_nil, or_false] at hX; rcases hX with rfl | rfl | rfl | rfl
        .intro vals w251 hT hVs hAp hCp q_ hq_; have hS := hS.grow hT; obtain rfl : q_ = 4 := hq_.trans (by decide +kernel); refine Jf 7 rfl <| Jn (cs' := [nS A20 x19 k21, nI r245, nI z109, nI z110, nI z111, nI z112, nI z113]) 4 1 hS rfl XE3 rfl rfl rfl (Ju rfl) rfl ?_; intro w252 hS; refine Ja <| Jf 8 rfl <| Jb 2 <| Jf 9 rfl <| Jc (off := 2) Js rfl rfl <| Ja <| Jf 10 rfl <| Jj (cs' := [nS A20 x19 k21, nI r245, nI z114, nI (gi x24 z48), nI (gi x55 z114), nI 0, nI 0]) 4 2 hS rfl Jk rfl rfl rfl rfl rfl rfl ?_; intro w253 hS; refine Ja <| JH ?_; have hS := hS.pick [1, 2, 3, 4, 5, 6] rfl; refine ⟨_, rfl, Fin.nil ?_⟩; exact ⟨r245, z114, (gi x24 z48), (gi x55 z114), (0 : Int), (0 : Int), rfl, hv, hS⟩
        .intro vals w251 hT hVs hAp hCp q_ hq_; have hS := hS.grow hT; obtain rfl : q_ = 5 := hq_.trans (by decide +kernel); refine Qj 4 7 rfl rfl ?_ ?_
         .refine Jr 0 Jk JA hS rfl ⟨rfl, rfl⟩ rfl <| Ja <| Jf 7 rfl <| Jn (cs' := [nS A20 x19 k21, nI r245, nI z109, nI z110, nI z111, nI z112, nI z113]) 4 1 hS rfl XE3 rfl rfl rfl (Ju rfl) rfl ?_; intro w252 hS; refine Ja <| Jf 8 rfl <| Jb 2 <| Jf 9 rfl <| Jc (off := 2) Js rfl rfl <| Ja <| Jf 10 rfl <| Jj (cs' := [nS A20 x19 k21, nI r245, nI z114, nI (gi x24 z48), nI (gi x55 z114), nI 0, nI 0]) 4 2 hS rfl Jk rfl rfl rfl rfl rfl rfl ?_; intro w253 hS; refine Ja <| JH ?_; have hS := hS.pick [1, 2, 3, 4, 5, 6] rfl; refine ⟨_, rfl, Fin.nil ?_⟩; exact ⟨r245, z114, (gi x24 z48), (gi x55 z114), (0 : Int), (0 : Int), rfl, hv, hS⟩
         refine Jn (cs' := [nS A20 x19 k21, nI r245, nI z109, nI z110, nI z111, nI z112, nI z113]) 4 1 hS rfl XE3 rfl rfl rfl (Ju rfl) rfl ?_; intro w252 hS; refine Ja <| Jf 4 rfl <| Jr 0 Jk JA hS rfl ⟨rfl, rfl⟩ rfl <| Ja <| Jf 8 rfl <| Jb 2 <| Jf 9 rfl <| Jc (off := 2) Js rfl rfl <| Ja <| Jf 10 rfl <| Jj (cs' := [nS A20 x19 k21, nI r245, nI z114, nI (gi x24 z48), nI (gi x55 z114), nI 0, nI 0]) 4 2 hS rfl Jk rfl rfl rfl rfl rfl rfl ?_; intro w253 hS; refine Ja <| JH ?_; have hS := hS.pick [1, 2, 3, 4, 5, 6] rfl; refine ⟨_, rfl, Fin.nil ?_⟩; exact ⟨r245, z114, (gi x24 z48), (gi x55 z114), (0 : Int), (0 : Int), rfl, hv, hS⟩
        .intro vals w251 hT hVs hAp hCp q_ hq_; have hS := hS.grow hT; obtain rfl : q_ = 5 := hq_.trans (by decide +kernel); refine Qj 1 7 rfl rfl ?_ ?_
         .refine Jb 2 <| Jf 7 rfl <| Jn (cs' := [nS A20 x19 k21, nI r245, nI z109, nI z110, nI z111, nI z112, nI z113]) 4 1 hS rfl XE3 rfl rfl rfl (Ju rfl) rfl ?_; intro w252 hS; refine Ja <| Jf 8 rfl <| Jb 2 <| Jf 9 rfl <| Jc (off := 2) Js rfl rfl <| Ja <| Jf 10 rfl <| Jj (cs' := [nS A20 x19 k21, nI r245, nI z114, nI (gi x24 z48), nI (gi x55 z114), nI 0, nI 0]) 4 2 hS rfl Jk rfl rfl rfl rfl rfl rfl ?_; intro w253 hS; refine Ja <| JH ?_; have hS := hS.pick [1, 2, 3, 4, 5, 6] rfl; refine ⟨_, rfl, Fin.nil ?_⟩; exact ⟨r245, z114, (gi x24 z48), (gi x55 z114), (0 : Int), (0 : Int), rfl, hv, hS⟩
         refine Jn (cs' := [nS A20 x19 k21, nI r245, nI z109, nI z110, nI z111, nI z112, nI z113]) 4 1 hS rfl XE3 rfl rfl rfl (Ju rfl) rfl ?_; intro w252 hS; refine Ja <| Jf 1 rfl <| Jb 2 <| Jf 8 rfl <| Jb 2 <| Jf 9 rfl <| Jc (off := 2) Js rfl rfl <| Ja <| Jf 10 rfl <| Jj (cs' := [nS A20 x19 k21, nI r245, nI z114, nI (gi x24 z48), nI (gi x55 z114), nI 0, nI 0]) 4 2 hS rfl Jk rfl rfl rfl rfl rfl rfl ?_; intro w253 hS; refine Ja <| JH ?_; have hS := hS.pick [1, 2, 3, 4, 5, 6] rfl; refine ⟨_, rfl, Fin.nil ?_⟩; exact ⟨r245, z114, (gi x24 z48), (gi x55 z114), (0 : Int), (0 : Int), rfl, hv, hS⟩
        intro vals w251 hT hVs hAp hCp q_ hq_; have hS := hS.grow hT; obtain rfl : q_ = 6 := hq_.trans (by decide +kernel); refine Jcp 1 4 7 rfl rfl rfl ?_ ?_ ?_
        .refine Jb 2 <| Qj 4 7 rfl rfl ?_ ?_
         .refine Jr 0 Jk JA hS rfl ⟨rfl, rfl⟩ rfl <| Ja <| Jf 7 rfl <| Jn (cs' := [nS A20 x19 k21, nI r245, nI z109, nI z110, nI z111, nI z112, nI z113]) 4 1 hS rfl XE3 rfl rfl rfl (Ju rfl) rfl ?_; intro w252 hS; refine Ja <| Jf 8 rfl <| Jb 2 <| Jf 9 rfl <| Jc (off := 2) Js rfl rfl <| Ja <| Jf 10 rfl <| Jj (cs' := [nS A20 x19 k21, nI r245, nI z114, nI (gi x24 z48), nI (gi x55 z114), nI 0, nI 0]) 4 2 hS rfl Jk rfl rfl rfl rfl rfl rfl ?_; intro w253 hS; refine Ja <| JH ?_; have hS := hS.pick [1, 2, 3, 4, 5, 6] rfl; refine ⟨_, rfl, Fin.nil ?_⟩; exact ⟨r245, z114, (gi x24 z48), (gi x55 z114), (0 : Int), (0 : Int), rfl, hv, hS⟩
         refine Jn (cs' := [nS A20 x19 k21, nI r245, nI z109, nI z110, nI z111, nI z112, nI z113]) 4 1 hS rfl XE3 rfl rfl rfl (Ju rfl) rfl ?_; intro w252 hS; refine Ja <| Jf 4 rfl <| Jr 0 Jk JA hS rfl ⟨rfl, rfl⟩ rfl <| Ja <| Jf 8 rfl <| Jb 2 <| Jf 9 rfl <| Jc (off := 2) Js rfl rfl <| Ja <| Jf 10 rfl <| Jj (cs' := [nS A20 x19 k21, nI r245, nI z114, nI (gi x24 z48), nI (gi x55 z114), nI 0, nI 0]) 4 2 hS rfl Jk rfl rfl rfl rfl rfl rfl ?_; intro w253 hS; refine Ja <| JH ?_; have hS := hS.pick [1, 2, 3, 4, 5, 6] rfl; refine ⟨_, rfl, Fin.nil ?_⟩; exact ⟨r245, z114, (gi x24 z48), (gi x55 z114), (0 : Int), (0 : Int), rfl, hv, hS⟩
        .refine Jr 0 Jk JA hS rfl ⟨rfl, rfl⟩ rfl <| Ja <| Qj 1 7 rfl rfl ?_ ?_
         .refine Jb 2 <| Jf 7 rfl <| Jn (cs' := [nS A20 x19 k21, nI r245, nI z109, nI z110, nI z111, nI z112, nI z113]) 4 1 hS rfl XE3 rfl rfl rfl (Ju rfl) rfl ?_; intro w252 hS; refine Ja <| Jf 8 rfl <| Jb 2 <| Jf 9 rfl <| Jc (off := 2) Js rfl rfl <| Ja <| Jf 10 rfl <| Jj (cs' := [nS A20 x19 k21, nI r245, nI z114, nI (gi x24 z48), nI (gi x55 z114), nI 0, nI 0]) 4 2 hS rfl Jk rfl rfl rfl rfl rfl rfl ?_; intro w253 hS; refine Ja <| JH ?_; have hS := hS.pick [1, 2, 3, 4, 5, 6] rfl; refine ⟨_, rfl, Fin.nil ?_⟩; exact ⟨r245, z114, (gi x24 z48), (gi x55 z114), (0 : Int), (0 : Int), rfl, hv, hS⟩
         refine Jn (cs' := [nS A20 x19 k21, nI r245, nI z109, nI z110, nI z111, nI z112, nI z113]) 4 1 hS rfl XE3 rfl rfl rfl (Ju rfl) rfl ?_; intro w252 hS; refine Ja <| Jf 1 rfl <| Jb 2 <| Jf 8 rfl <| Jb 2 <| Jf 9 rfl <| Jc (off := 2) Js rfl rfl <| Ja <| Jf 10 rfl <| Jj (cs' := [nS A20 x19 k21, nI r245, nI z114, nI (gi x24 z48), nI (gi x55 z114), nI 0, nI 0]) 4 2 hS rfl Jk rfl rfl rfl rfl rfl rfl ?_; intro w253 hS; refine Ja <| JH ?_; have hS := hS.pick [1, 2, 3, 4, 5, 6] rfl; refine ⟨_, rfl, Fin.nil ?_⟩; exact ⟨r245, z114, (gi x24 z48), (gi x55 z114), (0 : Int), (0 : Int), rfl, hv, hS⟩
        refine Jn (cs' := [nS A20 x19 k21, nI r245, nI z109, nI z110, nI z111, nI z112, nI z113]) 4 1 hS rfl XE3 rfl rfl rfl (Ju rfl) rfl ?_; intro w252 hS; refine Ja <| Qj 1 4 rfl rfl ?_ ?_
        .refine Jb 2 <| Jf 4 rfl <| Jr 0 Jk JA hS rfl ⟨rfl, rfl⟩ rfl <| Ja <| Jf 8 rfl <| Jb 2 <| Jf 9 rfl <| Jc (off := 2) Js rfl rfl <| Ja <| Jf 10 rfl <| Jj (cs' := [nS A20 x19 k21, nI r245, nI z114, nI (gi x24 z48), nI (gi x55 z114), nI 0, nI 0]) 4 2 hS rfl Jk rfl rfl rfl rfl rfl rfl ?_; intro w253 hS; refine Ja <| JH ?_; have hS := hS.pick [1, 2, 3, 4, 5, 6] rfl; refine ⟨_, rfl, Fin.nil ?_⟩; exact ⟨r245, z114, (gi x24 z48), (gi x55 z114), (0 : Int), (0 : Int), rfl, hv, hS⟩
        refine Jr 0 Jk JA hS rfl ⟨rfl, rfl⟩ rfl <| Ja <| Jf 1 rfl <| Jb 2 <| Jf 8 rfl <| Jb 2 <| Jf 9 rfl <| Jc (off := 2) Js rfl rfl <| Ja <| Jf 10 rfl <| Jj (cs' := [nS A20 x19 k21, nI r245, nI z114, nI (gi x24 z48), nI (gi x55 z114), nI 0, nI 0]) 4 2 hS rfl Jk rfl rfl rfl rfl rfl rfl ?_; intro w253 hS; refine Ja <| JH ?_; have hS := hS.pick [1, 2, 3, 4, 5, 6] rfl; refine ⟨_, rfl, Fin.nil ?_⟩; exact ⟨r245, z114, (gi x24 z48), (gi x55 z114), (0 : Int), (0 : Int), rfl, hv, hS⟩
       have hv := hv.2 (oF c240); refine Jh ?_; have hS := hS.pick [1, 2, 3, 4, 5, 6] rfl; refine ⟨_, rfl, Fin.nil ?_⟩; exact ⟨z108, z109, z110, z111, z112, z113, rfl, hv, hS⟩
      rintro _ w140 ⟨z134, z135, z136, z137, z138, z139, rfl, hv, hS⟩; refine Ja <| Je 3 <| Jc (off := 3) QC rfl rfl <| Jn (cs' := [nI z114, nI (gi x24 z48), nI (gi x55 z114), nI z79, nI 0]) 0 3 hS rfl XE3 rfl rfl rfl (Ju rfl) rfl ?_; intro w141 hS; refine Ja <| W.block ?_; obtain ⟨I166, μ167, hv, hk226⟩ := hv; refine JB (σ := Int × Int × Int × Int × Int × Int × Int × Int) (fun q w1 => match q with | (z158, z159, z160, z161, z162, z163, z164, z165) => I166 z158 z159 z160 z161 z162 z163 z164 z165 /\ St TT w none w1 [.row 38 5 (nA g131) 1 1 [nI z114, nI (gi x24 z48), nI z158, nI z79, nI z159], nR 3 A56 x55 k57, nR 3 A25 x24 k26, .row 95 7 (nA g18) 1 1 [nS A20 x19 k21, nI z160, nI z161, nI z162, nI z163, nI z164, nI z165], .row 4 1 A20 x19.length k21 (bs x19), .row 38 5 (nA g11) 1 1 [nI 0, nI 0, nI 0, nI 0, nI 0]]) (fun (z158, z159, z160, z161, z162, z163, z164, z165) => [(0, nP g18), (1, nI (gi x24 z48)), (2, nI z79), (3, nS A56 x55 k57), (8, nI (x55.length : Int)), (9, nI r93), (10, nI z114), (11, nI (gi x55 z114)), (12, nP g131), (19, nS A56 x55 k57), (20, nI (x55.length : Int)), (21, nI z114), (22, .bool (decide (z114 < (x55.length : Int))))]) (fun (z158, z159, z160, z161, z162, z163, z164, z165) => μ167 z158 z159 z160 z161 z162 z163 z164 z165) ((gi x55 z114), (0 : Int), z134, z135, z136, z137, z138, z139) ⟨hv, hS⟩ ⟨rfl, rfl, rfl, rfl, rfl, rfl, rfl, rfl, rfl, rfl, rfl, rfl, rfl, trivial⟩ ?_; rintro ⟨z158, z159, z160, z161, z162, z163, z164, z165⟩ w168 ⟨hv, hS⟩; have hv := hk226 z158 z159 z160 z161 z162 z163 z164 z165 hv; refine Je 3 <| Jc (off := 4) JM rfl rfl <| Jo 0 4 XU3 hS rfl rfl rfl ⟨rfl, rfl⟩ <| Jb 3 <| Jg rfl (fun c169 => ?_) (fun c169 => ?_)
      .have hv := hv.1 (oT c169); refine Jh <| W.block <| Je 2 <| Jc (off := 4) JM rfl rfl <| Jo 0 4 XU3 hS rfl rfl rfl ⟨rfl, rfl⟩ ?_; obtain ⟨o170, hv⟩ := hv; refine WL.add (r := (z159 + 1)) rfl rfl (wr o170) rfl <| Jc (off := 4) JM rfl rfl <| Jn (cs' := [nI z114, nI (gi x24 z48), nI z158, nI z79, nI (z159 + 1)]) 0 4 hS rfl XE3 rfl rfl rfl (Ju rfl) rfl ?_; intro w171 hS; refine Ja <| Jz ?_; obtain ⟨o180, hv⟩ := hv; obtain ⟨o182, hv⟩ := hv; obtain ⟨o185, hv⟩ := hv; obtain ⟨o187, hv⟩ := hv; refine JQ 13 [⟨[], [12], true⟩, ⟨[0], [], false⟩, ⟨[], [3], true⟩, ⟨[], [10], true⟩, ⟨[], [12], true⟩, ⟨[4], [], false⟩, ⟨[], [2], true⟩, ⟨[5, 6], [], true⟩, ⟨[3, 7], [], true⟩, ⟨[], [8], true⟩, ⟨[8, 9], [], true⟩, ⟨[2, 10], [], true⟩, ⟨[11], [], false⟩] [(43, .pointer (some ((⟨g131, 0, none⟩ : Addr).add 2))), (44, nI z158), (45, nS A56 x55 k57), (46, nI z114), (47, .pointer (some ((⟨g131, 0, none⟩ : Addr).add 4))), (48, nI (z159 + 1)), (49, nI z79), (50, nI ((z159 + 1) * z79)), (51, nI (z114 + ((z159 + 1) * z79))), (52, nI (x55.length : Int)), (53, nI ((z114 + ((z159 + 1) * z79)).tmod (x55.length : Int))), (54, .pointer (some ((Qc A56).add (((z114 + ((z159 + 1) * z79)).tmod (x55.length : Int)).toNat)))), (55, nI (gi x55 ((z114 + ((z159 + 1) * z79)).tmod (x55.length : Int))))] Try.mixed (by kernel_rfl) rfl rfl ?_ ?_
       . refine ⟨fun _ _ _ => Jc (off := 2) J2 rfl rfl <| Ja ⟨rfl, rfl⟩, og hS fun _ _ hS => Jo 0 2 XU3 hS rfl rfl rfl ⟨rfl, rfl⟩ <| Ja ⟨rfl, Ji _⟩, oD, oD, fun _ _ _ => Jc (off := 4) JM rfl rfl <| Ja ⟨rfl, rfl⟩, og hS fun _ _ hS => Jo 0 4 XU3 hS rfl rfl rfl ⟨rfl, rfl⟩ <| Ja ⟨rfl, Ji _⟩, oD, fun _ _ _ => J3 (r := ((z159 + 1) * z79)) rfl rfl (wr o180) rfl <| Ja ⟨rfl, rfl⟩, fun _ _ _ => WL.add (r := (z114 + ((z159 + 1) * z79))) rfl rfl (wr o182) rfl <| Ja ⟨rfl, rfl⟩, oD, fun _ _ _ => Q3 (r := ((z114 + ((z159 + 1) * z79)).tmod (x55.length : Int))) rfl rfl o185 rfl rfl <| Ja ⟨rfl, rfl⟩, fun _ _ _ => JF JK XE3 (hS.rd (i := 1) rfl) rfl rfl o187 rfl <| Ja ⟨rfl, rfl⟩, og hS fun _ _ hS => JI XU3 rfl rfl (Qw (hS.rd (i := 1) rfl) o187) rfl <| Ja ⟨rfl, Ji _⟩, trivial⟩
       intro w189 hT; have hS := hS.grow hT; refine Jf 13 rfl <| Zp (r := (min z158 (gi x55 ((z114 + ((z159 + 1) * z79)).tmod (x55.length : Int))))) rfl rfl rfl rfl <| Ja <| Jf 14 rfl <| Jc (off := 2) J2 rfl rfl <| Ja <| Jf 15 rfl <| Jn (cs' := [nI z114, nI (gi x24 z48), nI (min z158 (gi x55 ((z114 + ((z159 + 1) * z79)).tmod (x55.length : Int)))), nI z79, nI (z159 + 1)]) 0 2 hS rfl XE3 rfl rfl rfl (Ju rfl) rfl ?_; intro w190 hS; refine Ja <| JH <| Je 3 <| Jc (off := 2) J2 rfl rfl <| Jo 0 2 XU3 hS rfl rfl rfl ⟨rfl, rfl⟩ <| Jb 3 <| Jg rfl (fun c191 => ?_) (fun c191 => ?_)
       .have hv := hv.1 (oT c191); refine Jt ?_; exact ⟨(z160, z161, z162, z163, z164, z165, (min z158 (gi x55 ((z114 + ((z159 + 1) * z79)).tmod (x55.length : Int)))), (z159 + 1), (decide (z159 < (x55.length : Int))), g131), sp rfl, rfl, hv, hS⟩
       have hv := hv.2 (oF c191); refine Jh <| Je 2 <| Jr 0 Jk JA hS rfl ⟨rfl, rfl⟩ rfl <| QP (vs := [nP g18, .agg #[nI z114, nI (gi x24 z48), nI (min z158 (gi x55 ((z114 + ((z159 + 1) * z79)).tmod (x55.length : Int)))), nI z79, nI (z159 + 1)]]) (cs := []) (R := fun v1 w1 => ∃ (z192 : Int) (z193 : Int) (z194 : Int) (z195 : Int) (z196 : Int) (z197 : Int), v1 = .tuple #[] /\ (I166 (min z158 (gi x55 ((z114 + ((z159 + 1) * z79)).tmod (x55.length : Int)))) (z159 + 1) z192 z193 z194 z195 z196 z197 /\ μ167 (min z158 (gi x55 ((z114 + ((z159 + 1) * z79)).tmod (x55.length : Int)))) (z159 + 1) z192 z193 z194 z195 z196 z197 < μ167 z158 z159 z160 z161 z162 z163 z164 z165) /\ St TT w none w1 [.row 38 5 (nA g131) 1 1 [nI z114, nI (gi x24 z48), nI (min z158 (gi x55 ((z114 + ((z159 + 1) * z79)).tmod (x55.length : Int)))), nI z79, nI (z159 + 1)], nR 3 A56 x55 k57, nR 3 A25 x24 k26, .row 95 7 (nA g18) 1 1 [nS A20 x19 k21, nI z192, nI z193, nI z194, nI z195, nI z196, nI z197], .row 4 1 A20 x19.length k21 (bs x19), .row 38 5 (nA g11) 1 1 [nI 0, nI 0, nI 0, nI 0, nI 0]]) rfl Jbg rfl XN68 rfl rfl (Jl (vs := [nP g18, .agg #[nI z114, nI (gi x24 z48), nI (min z158 (gi x55 ((z114 + ((z159 + 1) * z79)).tmod (x55.length : Int)))), nI z79, nI (z159 + 1)]]) [] Jbg rfl rfl rfl rfl ?_) ?_
       .refine Jz ?_; refine JS <| Q6 (z := 5) (cs := [nI z114, nI (gi x24 z48), nI (min z158 (gi x55 ((z114 + ((z159 + 1) * z79)).tmod (x55.length : Int)))), nI z79, nI (z159 + 1)]) hS rfl rfl rfl rfl ?_; intro g199 w200 hS; refine Ja <| Jz ?_; obtain ⟨r203, o205, hv⟩ := hv; refine JQ 7 [⟨[], [3], false⟩, ⟨[0], [], false⟩, ⟨[], [0], true⟩, ⟨[2], [], true⟩, ⟨[3], [], true⟩, ⟨[4], [], false⟩, ⟨[1, 5], [], true⟩] [(4, .agg #[nI z114, nI (gi x24 z48), nI (min z158 (gi x55 ((z114 + ((z159 + 1) * z79)).tmod (x55.length : Int)))), nI z79, nI (z159 + 1)]), (5, nI r203), (6, nP g18), (7, nP g18), (8, .pointer (some ((⟨g18, 0, none⟩ : Addr).add 1))), (9, nI z160), (10, .bool (decide (z160 < r203)))] Try.mixed (by kernel_rfl) rfl rfl ?_ ?_
        . refine ⟨og hS fun _ _ hS => Jr 0 Jk JA hS rfl ⟨rfl, rfl⟩ rfl <| Ja ⟨rfl, Ji _⟩, ?_, oD, oD, fun _ _ _ => Jc (off := 1) QO rfl rfl <| Ja ⟨rfl, rfl⟩, og hS fun _ _ hS => Jo 4 1 XU3 hS rfl rfl rfl ⟨rfl, rfl⟩ <| Ja ⟨rfl, Ji _⟩, oD, trivial⟩; intro w202 hE RR; refine WL.call Z9 rfl Jbf rfl rfl (Jw (Qs  o205)) ?_; rintro _ w204 ⟨_, hGw204, hRww204, hNww204, r203q, rfl, rfl, he⟩; subst he; exact Ja ⟨rfl, hGw204⟩
        intro w211 hT; have hS := hS.grow hT; refine JH <| Jg rfl (fun c212 => ?_) (fun c212 => ?_)
        .have hv := hv.1 (oT c212); obtain ⟨r217, o219, hv⟩ := hv; have hS0 := hS; refine Zs 7 [1, 4] (fun _ => false) (fun _ => none) (fun _ v u => u = v) [⟨[], [0], true⟩, ⟨[], [0], true⟩, ⟨[], [3], false⟩, ⟨[2], [], false⟩, ⟨[], [3], false⟩, ⟨[0], [], true⟩, ⟨[5], [], true⟩] [.k 11 (nP g18), .k 12 (nP g18), .k 13 (.agg #[nI z114, nI (gi x24 z48), nI (min z158 (gi x55 ((z114 + ((z159 + 1) * z79)).tmod (x55.length : Int)))), nI z79, nI (z159 + 1)]), .k 14 (nI r217), .k 15 (.agg #[nI z114, nI (gi x24 z48), nI (min z158 (gi x55 ((z114 + ((z159 + 1) * z79)).tmod (x55.length : Int)))), nI z79, nI (z159 + 1)]), .k 16 (nP g18), .k 17 (.pointer (some ((⟨g18, 0, none⟩ : Addr).add 1)))] (fun _ => vbD) Try.mixed (by kernel_rfl) rfl rfl (fun _ _ _ _ _ _ _ h => h) ?_ ?_
         .refine ⟨oC, oC, og hS fun _ _ hS => Jr 0 Jk JA hS rfl ⟨rfl, rfl⟩ rfl <| Ja ⟨rfl, Ji _⟩, ?_, og hS fun _ _ hS => Jr 0 Jk JA hS rfl ⟨rfl, rfl⟩ rfl <| Ja ⟨rfl, Ji _⟩, oC, fun _ _ _ => Jc (off := 1) QO rfl rfl <| Ja ⟨rfl, rfl⟩, trivial⟩; intro w216 hE; intro RR; refine WL.call Z9 rfl Jbf rfl rfl (Jw (Qs  o219)) ?_; rintro _ w218 ⟨_, hGw218, hRww218, hNww218, r217q, rfl, rfl, he⟩; subst he; exact Ja ⟨rfl, hGw218⟩
         intro X hX; have hX : X ∈ ([[], [4], [1], [1, 4]] : List (List Nat)) := hX; simp only [List.mem_cons, List.not_mem_nil, or_false] at hX; rcases hX with rfl | rfl | rfl | rfl
         .intro vals w223 hT hVs hAp hCp q_ hq_; have hS := hS.grow hT; obtain rfl : q_ = 4 := hq_.trans (by decide +kernel); refine Jf 7 rfl <| Jn (cs' := [nS A20 x19 k21, nI r217, nI z161, nI z162, nI z163, nI z164, nI z165]) 4 1 hS rfl XE3 rfl rfl rfl (Ju rfl) rfl ?_; intro w224 hS; refine Ja <| Jf 8 rfl <| Jb 2 <| Jf 9 rfl <| Jc (off := 2) Js rfl rfl <| Ja <| Jf 10 rfl <| Jj (cs' := [nS A20 x19 k21, nI r217, nI z114, nI (gi x24 z48), nI (min z158 (gi x55 ((z114 + ((z159 + 1) * z79)).tmod (x55.length : Int)))), nI z79, nI (z159 + 1)]) 4 2 hS rfl Jk rfl rfl rfl rfl rfl rfl ?_; intro w225 hS; refine Ja <| JH ?_; have hS := hS.pick [1, 2, 3, 4, 5, 6] rfl; refine ⟨_, rfl, Fin.nil ?_⟩; exact ⟨r217, z114, (gi x24 z48), (min z158 (gi x55 ((z114 + ((z159 + 1) * z79)).tmod (x55.length : Int)))), z79, (z159 + 1), rfl, hv, hS⟩
         .intro vals w223 hT hVs hAp hCp q_ hq_; have hS := hS.grow hT; obtain rfl : q_ = 5 := hq_.trans (by decide +kernel); refine Qj 4 7 rfl rfl ?_ ?_
          .refine Jr 0 Jk JA hS rfl ⟨rfl, rfl⟩ rfl <| Ja <| Jf 7 rfl <| Jn (cs' := [nS A20 x19 k21, nI r217, nI z161, nI z162, nI z163, nI z164, nI z165]) 4 1 hS rfl XE3 rfl rfl rfl (Ju rfl) rfl ?_; intro w224 hS; refine Ja <| Jf 8 rfl <| Jb 2 <| Jf 9 rfl <| Jc (off := 2) Js rfl rfl <| Ja <| Jf 10 rfl <| Jj (cs' := [nS A20 x19 k21, nI r217, nI z114, nI (gi x24 z48), nI (min z158 (gi x55 ((z114 + ((z159 + 1) * z79)).tmod (x55.length : Int)))), nI z79, nI (z159 + 1)]) 4 2 hS rfl Jk rfl rfl rfl rfl rfl rfl ?_; intro w225 hS; refine Ja <| JH ?_; have hS := hS.pick [1, 2, 3, 4, 5, 6] rfl; refine ⟨_, rfl, Fin.nil ?_⟩; exact ⟨r217, z114, (gi x24 z48), (min z158 (gi x55 ((z114 + ((z159 + 1) * z79)).tmod (x55.length : Int)))), z79, (z159 + 1), rfl, hv, hS⟩
          refine Jn (cs' := [nS A20 x19 k21, nI r217, nI z161, nI z162, nI z163, nI z164, nI z165]) 4 1 hS rfl XE3 rfl rfl rfl (Ju rfl) rfl ?_; intro w224 hS; refine Ja <| Jf 4 rfl <| Jr 0 Jk JA hS rfl ⟨rfl, rfl⟩ rfl <| Ja <| Jf 8 rfl <| Jb 2 <| Jf 9 rfl <| Jc (off := 2) Js rfl rfl <| Ja <| Jf 10 rfl <| Jj (cs' := [nS A20 x19 k21, nI r217, nI z114, nI (gi x24 z48), nI (min z158 (gi x55 ((z114 + ((z159 + 1) * z79)).tmod (x55.length : Int)))), nI z79, nI (z159 + 1)]) 4 2 hS rfl Jk rfl rfl rfl rfl rfl rfl ?_; intro w225 hS; refine Ja <| JH ?_; have hS := hS.pick [1, 2, 3, 4, 5, 6] rfl; refine ⟨_, rfl, Fin.nil ?_⟩; exact ⟨r217, z114, (gi x24 z48), (min z158 (gi x55 ((z114 + ((z159 + 1) * z79)).tmod (x55.length : Int)))), z79, (z159 + 1), rfl, hv, hS⟩
         .intro vals w223 hT hVs hAp hCp q_ hq_; have hS := hS.grow hT; obtain rfl : q_ = 5 := hq_.trans (by decide +kernel); refine Qj 1 7 rfl rfl ?_ ?_
          .refine Jb 2 <| Jf 7 rfl <| Jn (cs' := [nS A20 x19 k21, nI r217, nI z161, nI z162, nI z163, nI z164, nI z165]) 4 1 hS rfl XE3 rfl rfl rfl (Ju rfl) rfl ?_; intro w224 hS; refine Ja <| Jf 8 rfl <| Jb 2 <| Jf 9 rfl <| Jc (off := 2) Js rfl rfl <| Ja <| Jf 10 rfl <| Jj (cs' := [nS A20 x19 k21, nI r217, nI z114, nI (gi x24 z48), nI (min z158 (gi x55 ((z114 + ((z159 + 1) * z79)).tmod (x55.length : Int)))), nI z79, nI (z159 + 1)]) 4 2 hS rfl Jk rfl rfl rfl rfl rfl rfl ?_; intro w225 hS; refine Ja <| JH ?_; have hS := hS.pick [1, 2, 3, 4, 5, 6] rfl; refine ⟨_, rfl, Fin.nil ?_⟩; exact ⟨r217, z114, (gi x24 z48), (min z158 (gi x55 ((z114 + ((z159 + 1) * z79)).tmod (x55.length : Int)))), z79, (z159 + 1), rfl, hv, hS⟩
          refine Jn (cs' := [nS A20 x19 k21, nI r217, nI z161, nI z162, nI z163, nI z164, nI z165]) 4 1 hS rfl XE3 rfl rfl rfl (Ju rfl) rfl ?_; intro w224 hS; refine Ja <| Jf 1 rfl <| Jb 2 <| Jf 8 rfl <| Jb 2 <| Jf 9 rfl <| Jc (off := 2) Js rfl rfl <| Ja <| Jf 10 rfl <| Jj (cs' := [nS A20 x19 k21, nI r217, nI z114, nI (gi x24 z48), nI (min z158 (gi x55 ((z114 + ((z159 + 1) * z79)).tmod (x55.length : Int)))), nI z79, nI (z159 + 1)]) 4 2 hS rfl Jk rfl rfl rfl rfl rfl rfl ?_; intro w225 hS; refine Ja <| JH ?_; have hS := hS.pick [1, 2, 3, 4, 5, 6] rfl; refine ⟨_, rfl, Fin.nil ?_⟩; exact ⟨r217, z114, (gi x24 z48), (min z158 (gi x55 ((z114 + ((z159 + 1) * z79)).tmod (x55.length : Int)))), z79, (z159 + 1), rfl, hv, hS⟩
         intro vals w223 hT hVs hAp hCp q_ hq_; have hS := hS.grow hT; obtain rfl : q_ = 6 := hq_.trans (by decide +kernel); refine Jcp 1 4 7 rfl rfl rfl ?_ ?_ ?_
         .refine Jb 2 <| Qj 4 7 rfl rfl ?_ ?_
          .refine Jr 0 Jk JA hS rfl ⟨rfl, rfl⟩ rfl <| Ja <| Jf 7 rfl <| Jn (cs' := [nS A20 x19 k21, nI r217, nI z161, nI z162, nI z163, nI z164, nI z165]) 4 1 hS rfl XE3 rfl rfl rfl (Ju rfl) rfl ?_; intro w224 hS; refine Ja <| Jf 8 rfl <| Jb 2 <| Jf 9 rfl <| Jc (off := 2) Js rfl rfl <| Ja <| Jf 10 rfl <| Jj (cs' := [nS A20 x19 k21, nI r217, nI z114, nI (gi x24 z48), nI (min z158 (gi x55 ((z114 + ((z159 + 1) * z79)).tmod (x55.length : Int)))), nI z79, nI (z159 + 1)]) 4 2 hS rfl Jk rfl rfl rfl rfl rfl rfl ?_; intro w225 hS; refine Ja <| JH ?_; have hS := hS.pick [1, 2, 3, 4, 5, 6] rfl; refine ⟨_, rfl, Fin.nil ?_⟩; exact ⟨r217, z114, (gi x24 z48), (min z158 (gi x55 ((z114 + ((z159 + 1) * z79)).tmod (x55.length : Int)))), z79, (z159 + 1), rfl, hv, hS⟩
          refine Jn (cs' := [nS A20 x19 k21, nI r217, nI z161, nI z162, nI z163, nI z164, nI z165]) 4 1 hS rfl XE3 rfl rfl rfl (Ju rfl) rfl ?_; intro w224 hS; refine Ja <| Jf 4 rfl <| Jr 0 Jk JA hS rfl ⟨rfl, rfl⟩ rfl <| Ja <| Jf 8 rfl <| Jb 2 <| Jf 9 rfl <| Jc (off := 2) Js rfl rfl <| Ja <| Jf 10 rfl <| Jj (cs' := [nS A20 x19 k21, nI r217, nI z114, nI (gi x24 z48), nI (min z158 (gi x55 ((z114 + ((z159 + 1) * z79)).tmod (x55.length : Int)))), nI z79, nI (z159 + 1)]) 4 2 hS rfl Jk rfl rfl rfl rfl rfl rfl ?_; intro w225 hS; refine Ja <| JH ?_; have hS := hS.pick [1, 2, 3, 4, 5, 6] rfl; refine ⟨_, rfl, Fin.nil ?_⟩; exact ⟨r217, z114, (gi x24 z48), (min z158 (gi x55 ((z114 + ((z159 + 1) * z79)).tmod (x55.length : Int)))), z79, (z159 + 1), rfl, hv, hS⟩
         .refine Jr 0 Jk JA hS rfl ⟨rfl, rfl⟩ rfl <| Ja <| Qj 1 7 rfl rfl ?_ ?_
          .refine Jb 2 <| Jf 7 rfl <| Jn (cs' := [nS A20 x19 k21, nI r217, nI z161, nI z162, nI z163, nI z164, nI z165]) 4 1 hS rfl XE3 rfl rfl rfl (Ju rfl) rfl ?_; intro w224 hS; refine Ja <| Jf 8 rfl <| Jb 2 <| Jf 9 rfl <| Jc (off := 2) Js rfl rfl <| Ja <| Jf 10 rfl <| Jj (cs' := [nS A20 x19 k21, nI r217, nI z114, nI (gi x24 z48), nI (min z158 (gi x55 ((z114 + ((z159 + 1) * z79)).tmod (x55.length : Int)))), nI z79, nI (z159 + 1)]) 4 2 hS rfl Jk rfl rfl rfl rfl rfl rfl ?_; intro w225 hS; refine Ja <| JH ?_; have hS := hS.pick [1, 2, 3, 4, 5, 6] rfl; refine ⟨_, rfl, Fin.nil ?_⟩; exact ⟨r217, z114, (gi x24 z48), (min z158 (gi x55 ((z114 + ((z159 + 1) * z79)).tmod (x55.length : Int)))), z79, (z159 + 1), rfl, hv, hS⟩
          refine Jn (cs' := [nS A20 x19 k21, nI r217, nI z161, nI z162, nI z163, nI z164, nI z165]) 4 1 hS rfl XE3 rfl rfl rfl (Ju rfl) rfl ?_; intro w224 hS; refine Ja <| Jf 1 rfl <| Jb 2 <| Jf 8 rfl <| Jb 2 <| Jf 9 rfl <| Jc (off := 2) Js rfl rfl <| Ja <| Jf 10 rfl <| Jj (cs' := [nS A20 x19 k21, nI r217, nI z114, nI (gi x24 z48), nI (min z158 (gi x55 ((z114 + ((z159 + 1) * z79)).tmod (x55.length : Int)))), nI z79, nI (z159 + 1)]) 4 2 hS rfl Jk rfl rfl rfl rfl rfl rfl ?_; intro w225 hS; refine Ja <| JH ?_; have hS := hS.pick [1, 2, 3, 4, 5, 6] rfl; refine ⟨_, rfl, Fin.nil ?_⟩; exact ⟨r217, z114, (gi x24 z48), (min z158 (gi x55 ((z114 + ((z159 + 1) * z79)).tmod (x55.length : Int)))), z79, (z159 + 1), rfl, hv, hS⟩
         refine Jn (cs' := [nS A20 x19 k21, nI r217, nI z161, nI z162, nI z163, nI z164, nI z165]) 4 1 hS rfl XE3 rfl rfl rfl (Ju rfl) rfl ?_; intro w224 hS; refine Ja <| Qj 1 4 rfl rfl ?_ ?_
         .refine Jb 2 <| Jf 4 rfl <| Jr 0 Jk JA hS rfl ⟨rfl, rfl⟩ rfl <| Ja <| Jf 8 rfl <| Jb 2 <| Jf 9 rfl <| Jc (off := 2) Js rfl rfl <| Ja <| Jf 10 rfl <| Jj (cs' := [nS A20 x19 k21, nI r217, nI z114, nI (gi x24 z48), nI (min z158 (gi x55 ((z114 + ((z159 + 1) * z79)).tmod (x55.length : Int)))), nI z79, nI (z159 + 1)]) 4 2 hS rfl Jk rfl rfl rfl rfl rfl rfl ?_; intro w225 hS; refine Ja <| JH ?_; have hS := hS.pick [1, 2, 3, 4, 5, 6] rfl; refine ⟨_, rfl, Fin.nil ?_⟩; exact ⟨r217, z114, (gi x24 z48), (min z158 (gi x55 ((z114 + ((z159 + 1) * z79)).tmod (x55.length : Int)))), z79, (z159 + 1), rfl, hv, hS⟩
         refine Jr 0 Jk JA hS rfl ⟨rfl, rfl⟩ rfl <| Ja <| Jf 1 rfl <| Jb 2 <| Jf 8 rfl <| Jb 2 <| Jf 9 rfl <| Jc (off := 2) Js rfl rfl <| Ja <| Jf 10 rfl <| Jj (cs' := [nS A20 x19 k21, nI r217, nI z114, nI (gi x24 z48), nI (min z158 (gi x55 ((z114 + ((z159 + 1) * z79)).tmod (x55.length : Int)))), nI z79, nI (z159 + 1)]) 4 2 hS rfl Jk rfl rfl rfl rfl rfl rfl ?_; intro w225 hS; refine Ja <| JH ?_; have hS := hS.pick [1, 2, 3, 4, 5, 6] rfl; refine ⟨_, rfl, Fin.nil ?_⟩; exact ⟨r217, z114, (gi x24 z48), (min z158 (gi x55 ((z114 + ((z159 + 1) * z79)).tmod (x55.length : Int)))), z79, (z159 + 1), rfl, hv, hS⟩
        have hv := hv.2 (oF c212); refine Jh ?_; have hS := hS.pick [1, 2, 3, 4, 5, 6] rfl; refine ⟨_, rfl, Fin.nil ?_⟩; exact ⟨z160, z161, z162, z163, z164, z165, rfl, hv, hS⟩
       rintro _ w198 ⟨z192, z193, z194, z195, z196, z197, rfl, hv, hS⟩; refine Ja ?_; exact ⟨((min z158 (gi x55 ((z114 + ((z159 + 1) * z79)).tmod (x55.length : Int)))), (z159 + 1), z192, z193, z194, z195, z196, z197), sp rfl, hv.2, rfl, hv.1, hS⟩
      have hv := hv.2 (oF c169); refine Jt ?_; exact ⟨(z160, z161, z162, z163, z164, z165, z158, z159, (decide (z159 < (x55.length : Int))), g131), sp rfl, rfl, hv, hS⟩
     rintro ⟨z119, z120, z121, z122, z123, z124, z126, z127, b128, g125⟩ w254 ⟨hv, hS⟩; have hv := hk256 z119 z120 z121 z122 z123 z124 z126 z127 b128 hv; refine JS ?_; obtain ⟨o255, hv⟩ := hv; refine WL.add (r := (z114 + 1)) rfl rfl (wr o255) rfl <| Jb 2 ?_; have hS := hS.pick [1, 2, 3, 4, 5] rfl; exact ⟨(z119, z120, z121, z122, z123, z124, (z114 + 1)), sp rfl, hv.2, rfl, hv.1, hS⟩
    have hv := hv.2 (oF c118); refine Jt <| ⟨_, rfl, Fin.nil ?_⟩
    exact ⟨z108, z109, z110, z111, z112, z113, rfl, hv, hS⟩
   rintro _ w90 ⟨z84, z85, z86, z87, z88, z89, rfl, hv, hS⟩; refine Ja <| JS ?_; obtain ⟨o91, hv⟩ := hv; refine WL.add (r := (z79 + 1)) rfl rfl (wr o91) rfl <| Jb 2 ?_; exact ⟨(z84, z85, z86, z87, z88, z89, (z79 + 1)), sp rfl, hv.2, rfl, hv.1, hS⟩
  have hv := hv.2 (oF c83); refine Jt <| JS ?_; obtain ⟨o258, hv⟩ := hv; refine WL.add (r := (z48 + 1)) rfl rfl (wr o258) rfl <| Jb 2 ?_; have hS := hS.pick [1, 2, 3, 4] rfl; exact ⟨(z73, z74, z75, z76, z77, z78, (z48 + 1)), sp rfl, hv.2, rfl, hv.1, hS⟩
 have hv := hv.2 (oF c52); refine Jt <| Jz <| JQ 9 [⟨[], [7], true⟩, ⟨[0], [], true⟩, ⟨[1], [], true⟩, ⟨[2], [], false⟩, ⟨[], [7], true⟩, ⟨[4], [], true⟩, ⟨[5], [], true⟩, ⟨[6], [], false⟩, ⟨[3], [], true⟩] [(40, nP g18), (41, nP g18), (42, .pointer (some ((⟨g18, 0, none⟩ : Addr).add 1))), (43, nI z42), (44, nP g18), (45, nP g18), (46, .pointer (some ((⟨g18, 0, none⟩ : Addr).add 2))), (47, .agg #[nI z43, nI z44, nI z45, nI z46, nI z47]), (4, nI z42)] Try.mixed (by kernel_rfl) rfl rfl ?_ ?_
 . refine ⟨oD, oD, fun _ _ _ => Jc (off := 1) QO rfl rfl <| Ja ⟨rfl, rfl⟩, og hS fun _ _ hS => Jo 1 1 XU3 hS rfl rfl rfl ⟨rfl, rfl⟩ <| Ja ⟨rfl, Ji _⟩, oD, oD, fun _ _ _ => Jc (off := 2) Js rfl rfl <| Ja ⟨rfl, rfl⟩, og hS fun _ _ hS => YW (cs := [nI z43, nI z44, nI z45, nI z46, nI z47]) Jk JA rfl rfl (vpart (hS.rd (i := 1) rfl) 2 rfl) rfl <| Ja ⟨rfl, Ji _⟩, oD, trivial⟩
 intro w269 hT; have hS := hS.grow hT; refine Jf 9 rfl <| JC (cs := [nI z43, nI z44, nI z45, nI z46, nI z47]) 3 hS rfl Jk rfl rfl rfl rfl rfl ?_; intro w270 hS; refine Ja <| Jf 10 rfl <| Jb 2 <| JH <| W.ret ?_
 repeat with_reducible first | refine blk.ret ?_ | refine exits.retI ?_
 refine endC.mk ⟨[nI z42, .agg #[nI z43, nI z44, nI z45, nI z46, nI z47], nI 0], ⟨_, _, rfl, rfl, ⟨_, _, _, rfl, rfl, Qq (cs := [nI z43, nI z44, nI z45, nI z46, nI z47]) Jk JA rfl (J6 (hS.own (i := 3) rfl)), ⟨_, _, rfl, rfl, rfl⟩⟩⟩, ?_⟩; exact (hS.pick [] rfl).fin rfl ⟨z42, z43, z44, z45, z46, z47, (0 : Int), rfl, rfl, hv⟩
end Go.Proofs.Ytppkigdakobebaa
namespace Go.Proofs.Ytppkigdakobebaa
open Go.RowKit
def QV (a : Int) (b : Int) (Q : Int -> Prop) : Prop :=
  ∃ (I17 : Int -> Int -> Prop) (μ18 : Int -> Int -> Nat), I17 a b /\ ∀ (z15 : Int) (z16 : Int), (I17 z15 z16 -> ((((0 : Int) < z16) -> ((z16 ≠ 0) /\ (I17 z16 (z15.tmod z16) /\ μ18 z16 (z15.tmod z16) < μ18 z15 z16))) /\ (¬ ((0 : Int) < z16) -> Q z15)))
theorem Z0 {w : World} {Q : Int -> Prop} {a : Int} {b : Int}  (hv : QV a b Q) :
   Calls Try.prog 51 #[.int .i64 a, .int .i64 b] w <| Rt w fun v Qr => ∃ (r0 : Int), v = .int .i64 r0 /\ Qr = [] /\ Q r0 := by
 refine Jm <| Jl (vs := [nI a, nI b]) [4] XF51 rfl rfl rfl rfl ?_; have hS := Jp w; unfold QV at hv; refine Je 5 <| W.block ?_; obtain ⟨I17, μ18, hv, hk29⟩ := hv; refine JB (σ := Int × Int) (fun q w1 => match q with | (z15, z16) => I17 z15 z16 /\ St TT w none w1 []) (fun (z15, z16) => [(0, nI z15), (1, nI z16), (4, nI 0)]) (fun (z15, z16) => μ18 z15 z16) (a, b) ⟨hv, hS⟩ ⟨rfl, rfl, rfl, trivial⟩ ?_; rintro ⟨z15, z16⟩ w19 ⟨hv, hS⟩; have hv := hk29 z15 z16 hv; refine Je 6 <| Jg rfl (fun c20 => ?_) (fun c20 => ?_)
 .have hv := hv.1 (oT c20); refine Jh <| W.block ?_; obtain ⟨o25, hv⟩ := hv; refine JQ 6 [⟨[], [1], true⟩, ⟨[], [0], true⟩, ⟨[], [1], true⟩, ⟨[1, 2], [], true⟩, ⟨[0], [], true⟩, ⟨[3], [], true⟩] [(7, nI z16), (8, nI z15), (9, nI z16), (10, nI (z15.tmod z16)), (0, nI z16), (1, nI (z15.tmod z16))] Try.mixed (by kernel_rfl) rfl rfl ?_ ?_
  .refine ⟨oD, oD, oD, fun _ _ _ => Q3 (r := (z15.tmod z16)) rfl rfl o25 rfl rfl <| Ja ⟨rfl, rfl⟩, oD, oD, trivial⟩
  intro w28 hT; have hS := hS.grow hT; refine JH ?_; exact ⟨(z16, (z15.tmod z16)), sp rfl, hv.2, rfl, hv.1, hS⟩
 have hv := hv.2 (oF c20); refine Jt <| Je 5 <| W.ret <| ⟨_, rfl, Fin.nil ?_⟩
 exact (hS.pick [] rfl).fin rfl ⟨z15, rfl, rfl, hv⟩
def JV (a : Int) (b : Int) (Q : Int -> Prop) : Prop :=
  ((a = 0) -> Q b) /\ (¬ (a = 0) -> (QV a b (fun r13 => Q r13)))
theorem JY {w : World} {Q : Int -> Prop} {a : Int} {b : Int}  (hv : JV a b Q) :
   Calls Try.prog 27 #[.int .i64 a, .int .i64 b] w <| Rt w fun v Qr => ∃ (r0 : Int), v = .int .i64 r0 /\ Qr = [] /\ Q r0 := by
 refine Jm <| Jl (vs := [nI a, nI b]) [4] Yy rfl rfl rfl rfl ?_; have hS := Jp w; unfold JV at hv; refine Je 10 <| Jg rfl (fun c11 => ?_) (fun c11 => ?_)
 .have hv := hv.1 (oT c11); refine Je 5 <| W.ret <| ⟨_, rfl, Fin.nil ?_⟩
  exact (hS.pick [] rfl).fin rfl ⟨b, rfl, rfl, hv⟩
 have hv := hv.2 (oF c11); refine Jh <| Je 4 <| SL.call hS (Z0  hv) XF51 rfl XN51 rfl rfl ?_; rintro _ _ w12 ⟨r13, rfl, rfl, hv⟩ hGw12 hS; have hS := hS.n0; refine Jb 2 <| W.ret <| ⟨_, rfl, Fin.nil ?_⟩
 exact (hS.pick [] rfl).fin rfl ⟨r13, rfl, rfl, hv⟩
def JN (a : Int) (b : Int) (Q : Int -> Prop) : Prop :=
  (b ≠ 0) /\ ((I64 ((a.tmod b) + b)) /\ ((b ≠ 0) /\ (Q (((a.tmod b) + b).tmod b))))
theorem JP {w : World} {Q : Int -> Prop} {a : Int} {b : Int}  (hv : JN a b Q) :
  Calls Try.prog 28 #[.int .i64 a, .int .i64 b] w <| Rt w fun v Qr => ∃ (r0 : Int), v = .int .i64 r0 /\ Qr = [] /\ Q r0 := by
 refine Jm <| Jl (vs := [nI a, nI b]) [4] Q2 rfl rfl rfl rfl ?_; have hS := Jp w; unfold JN at hv; refine Je 8 ?_; obtain ⟨o11, hv⟩ := hv; refine Q3 (r := (a.tmod b)) rfl rfl o11 rfl rfl <| Jd rfl rfl ?_; obtain ⟨o12, hv⟩ := hv; refine WL.add (r := ((a.tmod b) + b)) rfl rfl (wr o12) rfl <| Jd rfl rfl ?_; obtain ⟨o13, hv⟩ := hv; refine Q3 (r := (((a.tmod b) + b).tmod b)) rfl rfl o13 rfl rfl <| Jb 2 <| W.ret <| ⟨_, rfl, Fin.nil ?_⟩
 exact (hS.pick [] rfl).fin rfl ⟨(((a.tmod b) + b).tmod b), rfl, rfl, hv⟩
end Go.Proofs.Ytppkigdakobebaa
namespace Go.Proofs.Ytppkigdakobebaa
open Go.RowKit
end Go.Proofs.Ytppkigdakobebaa
namespace Go.Proofs.Ytppkigdakobebaa
open Go.RowKit
end Go.Proofs.Ytppkigdakobebaa
namespace Go.Proofs.Ytppkigdakobebaa
def Lim (l : List Nat) : Prop := ∀ x ∈ l, x < 4294967296
theorem Lim.nil : Lim [] := fun _ h => by cases h
theorem Lim.cons {x : Nat} {l : List Nat} (hx : x < 4294967296) (h : Lim l) : Lim (x :: l) := fun y hy => by
 rcases List.mem_cons.1 hy with rfl | hy
 .exact hx
 .exact h _ hy
end Go.Proofs.Ytppkigdakobebaa
namespace Go.Proofs.Ytppkigdakobebaa
/-! ### runs of exponents modulo n, and the greatest bounds that they prove -/
def PZ (n : Int) (zs : LI) (a : Int) : Prop := ∃ x, x ∈ zs /\ x % n = a % n
theorem PZ.mod {n : Int} {zs : LI} {a b : Int} (h : a % n = b % n) (p : PZ n zs a) : PZ n zs b := by
 obtain ⟨x, hx, e⟩ := p; exact ⟨x, hx, e.trans h⟩
def Per (n : Int) (P : Int -> Prop) : Prop := ∀ a b, a % n = b % n -> P a -> P b
theorem Jad (n : Int) (zs : LI) : Per n (PZ n zs) := fun _ _ h p => p.mod h
def Val (n : Int) (P : Int -> Prop) (s t c x m : Int) : Prop :=
  1 <= c /\ c <= n /\ 0 <= m /\ m <= n /\ Int.gcd t n = 1 /\ (0 < m -> (Int.gcd x n : Int) <= c) /\ ∀ i j : Int, 0 <= i -> i < c -> 0 <= j -> j <= m -> P (s + i * t + j * x)
theorem YB {n a b : Int} (h : a % n = b % n) : ∃ k, b = a + n * k := by
 refine ⟨b / n - a / n, ?_⟩; have h1 := Int.mul_ediv_add_emod a n; have h2 := Int.mul_ediv_add_emod b n; rw [Int.mul_sub]; omega
theorem QB {n a b : Int} (h : a % n = b % n) : Int.gcd a n = Int.gcd b n := by
 obtain ⟨k, rfl⟩ := YB h; rw [Int.gcd_comm a, Int.gcd_comm (a + n * k), Int.gcd_add_mul_left_right]
theorem Jav {n s t x s' t' x' : Int} (i j : Int) (hs : s % n = s' % n) (ht : t % n = t' % n) (hx : x % n = x' % n) : (s + i * t + j * x) % n = (s' + i * t' + j * x') % n := by
 obtain ⟨a, rfl⟩ := YB hs; obtain ⟨b, rfl⟩ := YB ht; obtain ⟨c, rfl⟩ := YB hx; have e : s + n * a + i * (t + n * b) + j * (x + n * c) = s + i * t + j * x + n * (a + i * b + j * c) := by
  simp only [Int.mul_add, Int.mul_left_comm i n b, Int.mul_left_comm j n c]; omega
 rw [e, Int.add_mul_emod_self_left]
theorem Val.mod {n : Int} {P : Int -> Prop} {s t c x m s' t' x' : Int} (hP : Per n P) (h : Val n P s t c x m) (hs : s % n = s' % n) (ht : t % n = t' % n) (hx : x % n = x' % n) : Val n P s' t' c x' m := by
 obtain ⟨a, b, d, e, f, g, k⟩ := h; refine ⟨a, b, d, e, by rw [<- QB ht]; exact f, fun hm => by rw [<- QB hx]; exact g hm, fun i j h1 h2 h3 h4 => ?_⟩; exact hP _ _ (Jav i j hs ht hx) (k i j h1 h2 h3 h4)
theorem Val.rev {n : Int} {P : Int -> Prop} {s t c x m : Int} (h : Val n P s t c x m) : Val n P (s + (c - 1) * t) (-t) c x m := by
 obtain ⟨a, b, d, e, f, g, k⟩ := h; refine ⟨a, b, d, e, by rw [Int.neg_gcd]; exact f, g, fun i j h1 h2 h3 h4 => ?_⟩; have := k (c - 1 - i) j (by omega) (by omega) h3 h4; have e : s + (c - 1) * t + i * -t + j * x = s + (c - 1 - i) * t + j * x := by rw [Int.sub_mul (c - 1) i t, Int.mul_neg]; omega
 rw [e]; exact this
theorem Val.flat {n : Int} {P : Int -> Prop} {s t c x m : Int} (h : Val n P s t c x m) : Val n P s t c 0 0 := by
 obtain ⟨a, b, d, e, f, g, k⟩ := h; refine ⟨a, b, Int.le_refl 0, by omega, f, fun hm => absurd hm (by omega), fun i j h1 h2 h3 h4 => ?_⟩; have := k i 0 h1 h2 (Int.le_refl 0) d; have e : j = 0 := by omega
 rw [e, Int.mul_zero]; rw [Int.zero_mul] at this; exact this
def isB (n : Int) (P : Int -> Prop) (b : Int) : Prop :=
  1 <= b /\ (∀ s t c, Val n P s t c 0 0 -> c + 1 <= b) /\ (b = 1 ∨ ∃ s t c, Val n P s t c 0 0 /\ b = c + 1)
def isT (n : Int) (P : Int -> Prop) (b : Int) : Prop :=
  1 <= b /\ (∀ s t c x m, Val n P s t c x m -> c + 1 + m <= b) /\ (b = 1 ∨ ∃ s t c x m, Val n P s t c x m /\ b = c + 1 + m)
theorem isB.le {n : Int} {P P' : Int -> Prop} {b b' k : Int} (h : isB n P b) (h' : isB n P' b') (hk : Int.gcd k n = 1) (hP : ∀ a, P a -> P' (k * a)) (hg : ∀ t, Int.gcd t n = 1 -> Int.gcd (k * t) n = 1) : b <= b' := by
 rcases h.2.2 with e | ⟨s, t, c, v, e⟩
 .have := h'.1; omega
 .obtain ⟨a1, a2, a3, a4, a5, a6, a7⟩ := v; have := h'.2.1 (k * s) (k * t) c ⟨a1, a2, a3, a4, hg t a5, fun hm => absurd hm (by omega), fun i j h1 h2 h3 h4 => by
   have := hP _ (a7 i j h1 h2 h3 h4); have e : k * s + i * (k * t) + j * 0 = k * (s + i * t + j * 0) := by rw [Int.mul_add, Int.mul_add, Int.mul_left_comm i k t]; omega
   rw [e]; exact this⟩
  omega
theorem isT.le {n : Int} {P P' : Int -> Prop} {b b' k : Int} (h : isT n P b) (h' : isT n P' b') (hP : ∀ a, P a -> P' (k * a)) (hg : ∀ t, Int.gcd (k * t) n = Int.gcd t n) : b <= b' := by
 rcases h.2.2 with e | ⟨s, t, c, x, m, v, e⟩
 .have := h'.1; omega
 .obtain ⟨a1, a2, a3, a4, a5, a6, a7⟩ := v; have := h'.2.1 (k * s) (k * t) c (k * x) m ⟨a1, a2, a3, a4, by rw [hg]; exact a5, fun hm => by rw [hg]; exact a6 hm, fun i j h1 h2 h3 h4 => by
   have := hP _ (a7 i j h1 h2 h3 h4); have e : k * s + i * (k * t) + j * (k * x) = k * (s + i * t + j * x) := by rw [Int.mul_add, Int.mul_add, Int.mul_left_comm i k t, Int.mul_left_comm j k x]
   rw [e]; exact this⟩
  omega
theorem isB.mono {n : Int} {P P' : Int -> Prop} {b b' : Int} (h : isB n P b) (h' : isB n P' b') (hP : ∀ a, P a -> P' a) : b <= b' :=
 h.le h' (k := 1) (by rw [Int.one_gcd]) (fun a p => by rw [Int.one_mul]; exact hP a p) (fun t e => by rw [Int.one_mul]; exact e)
theorem isT.mono {n : Int} {P P' : Int -> Prop} {b b' : Int} (h : isT n P b) (h' : isT n P' b') (hP : ∀ a, P a -> P' a) : b <= b' :=
 h.le h' (k := 1) (fun a p => by rw [Int.one_mul]; exact hP a p) (fun t => by rw [Int.one_mul])
theorem isB.leT {n : Int} {P : Int -> Prop} {b d : Int} (h : isB n P b) (h' : isT n P d) : b <= d := by
 rcases h.2.2 with e | ⟨s, t, c, v, e⟩
 .have := h'.1; omega
 .have := h'.2.1 _ _ _ _ _ v; omega
/-- a step may be taken from 1 to n/2 -/
theorem Val.half {n : Int} {P : Int -> Prop} {s t c x m : Int} (hP : Per n P) (hn : 1 <= n) (h : Val n P s t c x m) : ∃ s' t', 1 <= t' /\ (t' <= 1 ∨ t' <= n / 2) /\ Int.gcd t' n = 1 /\ 0 <= s' /\ s' < n /\ Val n P s' t' c x m := by
  have key : ∀ s t, Val n P s t c x m -> 1 <= t -> (t <= 1 ∨ t <= n / 2) -> ∃ s' t', 1 <= t' /\ (t' <= 1 ∨ t' <= n / 2) /\ Int.gcd t' n = 1 /\ 0 <= s' /\ s' < n /\ Val n P s' t' c x m := fun s t v h1 h2 =>
    ⟨s % n, t, h1, h2, v.2.2.2.2.1, Int.emod_nonneg _ (by omega), Int.emod_lt_of_pos _ (by omega), v.mod hP (by rw [Int.emod_emod]) rfl rfl⟩
  by_cases h1 : n = 1
  . subst h1
    exact key s 1 (h.mod hP rfl (by omega) rfl) (by omega) (.inl (by omega))
  . have hr0 := Int.emod_nonneg t (show n ≠ 0 by omega); have hr1 := Int.emod_lt_of_pos t (show 0 < n by omega)
    have hr : t % n ≠ 0 := fun e => by
      have e2 := h.2.2.2.2.1
      rw [QB (show t % n = (0 : Int) % n by rw [e, Int.zero_emod]), Int.zero_gcd] at e2
      omega
    by_cases h2 : t % n <= n / 2
    . exact key s (t % n) (h.mod hP rfl (by rw [Int.emod_emod]) rfl) (by omega) (.inr h2)
    . refine key (s + (c - 1) * t) (n - t % n) (h.rev.mod hP rfl ?_ rfl) (by omega) (.inr (by omega))
      have e : -t = (n - t % n) + n * (-(t / n) - 1) := by
        have := Int.mul_ediv_add_emod t n
        rw [Int.mul_sub, Int.mul_neg]; omega
      rw [e, Int.add_mul_emod_self_left]
end Go.Proofs.Ytppkigdakobebaa
namespace Go.Proofs.Ytppkigdakobebaa
/-! ### bch without fields: remainders, marks, greatest common divisors, runs -/
theorem JD {x : Int} (h1 : -4611686018427387904 <= x) (h2 : x <= 4611686018427387904) : I64 x := ⟨by omega, by omega⟩
theorem Jbs {x n : Int} (hn : 0 < n) : ((x.tmod n) + n).tmod n = x % n := by
 have h0 : 0 <= x.tmod n + n := by have := Int.lt_tmod_of_pos x hn; omega
 rw [Int.tmod_eq_emod_of_nonneg h0, Int.add_emod_right]; have h1 := Int.mul_tdiv_add_tmod x n; have h2 : (n * x.tdiv n + x.tmod n) % n = x.tmod n % n := Int.mul_add_emod_self_left _ _ _; rw [h1] at h2; exact h2.symm
theorem tm_bd {x n : Int} (hn : 0 < n) : -n < x.tmod n /\ x.tmod n < n := ⟨Int.lt_tmod_of_pos x hn, Int.tmod_lt_of_pos x hn⟩
theorem Qm {x n : Int} (hn : 0 < n) : 0 <= x % n /\ x % n < n := ⟨Int.emod_nonneg _ (by omega), Int.emod_lt_of_pos _ hn⟩
theorem gb_sb {x : List Bool} {r i : Int} (hr : 0 <= r) (hr2 : r < (x.length : Nat)) (hi : 0 <= i) (b : Bool) : gb (sb x r b) i = if i = r then b else gb x i := by
 unfold gb sb; rw [List.getD_eq_getElem?_getD, List.getD_eq_getElem?_getD, List.getElem?_set]; by_cases e : i = r
 .subst e; rw [if_pos rfl, if_pos (by omega), if_pos rfl]; rfl
 .rw [if_neg (by omega), if_neg e]
theorem sb_len (x : List Bool) (r : Int) (b : Bool) : (sb x r b).length = x.length := List.length_set
theorem gi_si {x : LI} {r i : Int} (hr : 0 <= r) (hr2 : r < (x.length : Nat)) (hi : 0 <= i) (b : Int) : gi (si x r b) i = if i = r then b else gi x i := by
 unfold gi si; rw [List.getD_eq_getElem?_getD, List.getD_eq_getElem?_getD, List.getElem?_set]; by_cases e : i = r
 .subst e; rw [if_pos rfl, if_pos (by omega), if_pos rfl]; rfl
 .rw [if_neg (by omega), if_neg e]
theorem si_len (x : LI) (r b : Int) : (si x r b).length = x.length := List.length_set
theorem Zm {x : LI} {a : Int} {i : Int} (hi : 0 <= i) (h : i < (x.length : Nat)) : gi (x ++ [a]) i = gi x i := by
 unfold gi; rw [List.getD_eq_getElem?_getD, List.getD_eq_getElem?_getD, List.getElem?_append_left (by omega)]
theorem YA (x : LI) (a : Int) : gi (x ++ [a]) (x.length : Int) = a := by
 unfold gi; rw [List.getD_eq_getElem?_getD, Int.toNat_natCast, List.getElem?_append_right (Nat.le_refl _)]; simp
theorem Qh {l : LI} {x : Int} : x ∈ l ↔ ∃ j : Int, 0 <= j /\ j < (l.length : Nat) /\ gi l j = x := by
 constructor
 .intro h; obtain ⟨j, hj, e⟩ := List.mem_iff_getElem.1 h; refine ⟨j, by omega, by omega, ?_⟩; unfold gi; rw [Int.toNat_natCast, List.getD_eq_getElem?_getD, List.getElem?_eq_getElem hj]; exact e
 .rintro ⟨j, h0, h1, rfl⟩; unfold gi; rw [List.getD_eq_getElem?_getD, List.getElem?_eq_getElem (by omega : j.toNat < l.length)]; exact List.getElem_mem _
theorem YG {n : Int} {Q : Bool -> Prop} (h : Q (decide (1 <= n /\ n <= 64))) : Qk n Q := by
 refine ⟨fun h1 => ?_, fun h1 => ?_⟩
 .by_cases h2 : n <= 64
  .rw [decide_eq_true h2]; rw [decide_eq_true ⟨h1, h2⟩] at h; exact h
  .rw [decide_eq_false h2]; rw [decide_eq_false (fun c => h2 c.2)] at h; exact h
 .rw [decide_eq_false (fun c => h1 c.1)] at h; exact h
theorem Yq {x n : Int} {Q : Int -> Prop} (hn : 0 < n) (h64 : n <= 1000000) (h : Q (x % n)) : Qb x n Q := by
 have := tm_bd (x := x) hn; exact ⟨by omega, JD (by omega) (by omega), by omega, by rw [Jbs hn]; exact h⟩
theorem Yi {x n : Int} {Q : Int -> Prop} (hn : 0 < n) (h64 : n <= 1000000) (h : Q (x % n)) : JN x n Q := by
 have := tm_bd (x := x) hn; exact ⟨by omega, JD (by omega) (by omega), by omega, by rw [Jbs hn]; exact h⟩
/-- a list of marks for a property of the numbers modulo n -/
def Mk (n : Int) (P : Int -> Prop) (x : List Bool) : Prop := (x.length : Int) = n /\ ∀ i : Int, 0 <= i -> i < n -> (gb x i = true ↔ P i)
theorem Zu {n : Int} {l : LI} {Q : List Bool -> Prop} (hn : 0 < n) (h64 : n <= 64) (hl : l.length <= 1000) (h : ∀ x, Mk n (PZ n l) x -> Q x) : Yg n l Q := by
 refine ⟨by omega, fun x z => (x.length : Int) = n /\ 0 <= z /\ z <= (l.length : Nat) /\ ∀ i : Int, 0 <= i -> i < n -> (gb x i = true ↔ ∃ j : Int, 0 <= j /\ j < z /\ gi l j % n = i), fun _ z => (1000 - z).toNat, ⟨by rw [List.length_replicate]; omega, by omega, by omega, fun i h1 h2 => ?_⟩, ?_⟩
 .constructor
  .intro e; unfold gb at e; rw [List.getD_eq_getElem?_getD, List.getElem?_replicate, if_pos (by omega)] at e; cases e
  .rintro ⟨j, a, b, _⟩; omega
 .rintro x z ⟨hx, h0, h1, hk⟩; refine ⟨fun hlt => ⟨⟨h0, hlt⟩, Yq hn (by omega) ?_⟩, fun hge => ?_⟩
  .have hb := Qm (x := gi l z) hn; refine ⟨⟨hb.1, by omega⟩, JD (by omega) (by omega), ⟨by rw [sb_len]; exact hx, by omega, by omega, fun i a b => ?_⟩, by show (1000 - (z + 1)).toNat < (1000 - z).toNat; omega⟩; rw [gb_sb hb.1 (by omega) a]; by_cases e : i = gi l z % n
   .rw [if_pos e]; exact ⟨fun _ => ⟨z, h0, by omega, e.symm⟩, fun _ => rfl⟩
   .rw [if_neg e, hk i a b]; constructor
    .rintro ⟨j, c, d, f⟩; exact ⟨j, c, by omega, f⟩
    .rintro ⟨j, c, d, f⟩; refine ⟨j, c, ?_, f⟩; by_cases ej : j = z
     .subst ej; exact absurd f.symm e
     .omega
  .have : z = (l.length : Nat) := by omega
   subst this; refine h x ⟨hx, fun i a b => ?_⟩; rw [hk i a b]; constructor
   .rintro ⟨j, c, d, f⟩; exact ⟨gi l j, Qh.2 ⟨j, c, d, rfl⟩, by rw [f, Int.emod_eq_of_lt a b]⟩
   .rintro ⟨y, hy, f⟩; obtain ⟨j, c, d, rfl⟩ := Qh.1 hy; exact ⟨j, c, d, by rw [f, Int.emod_eq_of_lt a b]⟩
theorem Y3 {x : Int} {Q : Bool -> Prop} (h1 : -1000000 <= x) (h2 : x <= 1000000) (h : Q true) : Qt x Q :=
 ⟨fun _ => by rw [decide_eq_true (by omega)]; exact h, fun c => absurd (by omega) c⟩
theorem Jbn {x : Int} {Q : Int -> Prop} (h1 : 0 <= x) (h : Q x) : YX x Q := ⟨fun c => absurd h1 (by omega), fun _ => h⟩
theorem Jcu {a b : Nat} {Q : Int × Int -> Prop} (hb : b <= 1000000) (ha : a <= 1000000) (h : ∀ y, Q (((Nat.gcd a b : Nat) : Int), y)) : YC a b Q := by
 refine ⟨fun z19 z20 z21 z22 => ∃ c d : Nat, z19 = c /\ z20 = d /\ Nat.gcd c d = Nat.gcd a b /\ c <= 1000000 /\ d <= 1000000 /\ z21.natAbs * d + z22.natAbs * c <= b, fun _ z20 _ _ => z20.toNat, ⟨a, b, rfl, rfl, rfl, ha, hb, by simp⟩, ?_⟩; rintro _ _ u v ⟨c, d, rfl, rfl, hg, hc, hd, hbd⟩; dsimp only; refine ⟨fun hne => ?_, fun he => ?_⟩
 .have hd0 : 0 < d := by omega
  have hq : ((c : Int).tdiv (d : Int)) = ((c / d : Nat) : Int) := rfl; rw [hq]; have hcd := Nat.div_add_mod c d; have hr := Nat.mod_lt c hd0; generalize hqq : c / d = q at hcd ⊢; generalize hrr : c % d = r at hcd hr; have hqd : ((q : Int) * (d : Int)) = ((d * q : Nat) : Int) := by push_cast; exact Int.mul_comm _ _
  have hle : d * q <= c := by omega
  have hqv : (((q : Int) * v)).natAbs = q * v.natAbs := by rw [Int.natAbs_mul, Int.natAbs_natCast]
  have hu : u.natAbs <= b := by
   have : u.natAbs * 1 <= u.natAbs * d := Nat.mul_le_mul_left _ hd0; omega
  have hv2 : q * v.natAbs <= b := by
   have h1 : v.natAbs * (d * q) <= v.natAbs * c := Nat.mul_le_mul_left _ hle; have h2 : v.natAbs * q * 1 <= v.natAbs * q * d := Nat.mul_le_mul_left _ hd0; have h3 : v.natAbs * (d * q) = v.natAbs * q * d := by rw [Nat.mul_comm d q, Nat.mul_assoc]
   rw [Nat.mul_comm q]; omega
  have hq6 : q <= 1000000 := by
   have : q * 1 <= q * d := Nat.mul_le_mul_left _ hd0; rw [Nat.mul_comm q d] at this; omega
  have e3 : ((c : Int) - (q : Int) * (d : Int)) = ((r : Nat) : Int) := by rw [hqd]; omega
  have hs : (u - (q : Int) * v).natAbs <= u.natAbs + q * v.natAbs := by rw [<- hqv]; exact Int.natAbs_sub_le _ _
  refine ⟨⟨by omega, JD (by omega) (by omega)⟩, JD (by omega) (by omega), by rw [e3]; exact JD (by omega) (by omega), JD (by omega) (by omega), JD (by omega) (by omega), ⟨d, r, rfl, e3, ?_, hd, by omega, ?_⟩, ?_⟩
  .rw [<- hg, <- hrr, Nat.gcd_comm c d, Nat.gcd_rec d c, Nat.gcd_comm]
  .have h1 : (u - (q : Int) * v).natAbs * d <= (u.natAbs + q * v.natAbs) * d := Nat.mul_le_mul_right _ hs; have h2 : (u.natAbs + q * v.natAbs) * d = u.natAbs * d + v.natAbs * (d * q) := by
    rw [Nat.add_mul, Nat.mul_comm q, Nat.mul_assoc, Nat.mul_comm q d]
   have h3 : v.natAbs * c = v.natAbs * (d * q) + v.natAbs * r := by rw [<- hcd, Nat.mul_add]
   omega
  .rw [e3]; show ((r : Nat) : Int).toNat < ((d : Nat) : Int).toNat; omega
 .have hd0 : d = 0 := by omega
  subst hd0; rw [Nat.gcd_zero_right] at hg; rw [hg]; exact h _
theorem w_Gcd {a b : Int} {Q : Int × Int -> Prop} (ha : 0 <= a) (ha2 : a <= 1000000) (hb : 0 <= b) (hb2 : b <= 1000000) (h : Q (((Int.gcd a b : Nat) : Int), 0)) : Ja0 a b Q := by
 refine Y3 (by omega) (by omega) ⟨(fun c => by cases c), fun _ => Y3 (by omega) (by omega) ⟨(fun c => by cases c), fun _ => Jbn ha (Jbn hb ?_)⟩⟩; obtain ⟨x, rfl⟩ := Int.eq_ofNat_of_zero_le ha; obtain ⟨y, rfl⟩ := Int.eq_ofNat_of_zero_le hb; exact Jcu (by omega) (by omega) fun _ => h
theorem Zw {x n : Int} {Q : Int -> Prop} (hn : 0 < n) (h64 : n <= 1000000) (h : Q ((Int.gcd x n : Nat) : Int)) : QQ x n Q := by
 refine Yq hn h64 (w_Gcd (Qm hn).1 (by have := (Qm (x := x) hn).2; omega) (by omega) h64 ?_); rw [QB (show x % n % n = x % n from Int.emod_emod _ _)]; exact h
theorem Ja2 {a b : Nat} {Q : Int -> Prop} (h : Q ((Nat.gcd a b : Nat) : Int)) : QV a b Q := by
 refine ⟨fun z y => ∃ c d : Nat, z = c /\ y = d /\ Nat.gcd c d = Nat.gcd a b, fun _ y => y.toNat, ⟨a, b, rfl, rfl, rfl⟩, ?_⟩; rintro _ _ ⟨c, d, rfl, rfl, hg⟩; have e : ((c : Int).tmod (d : Int)) = ((c % d : Nat) : Int) := rfl; refine ⟨fun hd => ⟨by omega, ⟨d, c % d, rfl, e, by rw [<- hg, Nat.gcd_comm c d, Nat.gcd_rec d c, Nat.gcd_comm]⟩, ?_⟩, fun hd => ?_⟩
 .rw [e]; have := Nat.mod_lt c (show 0 < d by omega); show ((c % d : Nat) : Int).toNat < ((d : Nat) : Int).toNat; omega
 .have hd0 : d = 0 := by omega
  subst hd0; rw [Nat.gcd_zero_right] at hg; rw [hg]; exact h
theorem Zf {a b : Int} {Q : Int -> Prop} (ha : 0 <= a) (hb : 0 <= b) (h : Q ((Int.gcd a b : Nat) : Int)) : JV a b Q := by
 obtain ⟨x, rfl⟩ := Int.eq_ofNat_of_zero_le ha; obtain ⟨y, rfl⟩ := Int.eq_ofNat_of_zero_le hb; refine ⟨fun e => ?_, fun _ => Ja2 h⟩; have : x = 0 := by omega
 subst this; have e2 : ((Int.gcd ((0 : Nat) : Int) (y : Int) : Nat) : Int) = y := by simp
 rw [e2] at h; exact h
end Go.Proofs.Ytppkigdakobebaa
namespace Go.Proofs.Ytppkigdakobebaa
theorem Mk.at {n : Int} {P : Int -> Prop} {z : List Bool} (hP : Per n P) (hn : 0 < n) (h : Mk n P z) (x : Int) : gb z (x % n) = true ↔ P x := by
 have := Qm (x := x) hn; rw [h.2 _ this.1 this.2]; exact ⟨hP _ _ (Int.emod_emod _ _), hP _ _ (Int.emod_emod _ _).symm⟩
def Near (x : Int) : Prop := -2147483648 <= x /\ x <= 2147483648
def ZS (n r0 r1 r2 r3 r4 : Int) : Prop := Near r0 /\ Near r1 /\ Near r3 /\ 1 <= r2 /\ r2 <= n /\ 0 <= r4 /\ r4 <= n
theorem nT {A B : Prop} (h : B) : ((!true) = true -> A) /\ ((!true) = false -> B) := ⟨fun e => absurd e (by decide), fun _ => h⟩
theorem nF {A B : Prop} (h : A) : ((!false) = true -> A) /\ ((!false) = false -> B) := ⟨fun _ => h, fun e => absurd e (by decide)⟩
theorem QR {r0 r1 r2 r3 r4 : Int} {Q : Int -> Prop} (a2 : 0 <= r2) (b2 : r2 <= 64) (a4 : 0 <= r4) (b4 : r4 <= 64) (h : Q (r2 + 1 + r4)) : JO r0 r1 r2 r3 r4 Q :=
 ⟨JD (by omega) (by omega), JD (by omega) (by omega), h⟩
end Go.Proofs.Ytppkigdakobebaa
namespace Go.Proofs.Ytppkigdakobebaa
/-! ### the search: steps, counts, Bound -/
def Jae (n t : Int) : Prop := 1 <= t /\ (t <= 1 ∨ t <= n / 2) /\ Int.gcd t n = 1
def StpL (n : Int) (x : LI) : Prop := x.length <= 100 /\ (∀ i : Int, 0 <= i -> i < (x.length : Nat) -> Jae n (gi x i)) /\ ∀ t, Jae n t -> ∃ i : Int, 0 <= i /\ i < (x.length : Nat) /\ gi x i = t
theorem Jag {n : Int} {z : List Bool} {Q : LI -> Prop} (hz : (z.length : Int) = n) (hn : 1 <= n) (h64 : n <= 64) (h : ∀ x, StpL n x -> Q x) : QU z Q := by
 have hd : ((z.length : Int).tdiv (2 : Int)) = n / 2 := by rw [hz]; exact Int.tdiv_eq_ediv_of_nonneg (by omega)
 unfold QU; rw [hd, hz]; refine ⟨fun x k => 1 <= k /\ (x.length : Int) <= k /\ k <= 66 /\ (∀ i : Int, 0 <= i -> i < (x.length : Nat) -> Jae n (gi x i)) /\ ∀ t, t < k -> Jae n t -> ∃ i : Int, 0 <= i /\ i < (x.length : Nat) /\ gi x i = t, fun _ k => (66 - k).toNat, ⟨by omega, by simp, by omega, fun i a b => by simp at b; omega, fun t a b => by have := b.1; omega⟩, ?_⟩; rintro x k ⟨h1, hx, h66, hA, hB⟩; refine ⟨⟨by omega, JD (by omega) (by omega)⟩, fun hk => ?_, fun hk => ?_⟩
 .refine ⟨fun y b => (y.length : Int) <= k + 1 /\ (∀ i : Int, 0 <= i -> i < (y.length : Nat) -> Jae n (gi y i)) /\ ∀ t, t < k + 1 -> Jae n t -> ∃ i : Int, 0 <= i /\ i < (y.length : Nat) /\ gi y i = t, Zw (by omega) (by omega) ⟨fun e => ⟨by omega, ?_⟩, fun e => ?_⟩, ?_⟩
  .have hh : Jae n k := ⟨h1, by omega, by omega⟩
   have hl : (x ++ ([k] : LI)).length = x.length + 1 := by simp
   refine ⟨by rw [hl]; omega, fun i a b => ?_, fun t a b => ?_⟩
   .by_cases ei : i = (x.length : Nat)
    .subst ei; rw [YA]; exact hh
    .rw [Zm a (by rw [hl] at b; omega)]; exact hA i a (by rw [hl] at b; omega)
   .by_cases et : t = k
    .subst et; exact ⟨(x.length : Nat), by omega, by rw [hl]; omega, YA x t⟩
    .obtain ⟨i, c, d, f⟩ := hB t (by omega) b; exact ⟨i, c, by rw [hl]; omega, by rw [Zm c d]; exact f⟩
  .refine ⟨by omega, hA, fun t a b => ?_⟩; by_cases et : t = k
   .subst et; exact absurd b.2.2 (by omega)
   .exact hB t (by omega) b
  .rintro y b ⟨p1, p2, p3⟩; exact ⟨JD (by omega) (by omega), ⟨by omega, p1, by omega, p2, p3⟩, by show (66 - (k + 1)).toNat < (66 - k).toNat; omega⟩
 .refine h x ⟨by omega, hA, fun t ht => hB t ?_ ht⟩; have := ht.2.1; omega
def Cnt (n : Int) (P : Int -> Prop) (s t c : Int) : Prop := 0 <= c /\ c <= n /\ (∀ k : Int, 0 <= k -> k < c -> P (s + k * t)) /\ (c = n ∨ ¬ P (s + c * t))
theorem Jau {i y : Int} (a : 0 <= i) (b : i <= 64) (c : 0 <= y) (d : y <= 64) : 0 <= i * y /\ i * y <= 4096 := by
 have h1 := Int.mul_nonneg a c; have h2 := Int.mul_le_mul b d c (by omega : (0 : Int) <= 64); omega
theorem Zv {n y : Int} {P : Int -> Prop} {z : List Bool} {Q : LI -> Prop} (hP : Per n P) (hz : Mk n P z) (hn : 1 <= n) (h64 : n <= 64) (hy : 0 <= y) (hy2 : y <= 64) (h : ∀ x : LI, (x.length : Int) = n -> (∀ i : Int, 0 <= i -> i < n -> Cnt n P i y (gi x i)) -> Q x) : Qu z y Q := by
 unfold Qu; rw [hz.1]; refine ⟨by omega, fun x k => (x.length : Int) = n /\ 0 <= k /\ k <= n /\ (∀ i : Int, 0 <= i -> i < k -> Cnt n P i y (gi x i)) /\ ∀ i : Int, k <= i -> i < n -> gi x i = 0, fun _ k => (n - k).toNat, ⟨by rw [List.length_replicate]; omega, by omega, by omega, fun i a b => by omega, fun i a b => ?_⟩, ?_⟩
 .unfold gi; rw [List.getD_eq_getElem?_getD, List.getElem?_replicate, if_pos (by omega)]; rfl
 rintro x k ⟨hx, k0, k1, hA, hB⟩; refine ⟨fun hk => ?_, fun hk => h x hx fun i a b => hA i a (by omega)⟩; have hkn : k < n := by omega
 refine ⟨fun y' b => (y'.length : Int) = n /\ (∀ i : Int, 0 <= i -> i < k + 1 -> Cnt n P i y (gi y' i)) /\ ∀ i : Int, k + 1 <= i -> i < n -> gi y' i = 0, ?_, ?_⟩
 .refine ⟨fun u => (u.length : Int) = n /\ (∀ i : Int, 0 <= i -> i < k -> Cnt n P i y (gi u i)) /\ (∀ i : Int, k + 1 <= i -> i < n -> gi u i = 0) /\ 0 <= gi u k /\ gi u k <= n /\ ∀ j : Int, 0 <= j -> j < gi u k -> P (k + j * y), fun u => (n - gi u k).toNat, ⟨hx, hA, fun i a b => hB i (by omega) b, by rw [hB k (by omega) hkn]; omega, by rw [hB k (by omega) hkn]; omega, fun j a b => by rw [hB k (by omega) hkn] at b; omega⟩, ?_⟩; rintro u ⟨hu, u1, u2, u3, u4, u5⟩; have done : (gi u k = n ∨ ¬ P (k + gi u k * y)) -> (u.length : Int) = n /\ (∀ i : Int, 0 <= i -> i < k + 1 -> Cnt n P i y (gi u i)) /\ ∀ i : Int, k + 1 <= i -> i < n -> gi u i = 0 := fun hd => ⟨hu, fun i a b => by
   by_cases ei : i = k
   .subst ei; exact ⟨u3, u4, u5, hd⟩
   .exact u1 i a (by omega), u2⟩
  refine ⟨fun hlt => ?_, fun hge => ⟨by omega, done (.inl (by omega))⟩⟩; have hm := Jau u3 (by omega) hy hy2; have ht : ((k + (gi u k * y)).tmod n) = (k + gi u k * y) % n := Int.tmod_eq_emod_of_nonneg (by omega); have hb := Qm (x := k + gi u k * y) (show 0 < n by omega); rw [ht]; have hk2 := hz.at hP (by omega) (k + gi u k * y); refine ⟨by omega, by omega, JD (by omega) (by omega), JD (by omega) (by omega), by omega, hb, fun e => ⟨by omega, JD (by omega) (by omega), by omega, ?_, ?_⟩, fun e => done (.inr fun hp => ?_)⟩
  .have g0 : ∀ i : Int, 0 <= i -> gi (si u k (gi u k + 1)) i = if i = k then gi u k + 1 else gi u i := fun i a => gi_si k0 (by omega) a _
   refine ⟨by rw [si_len]; exact hu, fun i a b => by rw [g0 i a, if_neg (by omega)]; exact u1 i a b, fun i a b => by rw [g0 i (by omega), if_neg (by omega)]; exact u2 i a b, by rw [g0 k k0, if_pos rfl]; omega, by rw [g0 k k0, if_pos rfl]; omega, fun j a b => ?_⟩; rw [g0 k k0, if_pos rfl] at b; by_cases ej : j = gi u k
   .subst ej; exact hk2.1 e
   .exact u5 j a (by omega)
  .have g0 : gi (si u k (gi u k + 1)) k = gi u k + 1 := by rw [gi_si k0 (by omega) k0, if_pos rfl]
   show (n - gi (si u k (gi u k + 1)) k).toNat < (n - gi u k).toNat; rw [g0]; omega
  .rw [hk2.2 hp] at e; cases e
 .rintro y' b ⟨p1, p2, p3⟩; exact ⟨JD (by omega) (by omega), ⟨p1, by omega, by omega, p2, p3⟩, by show (n - (k + 1)).toNat < (n - k).toNat; omega⟩
theorem Cnt.le {n : Int} {P : Int -> Prop} {s t k c x m : Int} (h : Cnt n P s t k) (v : Val n P s t c x m) : c <= k := by
 rcases Int.lt_or_le k c with q | q
 .have h1 := v.2.1; rcases h.2.2.2 with e | e
  .omega
  .refine absurd ?_ e; have := v.2.2.2.2.2.2 k 0 h.1 q (Int.le_refl 0) v.2.2.1; rw [Int.zero_mul, Int.add_zero] at this; exact this
 .exact q
theorem Cnt.val {n : Int} {P : Int -> Prop} {s t k : Int} (h : Cnt n P s t k) (hn : 1 <= n) (h1 : 1 <= k) (hg : Int.gcd t n = 1) : Val n P s t k 0 0 :=
 ⟨h1, h.2.1, Int.le_refl 0, by omega, hg, fun c => absurd c (by omega), fun i j a b c d => by
  have : j = 0 := by omega
  rw [this, Int.mul_zero, Int.add_zero]; exact h.2.2.1 i a b⟩
/-- the best run so far -/
def Bst (n : Int) (P : Int -> Prop) (b r0 r1 r2 r3 r4 : Int) : Prop := (b = 1 /\ r0 = 0 /\ r1 = 0 /\ r2 = 0 /\ r3 = 0 /\ r4 = 0) ∨ (Val n P r0 r1 r2 r3 r4 /\ b = r2 + 1 + r4 /\ 0 <= r0 /\ r0 <= 64 /\ 0 <= r1 /\ r1 <= 64 /\ 0 <= r3 /\ r3 <= 64)
theorem Bst.ge {n : Int} {P : Int -> Prop} {b r0 r1 r2 r3 r4 : Int} (h : Bst n P b r0 r1 r2 r3 r4) : 1 <= b /\ b <= 2 * n + 1 ∨ b = 1 := by
 rcases h with h | ⟨v, e, _⟩
 .exact .inr h.1
 .have := v.1; have := v.2.1; have := v.2.2.1; have := v.2.2.2.1; exact .inl (by omega)
theorem Bst.isB {n : Int} {P : Int -> Prop} {b r0 r1 r2 : Int} (h : Bst n P b r0 r1 r2 0 0) (hc : ∀ s t c, Val n P s t c 0 0 -> c + 1 <= b) : isB n P b := by
 refine ⟨by have := h.ge; omega, hc, ?_⟩; rcases h with h | ⟨v, e, _⟩
 .exact .inl h.1
 .exact .inr ⟨_, _, _, v, by omega⟩
theorem Bst.isT {n : Int} {P : Int -> Prop} {b r0 r1 r2 r3 r4 : Int} (h : Bst n P b r0 r1 r2 r3 r4) (hc : ∀ s t c x m, Val n P s t c x m -> c + 1 + m <= b) : isT n P b := by
 refine ⟨by have := h.ge; omega, hc, ?_⟩; rcases h with h | ⟨v, e, _⟩
 .exact .inl h.1
 .exact .inr ⟨_, _, _, _, _, v, e⟩
theorem Q8 {n : Int} {l : LI} {Q : Int × Int × Int × Int × Int × Int × Int -> Prop} (hl : l.length <= 1000) (h4 : ¬ (1 <= n /\ n <= 64) -> Q (0, 0, 0, 0, 0, 0, 4))
  (h : ∀ b r0 r1 r2, 1 <= n -> n <= 64 -> Bst n (PZ n l) b r0 r1 r2 0 0 -> isB n (PZ n l) b -> Q (b, r0, r1, r2, 0, 0, 0)) : Qo n l Q := by
 refine YG ?_; by_cases hn : 1 <= n /\ n <= 64
 case neg => rw [decide_eq_false hn]; exact nF (h4 hn)
 rw [decide_eq_true hn]; obtain ⟨n1, n64⟩ := hn; refine nT (Zu (by omega) n64 hl fun x hx => Jag hx.1 n1 n64 fun u hu => ?_); have hP := Jad n l; generalize hPP : PZ n l = P at *
 refine ⟨fun b r0 r1 r2 k => 0 <= k /\ k <= (u.length : Nat) /\ Bst n P b r0 r1 r2 0 0 /\ ∀ i : Int, 0 <= i -> i < k -> ∀ s c, 0 <= s -> s < n -> Val n P s (gi u i) c 0 0 -> c + 1 <= b, fun _ _ _ _ k => ((u.length : Nat) - k : Int).toNat, ⟨by omega, by omega, .inl ⟨rfl, rfl, rfl, rfl, rfl, rfl⟩, fun i a b => by omega⟩, ?_⟩; rintro b r0 r1 r2 k ⟨k0, k1, hb, hc⟩; refine ⟨fun hk => ⟨⟨k0, hk⟩, ?_⟩, fun hk => h b r0 r1 r2 n1 n64 hb (hb.isB fun s t c v => ?_)⟩
 .have ht := hu.2.1 k k0 hk; have hul := hu.1; generalize et : gi u k = t at *
  refine Zv hP hx n1 n64 (by have := ht.1; omega) (by have := ht.2.1; omega) fun ct hct hcc => ?_; refine ⟨fun b r0 r1 r2 st => 0 <= st /\ st <= n /\ Bst n P b r0 r1 r2 0 0 /\ (∀ i : Int, 0 <= i -> i < k -> ∀ s c, 0 <= s -> s < n -> Val n P s (gi u i) c 0 0 -> c + 1 <= b) /\ ∀ s c, 0 <= s -> s < st -> Val n P s t c 0 0 -> c + 1 <= b, fun _ _ _ _ st => (n - st).toNat, ⟨by omega, by omega, hb, hc, fun s c a b => by omega⟩, ?_⟩; rintro b r0 r1 r2 st ⟨s0, s1, hb, hc, hs⟩; dsimp only; rw [hct]; refine ⟨fun hst => ⟨by omega, ?_⟩, fun hst => ⟨JD (by omega) (by omega), ⟨by omega, by omega, hb, fun i a c s d e f v => ?_⟩, by show ((u.length : Nat) - (k + 1) : Int).toNat < ((u.length : Nat) - k : Int).toNat; omega⟩⟩
  .have hC := hcc st s0 hst; generalize gi ct st = q at *
   have hq0 := hC.1; have hq1 := hC.2.1; have go : ∀ b' r0' r1' r2', Bst n P b' r0' r1' r2' 0 0 -> b <= b' -> q + 1 <= b' -> (0 <= st + 1 /\ st + 1 <= n /\ Bst n P b' r0' r1' r2' 0 0 /\ (∀ i : Int, 0 <= i -> i < k -> ∀ s c, 0 <= s -> s < n -> Val n P s (gi u i) c 0 0 -> c + 1 <= b') /\ ∀ s c, 0 <= s -> s < st + 1 -> Val n P s t c 0 0 -> c + 1 <= b') := fun b' r0' r1' r2' hb' hbb hqq =>
    ⟨by omega, by omega, hb', fun i a c s d e f v => by have := hc i a c s d e f v; omega, fun s c a e v => by
     by_cases es : s = st
     .subst es; have := hC.le v; omega
     .have := hs s c a (by omega) v; omega⟩
   refine ⟨q + 1 + 0, QR hq0 (by omega) (by omega) (by omega) rfl, fun hlt => ⟨q + 1 + 0, QR hq0 (by omega) (by omega) (by omega) rfl, JD (by omega) (by omega), go _ _ _ _ (.inr ⟨hC.val n1 ?_ ht.2.2, rfl, by omega, by omega, by have := ht.1; omega, by have := ht.2.1; omega, by omega, by omega⟩) (by omega) (by omega), by show (n - (st + 1)).toNat < (n - st).toNat; omega⟩, fun hge => ⟨JD (by omega) (by omega), go _ _ _ _ hb (by omega) (by omega), by show (n - (st + 1)).toNat < (n - st).toNat; omega⟩⟩; have := hb.ge; omega
  .by_cases ei : i = k
   .subst ei; rw [et] at v; exact hs s d e (by omega) v
   .exact hc i a (by omega) s d e f v
 .obtain ⟨s', t', p1, p2, p3, p4, p5, v'⟩ := v.half hP n1; obtain ⟨i, a, c', e⟩ := hu.2.2 t' ⟨p1, p2, p3⟩; exact hc i a (by omega) s' c p4 p5 (by rw [e]; exact v')
end Go.Proofs.Ytppkigdakobebaa
namespace Go.Proofs.Ytppkigdakobebaa
/-! ### Tzeng -/
theorem Cnt.le2 {n : Int} {P : Int -> Prop} {s t k c : Int} (h : Cnt n P s t k) (hc : c <= n) (v : ∀ i : Int, 0 <= i -> i < c -> P (s + i * t)) : c <= k := by
  rcases Int.lt_or_le k c with q | q
  . rcases h.2.2.2 with e | e
    . omega
    . exact absurd (v k h.1 q) e
  . exact q
theorem Jah {n : Int} {P : Int -> Prop} {ct : LI} {t x st dv b r0 r1 r2 r3 r4 : Int} {J : Int -> Int -> Int -> Int -> Int -> Int -> Int -> Int -> Bool -> Prop} (hP : Per n P) (n1 : 1 <= n) (n64 : n <= 64) (hct : (ct.length : Int) = n) (hcc : ∀ i : Int, 0 <= i -> i < n -> Cnt n P i t (gi ct i))
  (ht : Int.gcd t n = 1) (ht0 : 0 <= t /\ t <= 64) (x0 : 0 <= x) (xn : x < n) (hdv : dv = ((Int.gcd x n : Nat) : Int)) (s0 : 0 <= st) (sn : st < n) (hb : Bst n P b r0 r1 r2 r3 r4) (hb1 : gi ct st + 1 <= b)
  (hJ : ∀ b' q0 q1 q2 q3 q4 c m f, Bst n P b' q0 q1 q2 q3 q4 -> b <= b' -> (∀ c m, Val n P st t c x m -> c + 1 + m <= b') -> J b' q0 q1 q2 q3 q4 c m f) :
  ∃ (I166 : Int -> Int -> Int -> Int -> Int -> Int -> Int -> Int -> Prop) (μ167 : Int -> Int -> Int -> Int -> Int -> Int -> Int -> Int -> Nat), I166 (gi ct st) (0 : Int) b r0 r1 r2 r3 r4 /\ ∀ (z158 : Int) (z159 : Int) (z160 : Int) (z161 : Int) (z162 : Int) (z163 : Int) (z164 : Int) (z165 : Int), (I166 z158 z159 z160 z161 z162 z163 z164 z165 -> (((z159 < (ct.length : Int)) -> ((I64 (z159 + (1 : Int))) /\ ((I64 ((z159 + (1 : Int)) * x)) /\ ((I64 (st + ((z159 + (1 : Int)) * x))) /\ (((ct.length : Int) ≠ 0) /\ ((0 <= ((st + ((z159 + (1 : Int)) * x)).tmod (ct.length : Int)) /\ ((st + ((z159 + (1 : Int)) * x)).tmod (ct.length : Int)) < (ct.length : Nat)) /\ ((((min z158 (gi ct ((st + ((z159 + (1 : Int)) * x)).tmod (ct.length : Int)))) < dv) -> (J z160 z161 z162 z163 z164 z165 (min z158 (gi ct ((st + ((z159 + (1 : Int)) * x)).tmod (ct.length : Int)))) (z159 + (1 : Int)) (decide (z159 < (ct.length : Int))))) /\ (¬ ((min z158 (gi ct ((st + ((z159 + (1 : Int)) * x)).tmod (ct.length : Int)))) < dv) -> (∃ (r203 : Int), JO st t (min z158 (gi ct ((st + ((z159 + (1 : Int)) * x)).tmod (ct.length : Int)))) x (z159 + (1 : Int)) (fun q => q = r203) /\ (((z160 < r203) -> (∃ (r217 : Int), JO st t (min z158 (gi ct ((st + ((z159 + (1 : Int)) * x)).tmod (ct.length : Int)))) x (z159 + (1 : Int)) (fun q => q = r217) /\ ((fun (z192 : Int) (z193 : Int) (z194 : Int) (z195 : Int) (z196 : Int) (z197 : Int) => I166 (min z158 (gi ct ((st + ((z159 + (1 : Int)) * x)).tmod (ct.length : Int)))) (z159 + (1 : Int)) z192 z193 z194 z195 z196 z197 /\ μ167 (min z158 (gi ct ((st + ((z159 + (1 : Int)) * x)).tmod (ct.length : Int)))) (z159 + (1 : Int)) z192 z193 z194 z195 z196 z197 < μ167 z158 z159 z160 z161 z162 z163 z164 z165) r217 st t (min z158 (gi ct ((st + ((z159 + (1 : Int)) * x)).tmod (ct.length : Int)))) x (z159 + (1 : Int))))) /\ (¬ (z160 < r203) -> ((fun (z192 : Int) (z193 : Int) (z194 : Int) (z195 : Int) (z196 : Int) (z197 : Int) => I166 (min z158 (gi ct ((st + ((z159 + (1 : Int)) * x)).tmod (ct.length : Int)))) (z159 + (1 : Int)) z192 z193 z194 z195 z196 z197 /\ μ167 (min z158 (gi ct ((st + ((z159 + (1 : Int)) * x)).tmod (ct.length : Int)))) (z159 + (1 : Int)) z192 z193 z194 z195 z196 z197 < μ167 z158 z159 z160 z161 z162 z163 z164 z165) z160 z161 z162 z163 z164 z165)))))))))))) /\ (¬ (z159 < (ct.length : Int)) -> (J z160 z161 z162 z163 z164 z165 z158 z159 (decide (z159 < (ct.length : Int))))))) := by
 rw [hct]; have hdv1 : 1 <= dv := by
  have := Int.gcd_pos_of_ne_zero_right x (show n ≠ 0 by omega); omega
 have hC0 := hcc st s0 sn; refine ⟨fun cnt more b' q0 q1 q2 q3 q4 => 0 <= more /\ more <= n /\ 0 <= cnt /\ cnt <= n /\ Bst n P b' q0 q1 q2 q3 q4 /\ b <= b' /\ (∀ i j : Int, 0 <= i -> i < cnt -> 0 <= j -> j <= more -> P (st + i * t + j * x)) /\ (∀ c m, Val n P st t c x m -> more <= m -> c <= cnt) /\ ∀ c m, Val n P st t c x m -> m <= more -> c + 1 + m <= b', fun _ more _ _ _ _ _ _ => (n - more).toNat, ⟨by omega, by omega, hC0.1, hC0.2.1, hb, by omega, fun i j a c d e => ?_, fun c m v _ => hC0.le v, fun c m v hm => ?_⟩, ?_⟩
 .have : j = 0 := by omega
  rw [this, Int.zero_mul, Int.add_zero]; exact hC0.2.2.1 i a c
 .have := hC0.le v; have := v.2.2.1; omega
 rintro cnt more b' q0 q1 q2 q3 q4 ⟨m0, mn, c0, cn, hB, hbb, hA, hU, hV⟩; refine ⟨fun hlt => ?_, fun hge => hJ _ _ _ _ _ _ _ _ _ hB hbb fun c m v => hV c m v (by have := v.2.2.2.1; omega)⟩; have hm := Jau (i := more + 1) (y := x) (by omega) (by omega) x0 (by omega); have htm : ((st + ((more + 1) * x)).tmod n) = (st + (more + 1) * x) % n := Int.tmod_eq_emod_of_nonneg (by omega); rw [htm]; have hy := Qm (x := st + (more + 1) * x) (show 0 < n by omega); have hC := hcc _ hy.1 hy.2; have hyy : (st + (more + 1) * x) % n % n = (st + (more + 1) * x) % n := Int.emod_emod _ _; generalize hyg : (st + (more + 1) * x) % n = y at *
 have hmv : ∀ i : Int, (y + i * t) % n = (st + i * t + (more + 1) * x) % n := fun i => by
  have h1 := Jav (n := n) (s := y) (s' := st + (more + 1) * x) (t := t) (t' := t) (x := 0) (x' := 0) i 0 (by rw [hyy, hyg]) rfl rfl; rw [show st + i * t + (more + 1) * x = st + (more + 1) * x + i * t + 0 * 0 by omega, <- h1]
  congr 1; omega
 generalize hq : gi ct y = k at *
 have hk0 := hC.1; have hkn := hC.2.1; have hA' : ∀ i j : Int, 0 <= i -> i < min cnt k -> 0 <= j -> j <= more + 1 -> P (st + i * t + j * x) := fun i j a c d e => by
  by_cases ej : j = more + 1
  .subst ej; exact hP _ _ (hmv i) (hC.2.2.1 i a (by omega))
  .exact hA i j a (by omega) d (by omega)
 have hU' : ∀ c m, Val n P st t c x m -> more + 1 <= m -> c <= min cnt k := fun c m v hmm => by
  have h1 := hU c m v (by omega); have h2 := hC.le2 v.2.1 fun i a d => hP _ _ (hmv i).symm (v.2.2.2.2.2.2 i (more + 1) a d (by omega) hmm); omega
 refine ⟨JD (by omega) (by omega), JD (by omega) (by omega), JD (by omega) (by omega), by omega, ⟨hy.1, hy.2⟩, fun hbr => hJ _ _ _ _ _ _ _ _ _ hB hbb fun c m v => ?_, fun hok => ?_⟩
 .rcases Int.lt_or_le more m with hmm | hmm
  .have h1 := hU' c m v (by omega); have h2 := v.2.2.2.2.2.1 (by omega); omega
  .exact hV c m v hmm
 .have hv : Val n P st t (min cnt k) x (more + 1) := ⟨by omega, by omega, by omega, by omega, ht, fun _ => by omega, hA'⟩
  have go : ∀ b2 p0 p1 p2 p3 p4, Bst n P b2 p0 p1 p2 p3 p4 -> b' <= b2 -> min cnt k + 1 + (more + 1) <= b2 -> 0 <= more + 1 /\ more + 1 <= n /\ 0 <= min cnt k /\ min cnt k <= n /\ Bst n P b2 p0 p1 p2 p3 p4 /\ b <= b2 /\ (∀ i j : Int, 0 <= i -> i < min cnt k -> 0 <= j -> j <= more + 1 -> P (st + i * t + j * x)) /\ (∀ c m, Val n P st t c x m -> more + 1 <= m -> c <= min cnt k) /\ ∀ c m, Val n P st t c x m -> m <= more + 1 -> c + 1 + m <= b2 := fun b2 p0 p1 p2 p3 p4 h1 h2 h3 =>
   ⟨by omega, by omega, by omega, by omega, h1, by omega, hA', hU', fun c m v hmm => by
    by_cases e : m = more + 1
    .have := hU' c m v (by omega); omega
    .have := hV c m v (by omega); omega⟩
  have hmu : (n - (more + 1)).toNat < (n - more).toNat := by omega
  exact ⟨_, QR (by omega) (by omega) (by omega) (by omega) rfl, fun hlt2 => ⟨_, QR (by omega) (by omega) (by omega) (by omega) rfl, go _ _ _ _ _ _ (.inr ⟨hv, rfl, by omega, by omega, ht0.1, ht0.2, by omega, by omega⟩) (by omega) (by omega), hmu⟩, fun hge2 => ⟨go _ _ _ _ _ _ hB (by omega) (by omega), hmu⟩⟩
theorem QS {n : Int} {l : LI} {Q : Int × Int × Int × Int × Int × Int × Int -> Prop} (hl : l.length <= 1000) (h4 : ¬ (1 <= n /\ n <= 64) -> Q (0, 0, 0, 0, 0, 0, 4))
  (h : ∀ b r0 r1 r2 r3 r4, 1 <= n -> n <= 64 -> Bst n (PZ n l) b r0 r1 r2 r3 r4 -> isT n (PZ n l) b -> Q (b, r0, r1, r2, r3, r4, 0)) : Qn n l Q := by
 refine YG ?_; by_cases hn : 1 <= n /\ n <= 64
 case neg => rw [decide_eq_false hn]; exact nF (h4 hn)
 rw [decide_eq_true hn]; obtain ⟨n1, n64⟩ := hn; refine nT (Zu (by omega) n64 hl fun xm hx => Jag hx.1 n1 n64 fun u hu => ?_); have hP := Jad n l; generalize hPP : PZ n l = P at *
 refine ⟨fun b r0 r1 r2 r3 r4 k => 0 <= k /\ k <= (u.length : Nat) /\ Bst n P b r0 r1 r2 r3 r4 /\ ∀ i : Int, 0 <= i -> i < k -> ∀ s c x m, 0 <= s -> s < n -> Val n P s (gi u i) c x m -> c + 1 + m <= b, fun _ _ _ _ _ _ k => ((u.length : Nat) - k : Int).toNat, ⟨by omega, by omega, .inl ⟨rfl, rfl, rfl, rfl, rfl, rfl⟩, fun i a b => by omega⟩, ?_⟩; rintro b r0 r1 r2 r3 r4 k ⟨k0, k1, hb, hc⟩; refine ⟨fun hk => ⟨⟨k0, hk⟩, ?_⟩, fun hk => h b r0 r1 r2 r3 r4 n1 n64 hb (hb.isT fun s t c x m v => ?_)⟩
 .have ht := hu.2.1 k k0 hk; have hul := hu.1; have ht0 : 0 <= gi u k /\ gi u k <= 64 := ⟨by have := ht.1; omega, by have := ht.2.1; omega⟩
  generalize et : gi u k = t at *
  refine Zv hP hx n1 n64 (by have := ht.1; omega) (by have := ht.2.1; omega) fun ct hct hcc => ?_; refine ⟨fun b r0 r1 r2 r3 r4 x => 0 <= x /\ x <= n /\ Bst n P b r0 r1 r2 r3 r4 /\ (∀ i : Int, 0 <= i -> i < k -> ∀ s c x m, 0 <= s -> s < n -> Val n P s (gi u i) c x m -> c + 1 + m <= b) /\ ∀ x', 0 <= x' -> x' < x -> ∀ s c m, 0 <= s -> s < n -> Val n P s t c x' m -> c + 1 + m <= b, fun _ _ _ _ _ _ x => (n - x).toNat, ⟨by omega, by omega, hb, hc, fun x' a b => by omega⟩, ?_⟩; rintro b r0 r1 r2 r3 r4 x ⟨x0, xn, hb, hc, hX⟩; refine ⟨fun hxn => ?_, fun hxn => ⟨JD (by omega) (by omega), ⟨by omega, by omega, hb, fun i a c s d y m e f v => ?_⟩, by show ((u.length : Nat) - (k + 1) : Int).toNat < ((u.length : Nat) - k : Int).toNat; omega⟩⟩
  .refine Zw (by omega) (by omega) ?_; refine ⟨fun b r0 r1 r2 r3 r4 st => 0 <= st /\ st <= n /\ Bst n P b r0 r1 r2 r3 r4 /\ (∀ i : Int, 0 <= i -> i < k -> ∀ s c x m, 0 <= s -> s < n -> Val n P s (gi u i) c x m -> c + 1 + m <= b) /\ (∀ x', 0 <= x' -> x' < x -> ∀ s c m, 0 <= s -> s < n -> Val n P s t c x' m -> c + 1 + m <= b) /\ ∀ s c m, 0 <= s -> s < st -> Val n P s t c x m -> c + 1 + m <= b, fun _ _ _ _ _ _ st => (n - st).toNat, ⟨by omega, by omega, hb, hc, hX, fun s c m a d => by omega⟩, ?_⟩; rintro b r0 r1 r2 r3 r4 st ⟨s0, s1, hb, hc, hX, hS⟩; refine ⟨fun hst => ?_, fun hst => ⟨JD (by omega) (by omega), ⟨by omega, by omega, hb, hc, fun x' a c s d m e f v => ?_⟩, by show (n - (x + 1)).toNat < (n - x).toNat; omega⟩⟩
   .have hst' : st < n := by omega
    have hC := hcc st s0 hst'; refine ⟨fun b' q0 q1 q2 q3 q4 _ _ _ => Bst n P b' q0 q1 q2 q3 q4 /\ b <= b' /\ ∀ c m, Val n P st t c x m -> c + 1 + m <= b', ⟨by omega, _, QR hC.1 (by have := hC.2.1; omega) (by omega) (by omega) rfl, fun hlt => ⟨_, QR hC.1 (by have := hC.2.1; omega) (by omega) (by omega) rfl, ?_⟩, fun hge => ?_⟩, ?_⟩
    .refine Jah (J := fun b' q0 q1 q2 q3 q4 _ _ _ => Bst n P b' q0 q1 q2 q3 q4 /\ b <= b' /\ ∀ c m, Val n P st t c x m -> c + 1 + m <= b') hP n1 n64 hct hcc ht.2.2 ht0 x0 (by omega) (by rw [hct]) s0 hst' (.inr ⟨hC.val n1 (by have := hb.ge; omega) ht.2.2, rfl, by omega, by omega, ht0.1, ht0.2, by omega, by omega⟩) (by omega) fun b' q0 q1 q2 q3 q4 c m f h1 h2 h3 => ⟨h1, by omega, h3⟩
    .exact Jah (J := fun b' q0 q1 q2 q3 q4 _ _ _ => Bst n P b' q0 q1 q2 q3 q4 /\ b <= b' /\ ∀ c m, Val n P st t c x m -> c + 1 + m <= b') hP n1 n64 hct hcc ht.2.2 ht0 x0 (by omega) (by rw [hct]) s0 hst' hb (by omega) fun b' q0 q1 q2 q3 q4 c m f h1 h2 h3 => ⟨h1, h2, h3⟩
    .rintro b' q0 q1 q2 q3 q4 _ _ _ ⟨h1, h2, h3⟩; exact ⟨JD (by omega) (by omega), ⟨by omega, by omega, h1, fun i a c s d y m e f v => by have := hc i a c s d y m e f v; omega, fun x' a c s d m e f v => by have := hX x' a c s d m e f v; omega, fun s c m a e v => by
     by_cases es : s = st
     .subst es; exact h3 c m v
     .have := hS s c m a (by omega) v; omega⟩, by show (n - (st + 1)).toNat < (n - st).toNat; omega⟩
   .by_cases ex : x' = x
    .subst ex; exact hS s d m e (by omega) v
    .exact hX x' a (by omega) s d m e f v
  .by_cases ei : i = k
   .subst ei; rw [et] at v; have hy := Qm (x := y) (show 0 < n by omega); exact hX (y % n) hy.1 (by omega) s d m e f (v.mod hP rfl rfl (Int.emod_emod _ _).symm)
   .exact hc i a (by omega) s d y m e f v
 .obtain ⟨s', t', p1, p2, p3, p4, p5, v'⟩ := v.half hP n1; obtain ⟨i, a, c', e⟩ := hu.2.2 t' ⟨p1, p2, p3⟩; exact hc i a (by omega) s' c x m p4 p5 (by rw [e]; exact v')
end Go.Proofs.Ytppkigdakobebaa
namespace Go.Proofs.Ytppkigdakobebaa
def Wit (n : Int) (P : Int -> Prop) (y b : Int) : Prop := 1 <= b /\ b <= 200 /\ (b = 1 ∨ ∃ s t c x m, Val n P s t c x m /\ m <= y /\ b = c + 1 + m)
theorem Wit.max {n : Int} {P : Int -> Prop} {y b s t c x m : Int} (h : Wit n P y b) (h64 : n <= 64) (v : Val n P s t c x m) (hm : m <= y) : Wit n P y (max b (c + 1 + m)) := by
 have := v.1; have := v.2.1; have := v.2.2.1; have := v.2.2.2.1; have := h.1; have := h.2.1; refine ⟨by omega, by omega, ?_⟩; by_cases e : b <= c + 1 + m
 .rw [Int.max_eq_right e]; exact .inr ⟨s, t, c, x, m, v, hm, rfl⟩
 .rw [Int.max_eq_left (by omega)]; exact h.2.2
def isY (n : Int) (P : Int -> Prop) (y b : Int) : Prop := Wit n P y b /\ ∀ s t c x m, m <= y -> (y = 0 -> x = 0) -> Val n P s t c x m -> c + 1 + m <= b
theorem isY.isB {n b : Int} {P : Int -> Prop} (h : isY n P 0 b) : isB n P b := by
 refine ⟨h.1.1, fun s t c v => by have := h.2 s t c 0 0 (by omega) (fun _ => rfl) v; omega, ?_⟩; rcases h.1.2.2 with e | ⟨s, t, c, x, m, v, hm, e⟩
 .exact .inl e
 .have := v.2.2.1; exact .inr ⟨s, t, c, v.flat, by omega⟩
theorem isY.isT {n b : Int} {P : Int -> Prop} (hn : 1 <= n) (h : isY n P n b) : isT n P b := by
 refine ⟨h.1.1, fun s t c x m v => h.2 s t c x m v.2.2.2.1 (fun e => by omega) v, ?_⟩; rcases h.1.2.2 with e | ⟨s, t, c, x, m, v, hm, e⟩
 .exact .inl e
 .exact .inr ⟨s, t, c, x, m, v, e⟩
end Go.Proofs.Ytppkigdakobebaa
namespace Go.Proofs.Ytppkigdakobebaa
theorem Bst.val {n : Int} {P : Int -> Prop} {b r0 r1 r2 r3 r4 : Int} (h : Bst n P b r0 r1 r2 r3 r4) (h1 : b ≠ 1) : Val n P r0 r1 r2 r3 r4 /\ b = r2 + 1 + r4 /\ ZS n r0 r1 r2 r3 r4 := by
 rcases h with h | ⟨v, e, a1, a2, a3, a4, a5, a6⟩
 .exact absurd h.1 h1
 .exact ⟨v, e, ⟨by omega, by omega⟩, ⟨by omega, by omega⟩, ⟨by omega, by omega⟩, v.1, v.2.1, v.2.2.1, v.2.2.2.1⟩
end Go.Proofs.Ytppkigdakobebaa
namespace Go.Proofs.Ytppkigdakobebaa
open Go.RowKit
end Go.Proofs.Ytppkigdakobebaa
namespace Go.Proofs.Ytppkigdakobebaa
end Go.Proofs.Ytppkigdakobebaa
