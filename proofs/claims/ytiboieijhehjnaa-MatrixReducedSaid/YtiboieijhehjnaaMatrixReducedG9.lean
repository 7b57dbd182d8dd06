/- Contracts of functions of the program, and what they lean on: D15, D16, Fa, Fb, Fg, Fp, Fk. -/
import Derived.Test.YtiboieijhehjnaaMatrixReducedG8
set_option linter.unusedSimpArgs false
set_option linter.unusedVariables false
set_option maxRecDepth 4000
set_option maxHeartbeats 4000000
namespace Go.Proofs.Ytiboieijhehjnaa
open Go.RowKit
def V_awake  (Q : Bool → Prop) : Prop :=
  V_Canonical (2 : Int) (1 : Int) ([] : List Int) (3 : Int) ([([(1 : Int), (1 : Int), (0 : Int)] : List Int), ([(0 : Int), (1 : Int), (1 : Int)] : List Int), ([(1 : Int), (0 : Int), (1 : Int)] : List Int)] : List (List Int)) (fun q => match q with | (c33, x34, x35, r36) => V_Rank (2 : Int) (1 : Int) ([] : List Int) (3 : Int) ([([(1 : Int), (1 : Int), (0 : Int)] : List Int), ([(0 : Int), (1 : Int), (1 : Int)] : List Int), ([(1 : Int), (0 : Int), (1 : Int)] : List Int)] : List (List Int)) (fun q => match q with | (r48, r49) => V_Kernel (2 : Int) (1 : Int) ([] : List Int) (3 : Int) ([([(1 : Int), (1 : Int), (0 : Int)] : List Int), ([(0 : Int), (1 : Int), (1 : Int)] : List Int), ([(1 : Int), (0 : Int), (1 : Int)] : List Int)] : List (List Int)) (fun q => match q with | (c51, x52, r53) => V_Det (5 : Int) (1 : Int) ([] : List Int) (2 : Int) ([([(1 : Int), (2 : Int)] : List Int), ([(3 : Int), (4 : Int)] : List Int)] : List (List Int)) (fun q => match q with | (r74, r75) => V_Inverse (5 : Int) (1 : Int) ([] : List Int) (2 : Int) ([([(1 : Int), (2 : Int)] : List Int), ([(3 : Int), (4 : Int)] : List Int)] : List (List Int)) (fun q => match q with | (c77, x78, r79) => V_Vec (5 : Int) (1 : Int) ([] : List Int) ([(1 : Int), (1 : Int)] : List Int) (2 : Int) ([([(1 : Int), (2 : Int)] : List Int), ([(3 : Int), (4 : Int)] : List Int)] : List (List Int)) (fun q => match q with | (x91, r92) => V_Solve (5 : Int) (1 : Int) ([] : List Int) (2 : Int) ([([(1 : Int), (2 : Int)] : List Int), ([(3 : Int), (4 : Int)] : List Int)] : List (List Int)) ([(3 : Int), (2 : Int)] : List Int) (fun q => match q with | (x100, r101) => ((r36 = (0 : Int)) → (((r49 = (0 : Int)) → (((r53 = (0 : Int)) → (((r75 = (0 : Int)) → (((r79 = (0 : Int)) → (((r92 = (0 : Int)) → (((r101 = (0 : Int)) → (V_rSame c33 x34 (3 : Int) ([([(1 : Int), (0 : Int), (1 : Int)] : List Int), ([(0 : Int), (1 : Int), (1 : Int)] : List Int)] : List (List Int)) (fun r122 => ((r122 = true) → (V_rSameInts x35 ([(0 : Int), (1 : Int)] : List Int) (fun r128 => ((r128 = true) → (((r48 = (2 : Int)) → (V_rSame c51 x52 (3 : Int) ([([(1 : Int), (1 : Int), (1 : Int)] : List Int)] : List (List Int)) (fun r138 => ((r138 = true) → (((r74 = (3 : Int)) → (V_rSame c77 x78 (2 : Int) ([([(3 : Int), (1 : Int)] : List Int), ([(4 : Int), (2 : Int)] : List Int)] : List (List Int)) (fun r151 => ((r151 = true) → (V_rSameInts x91 ([(4 : Int), (1 : Int)] : List Int) (fun r157 => ((r157 = true) → (V_rSameInts x100 ([(1 : Int), (1 : Int)] : List Int) (fun r163 => ((r163 = true) → (V_mCheck (5 : Int) (1 : Int) ([] : List Int) (2 : Int) ([([(1 : Int), (2 : Int)] : List Int), ([(3 : Int), (4 : Int)] : List Int)] : List (List Int)) (fun r166 => ((r166 = (0 : Int)) → (V_mCheck (2 : Int) (1 : Int) ([] : List Int) (2 : Int) ([([(1 : Int), (2 : Int)] : List Int), ([(3 : Int), (4 : Int)] : List Int)] : List (List Int)) (fun r169 => Q (decide (r169 = (2 : Int)))))) ∧ (¬ (r166 = (0 : Int)) → Q false)))) ∧ (r163 = false → Q false)))) ∧ (r157 = false → Q false)))) ∧ (r151 = false → Q false)))) ∧ (¬ (r74 = (3 : Int)) → Q false))) ∧ (r138 = false → Q false)))) ∧ (¬ (r48 = (2 : Int)) → Q false))) ∧ (r128 = false → Q false)))) ∧ (r122 = false → Q false)))) ∧ (¬ (r101 = (0 : Int)) → Q false))) ∧ (¬ (r92 = (0 : Int)) → Q false))) ∧ (¬ (r79 = (0 : Int)) → Q false))) ∧ (¬ (r75 = (0 : Int)) → Q false))) ∧ (¬ (r53 = (0 : Int)) → Q false))) ∧ (¬ (r49 = (0 : Int)) → Q false))) ∧ (¬ (r36 = (0 : Int)) → Q false))))))))
theorem ok_awake {w : World} {Q : Bool → Prop}   (hv : V_awake  Q) :
   Calls Try.prog 15 #[] w fun e w' => ∃ v Qr, e = .returned v ∧ w.grownBy w' none ∧ Rows w.heap.size none w' Qr ∧ News w.heap.size Qr ∧ ∃ (r0 : Bool), v = .bool r0 ∧ Qr = [] ∧ Q r0 := by
 refine calls_swap <| calls_of_W (vs := []) [0] XF15 rfl rfl rfl rfl ?_; have hS := St.start w; unfold V_awake at hv; refine W.seq <| W.region <| WL.assign rfl rfl <| WL.done <| W.seq <| W.region <| WL.build (cells := #[.int .i64 (2 : Int), .int .i64 (1 : Int), .slice none 0 0]) XB24 rfl rfl rfl <| SL.alloc (cs := [.int .i64 (0 : Int), .int .i64 (0 : Int), .slice none 0 0]) hS XE24 rfl rfl ?_; intro g11 w12 hS; refine SL.storeV (cs := [.int .i64 (2 : Int), .int .i64 (1 : Int), .slice none 0 0]) 0 hS rfl XE24 rfl rfl rfl rfl rfl ?_; intro w13 hS; refine WL.done <| W.seq <| W.region <| WL.build (cells := #[.int .i64 (5 : Int), .int .i64 (1 : Int), .slice none 0 0]) XB24 rfl rfl rfl <| SL.alloc (cs := [.int .i64 (0 : Int), .int .i64 (0 : Int), .slice none 0 0]) hS XE24 rfl rfl ?_; intro g14 w15 hS; refine SL.storeV (cs := [.int .i64 (5 : Int), .int .i64 (1 : Int), .slice none 0 0]) 0 hS rfl XE24 rfl rfl rfl rfl rfl ?_; intro w16 hS; refine WL.done <| W.seq <| W.region <| SL.lit1 (vs := is ([(1 : Int), (1 : Int), (0 : Int)] : List Int)) hS XU22 XE3 rfl rfl rfl rfl (is_one _) rfl ?_; intro A17 w18 hS; refine SL.lit1 (vs := is ([(0 : Int), (1 : Int), (1 : Int)] : List Int)) hS XU22 XE3 rfl rfl rfl rfl (is_one _) rfl ?_; intro A20 w21 hS; refine SL.lit1 (vs := is ([(1 : Int), (0 : Int), (1 : Int)] : List Int)) hS XU22 XE3 rfl rfl rfl rfl (is_one _) rfl ?_; intro A23 w24 hS; refine SL.lit1 (vs := [.slice A17 3 3, .slice A20 3 3, .slice A23 3 3]) hS XU25 XE22 rfl rfl rfl rfl (by simp [Value.oneCell']) rfl ?_; intro A26 w27 hS; refine WL.build (cells := #[.int .i64 (3 : Int), .slice A26 3 3]) XB27 rfl rfl rfl <| SL.alloc (cs := [.int .i64 (0 : Int), .slice none 0 0]) hS XE27 rfl rfl ?_; intro g29 w30 hS; refine SL.storeV (cs := [.int .i64 (3 : Int), .slice A26 3 3]) 0 hS rfl XE27 rfl rfl rfl rfl rfl ?_; intro w31 hS; refine WL.done <| W.seq <| W.region <| WL.loadV (cs := [.int .i64 (2 : Int), .int .i64 (1 : Int), .slice none 0 0]) XE24 XG24 rfl rfl (Own.vcells (hS.own (i := 6) rfl)) rfl <| WL.loadV (cs := [.int .i64 (3 : Int), .slice A26 3 3]) XE27 XG27 rfl rfl (Own.vcells (hS.own (i := 0) rfl)) rfl <| SL.call hS (ok_Canonical (Rd.nilL w31) (⟨_, _, (hS.rd (i := 1) rfl), ⟨⟨_, _, _, rfl, (Rd.is_m (hS.rd (i := 4) rfl))⟩, ⟨_, _, _, rfl, (Rd.is_m (hS.rd (i := 3) rfl))⟩, ⟨_, _, _, rfl, (Rd.is_m (hS.rd (i := 2) rfl))⟩, trivial⟩⟩ : Rl _ _ _ _ ([([(1 : Int), (1 : Int), (0 : Int)] : List Int), ([(0 : Int), (1 : Int), (1 : Int)] : List Int), ([(1 : Int), (0 : Int), (1 : Int)] : List Int)] : List (List Int))) hv) XF17 rfl XN17 rfl rfl ?_; rintro _ _ w32 ⟨c33, x34, x35, r36, A37, k38, hs39, A41, k42, rfl, rfl, hv⟩ hGw32 hS; have hS := hS.n2; refine WL.move rfl rfl <| WL.extract rfl rfl rfl <| WL.extract rfl rfl rfl <| WL.extract rfl rfl rfl <| SL.alloc (cs := [.int .i64 (0 : Int), .slice none 0 0]) hS XE27 rfl rfl ?_; intro g44 w45 hS; refine SL.storeV (cs := [.int .i64 c33, .slice A37 x34.length k38]) 0 hS rfl XE27 rfl rfl rfl rfl rfl ?_; intro w46 hS; refine WL.assign rfl rfl <| WL.assign rfl rfl <| WL.done <| W.seq <| W.region <| WL.loadV (cs := [.int .i64 (2 : Int), .int .i64 (1 : Int), .slice none 0 0]) XE24 XG24 rfl rfl (Own.vcells (hS.own (i := 9) rfl)) rfl <| WL.loadV (cs := [.int .i64 (3 : Int), .slice A26 3 3]) XE27 XG27 rfl rfl (Own.vcells (hS.own (i := 3) rfl)) rfl <| SL.call hS (ok_Rank (Rd.nilL w46) (⟨_, _, (hS.rd (i := 4) rfl), ⟨⟨_, _, _, rfl, (Rd.is_m (hS.rd (i := 7) rfl))⟩, ⟨_, _, _, rfl, (Rd.is_m (hS.rd (i := 6) rfl))⟩, ⟨_, _, _, rfl, (Rd.is_m (hS.rd (i := 5) rfl))⟩, trivial⟩⟩ : Rl _ _ _ _ ([([(1 : Int), (1 : Int), (0 : Int)] : List Int), ([(0 : Int), (1 : Int), (1 : Int)] : List Int), ([(1 : Int), (0 : Int), (1 : Int)] : List Int)] : List (List Int))) hv) XF19 rfl XN19 rfl rfl ?_; rintro _ _ w47 ⟨r48, r49, rfl, rfl, hv⟩ hGw47 hS; have hS := hS.n0; refine WL.move rfl rfl <| WL.extract rfl rfl rfl <| WL.extract rfl rfl rfl <| WL.assign rfl rfl <| WL.assign rfl rfl <| WL.done <| W.seq <| W.region <| WL.loadV (cs := [.int .i64 (2 : Int), .int .i64 (1 : Int), .slice none 0 0]) XE24 XG24 rfl rfl (Own.vcells (hS.own (i := 9) rfl)) rfl <| WL.loadV (cs := [.int .i64 (3 : Int), .slice A26 3 3]) XE27 XG27 rfl rfl (Own.vcells (hS.own (i := 3) rfl)) rfl <| SL.call hS (ok_Kernel (Rd.nilL w47) (⟨_, _, (hS.rd (i := 4) rfl), ⟨⟨_, _, _, rfl, (Rd.is_m (hS.rd (i := 7) rfl))⟩, ⟨_, _, _, rfl, (Rd.is_m (hS.rd (i := 6) rfl))⟩, ⟨_, _, _, rfl, (Rd.is_m (hS.rd (i := 5) rfl))⟩, trivial⟩⟩ : Rl _ _ _ _ ([([(1 : Int), (1 : Int), (0 : Int)] : List Int), ([(0 : Int), (1 : Int), (1 : Int)] : List Int), ([(1 : Int), (0 : Int), (1 : Int)] : List Int)] : List (List Int))) hv) XF33 rfl XN33 rfl rfl ?_; rintro _ _ w50 ⟨c51, x52, r53, A54, k55, hs56, rfl, rfl, hv⟩ hGw50 hS; have hS := hS.n1; refine WL.move rfl rfl <| WL.extract rfl rfl rfl <| WL.extract rfl rfl rfl <| SL.alloc (cs := [.int .i64 (0 : Int), .slice none 0 0]) hS XE27 rfl rfl ?_; intro g58 w59 hS; refine SL.storeV (cs := [.int .i64 c51, .slice A54 x52.length k55]) 0 hS rfl XE27 rfl rfl rfl rfl rfl ?_; intro w60 hS; refine WL.assign rfl rfl <| WL.done <| W.seq <| W.region <| SL.lit1 (vs := is ([(1 : Int), (2 : Int)] : List Int)) hS XU22 XE3 rfl rfl rfl rfl (is_one _) rfl ?_; intro A61 w62 hS; refine SL.lit1 (vs := is ([(3 : Int), (4 : Int)] : List Int)) hS XU22 XE3 rfl rfl rfl rfl (is_one _) rfl ?_; intro A64 w65 hS; refine SL.lit1 (vs := [.slice A61 2 2, .slice A64 2 2]) hS XU25 XE22 rfl rfl rfl rfl (by simp [Value.oneCell']) rfl ?_; intro A67 w68 hS; refine WL.build (cells := #[.int .i64 (2 : Int), .slice A67 2 2]) XB27 rfl rfl rfl <| SL.alloc (cs := [.int .i64 (0 : Int), .slice none 0 0]) hS XE27 rfl rfl ?_; intro g70 w71 hS; refine SL.storeV (cs := [.int .i64 (2 : Int), .slice A67 2 2]) 0 hS rfl XE27 rfl rfl rfl rfl rfl ?_; intro w72 hS; refine WL.done <| W.seq <| W.region <| WL.loadV (cs := [.int .i64 (5 : Int), .int .i64 (1 : Int), .slice none 0 0]) XE24 XG24 rfl rfl (Own.vcells (hS.own (i := 14) rfl)) rfl <| WL.loadV (cs := [.int .i64 (2 : Int), .slice A67 2 2]) XE27 XG27 rfl rfl (Own.vcells (hS.own (i := 0) rfl)) rfl <| SL.call hS (ok_Det (Rd.nilL w72) (⟨_, _, (hS.rd (i := 1) rfl), ⟨⟨_, _, _, rfl, (Rd.is_m (hS.rd (i := 3) rfl))⟩, ⟨_, _, _, rfl, (Rd.is_m (hS.rd (i := 2) rfl))⟩, trivial⟩⟩ : Rl _ _ _ _ ([([(1 : Int), (2 : Int)] : List Int), ([(3 : Int), (4 : Int)] : List Int)] : List (List Int))) hv) XF54 rfl XN54 rfl rfl ?_; rintro _ _ w73 ⟨r74, r75, rfl, rfl, hv⟩ hGw73 hS; have hS := hS.n0; refine WL.move rfl rfl <| WL.extract rfl rfl rfl <| WL.extract rfl rfl rfl <| WL.assign rfl rfl <| WL.assign rfl rfl <| WL.done <| W.seq <| W.region <| WL.loadV (cs := [.int .i64 (5 : Int), .int .i64 (1 : Int), .slice none 0 0]) XE24 XG24 rfl rfl (Own.vcells (hS.own (i := 14) rfl)) rfl <| WL.loadV (cs := [.int .i64 (2 : Int), .slice A67 2 2]) XE27 XG27 rfl rfl (Own.vcells (hS.own (i := 0) rfl)) rfl <| SL.call hS (ok_Inverse (Rd.nilL w73) (⟨_, _, (hS.rd (i := 1) rfl), ⟨⟨_, _, _, rfl, (Rd.is_m (hS.rd (i := 3) rfl))⟩, ⟨_, _, _, rfl, (Rd.is_m (hS.rd (i := 2) rfl))⟩, trivial⟩⟩ : Rl _ _ _ _ ([([(1 : Int), (2 : Int)] : List Int), ([(3 : Int), (4 : Int)] : List Int)] : List (List Int))) hv) XF32 rfl XN32 rfl rfl ?_; rintro _ _ w76 ⟨c77, x78, r79, A80, k81, hs82, rfl, rfl, hv⟩ hGw76 hS; have hS := hS.n1; refine WL.move rfl rfl <| WL.extract rfl rfl rfl <| WL.extract rfl rfl rfl <| SL.alloc (cs := [.int .i64 (0 : Int), .slice none 0 0]) hS XE27 rfl rfl ?_; intro g84 w85 hS; refine SL.storeV (cs := [.int .i64 c77, .slice A80 x78.length k81]) 0 hS rfl XE27 rfl rfl rfl rfl rfl ?_; intro w86 hS; refine WL.assign rfl rfl <| WL.done <| W.seq <| W.region <| WL.loadV (cs := [.int .i64 (5 : Int), .int .i64 (1 : Int), .slice none 0 0]) XE24 XG24 rfl rfl (Own.vcells (hS.own (i := 16) rfl)) rfl <| SL.lit1 (vs := is ([(1 : Int), (1 : Int)] : List Int)) hS XU22 XE3 rfl rfl rfl rfl (is_one _) rfl ?_; intro A87 w88 hS; refine WL.loadV (cs := [.int .i64 (2 : Int), .slice A67 2 2]) XE27 XG27 rfl rfl (Own.vcells (hS.own (i := 3) rfl)) rfl <| SL.call hS (ok_Vec (Rd.nilL w88) (hS.rd (i := 0) rfl) (⟨_, _, (hS.rd (i := 4) rfl), ⟨⟨_, _, _, rfl, (Rd.is_m (hS.rd (i := 6) rfl))⟩, ⟨_, _, _, rfl, (Rd.is_m (hS.rd (i := 5) rfl))⟩, trivial⟩⟩ : Rl _ _ _ _ ([([(1 : Int), (2 : Int)] : List Int), ([(3 : Int), (4 : Int)] : List Int)] : List (List Int))) hv) XF49 rfl XN49 rfl rfl ?_; rintro _ _ w90 ⟨x91, r92, A93, k94, rfl, rfl, hv⟩ hGw90 hS; have hS := hS.n1; refine WL.move rfl rfl <| WL.extract rfl rfl rfl <| WL.extract rfl rfl rfl <| WL.assign rfl rfl <| WL.assign rfl rfl <| WL.done <| W.seq <| W.region <| WL.loadV (cs := [.int .i64 (5 : Int), .int .i64 (1 : Int), .slice none 0 0]) XE24 XG24 rfl rfl (Own.vcells (hS.own (i := 18) rfl)) rfl <| WL.loadV (cs := [.int .i64 (2 : Int), .slice A67 2 2]) XE27 XG27 rfl rfl (Own.vcells (hS.own (i := 4) rfl)) rfl <| SL.lit1 (vs := is ([(3 : Int), (2 : Int)] : List Int)) hS XU22 XE3 rfl rfl rfl rfl (is_one _) rfl ?_; intro A96 w97 hS; refine SL.call hS (ok_Solve (Rd.nilL w97) (⟨_, _, (hS.rd (i := 6) rfl), ⟨⟨_, _, _, rfl, (Rd.is_m (hS.rd (i := 8) rfl))⟩, ⟨_, _, _, rfl, (Rd.is_m (hS.rd (i := 7) rfl))⟩, trivial⟩⟩ : Rl _ _ _ _ ([([(1 : Int), (2 : Int)] : List Int), ([(3 : Int), (4 : Int)] : List Int)] : List (List Int))) (hS.rd (i := 0) rfl) hv) XF36 rfl XN36 rfl rfl ?_; rintro _ _ w99 ⟨x100, r101, A102, k103, rfl, rfl, hv⟩ hGw99 hS; have hS := hS.n1; refine WL.move rfl rfl <| WL.extract rfl rfl rfl <| WL.extract rfl rfl rfl <| WL.assign rfl rfl <| WL.assign rfl rfl <| WL.done <| W.seq <| W.region <| WL.move rfl rfl <| WL.eqlD rfl rfl rfl <| WL.move rfl rfl ?_; by_cases g105 : r36 = (0 : Int)
 ·have hv := hv.1 g105; rw [decide_eq_true g105]; refine WL.take rfl <| WL.move rfl rfl <| WL.take rfl <| WL.eqlD rfl rfl rfl <| WL.pick rfl rfl rfl <| WL.move rfl rfl ?_; by_cases g106 : r49 = (0 : Int)
  ·have hv := hv.1 g106; rw [decide_eq_true g106]; refine WL.take rfl <| WL.move rfl rfl <| WL.take rfl <| WL.eqlD rfl rfl rfl <| WL.pick rfl rfl rfl <| WL.move rfl rfl ?_; by_cases g107 : r53 = (0 : Int)
   ·have hv := hv.1 g107; rw [decide_eq_true g107]; refine WL.take rfl <| WL.move rfl rfl <| WL.take rfl <| WL.eqlD rfl rfl rfl <| WL.pick rfl rfl rfl <| WL.move rfl rfl ?_; by_cases g108 : r75 = (0 : Int)
    ·have hv := hv.1 g108; rw [decide_eq_true g108]; refine WL.take rfl <| WL.move rfl rfl <| WL.take rfl <| WL.eqlD rfl rfl rfl <| WL.pick rfl rfl rfl <| WL.move rfl rfl ?_; by_cases g109 : r79 = (0 : Int)
     ·have hv := hv.1 g109; rw [decide_eq_true g109]; refine WL.take rfl <| WL.move rfl rfl <| WL.take rfl <| WL.eqlD rfl rfl rfl <| WL.pick rfl rfl rfl <| WL.move rfl rfl ?_; by_cases g110 : r92 = (0 : Int)
      ·have hv := hv.1 g110; rw [decide_eq_true g110]; refine WL.take rfl <| WL.move rfl rfl <| WL.take rfl <| WL.eqlD rfl rfl rfl <| WL.pick rfl rfl rfl <| WL.assign rfl rfl <| WL.done <| W.seq <| W.region <| WL.move rfl rfl <| WL.move rfl rfl ?_; by_cases g111 : r101 = (0 : Int)
       ·have hv := hv.1 g111; rw [decide_eq_true g111]; refine WL.take rfl <| WL.loadV (cs := [.int .i64 c33, .slice A37 x34.length k38]) XE27 XG27 rfl rfl (Own.vcells (hS.own (i := 12) rfl)) rfl <| WL.take rfl <| SL.lit1 (vs := is ([(1 : Int), (0 : Int), (1 : Int)] : List Int)) hS XU22 XE3 rfl rfl rfl rfl (is_one _) rfl ?_; intro A112 w113 hS; refine WL.take rfl <| SL.lit1 (vs := is ([(0 : Int), (1 : Int), (1 : Int)] : List Int)) hS XU22 XE3 rfl rfl rfl rfl (is_one _) rfl ?_; intro A115 w116 hS; refine WL.take rfl <| SL.lit1 (vs := [.slice A112 3 3, .slice A115 3 3]) hS XU25 XE22 rfl rfl rfl rfl (by simp [Value.oneCell']) rfl ?_; intro A118 w119 hS; refine WL.take rfl <| WL.build (cells := #[.int .i64 (3 : Int), .slice A118 2 2]) XB27 rfl rfl rfl <| WL.take rfl <| SL.call hS (ok_rSame (hS.rl (i := 16) rfl) (⟨_, _, (hS.rd (i := 0) rfl), ⟨⟨_, _, _, rfl, (Rd.is_m (hS.rd (i := 2) rfl))⟩, ⟨_, _, _, rfl, (Rd.is_m (hS.rd (i := 1) rfl))⟩, trivial⟩⟩ : Rl _ _ _ _ ([([(1 : Int), (0 : Int), (1 : Int)] : List Int), ([(0 : Int), (1 : Int), (1 : Int)] : List Int)] : List (List Int))) hv) XF20 rfl XN20 rfl rfl ?_; rintro _ _ w121 ⟨r122, rfl, rfl, hv⟩ hGw121 hS; have hS := hS.n0; refine WL.pick rfl rfl rfl <| WL.move rfl rfl ?_; cases g123 : r122
        ·have hv := hv.2 g123; refine WL.pass rfl rfl rfl <| WL.pass rfl rfl rfl <| WL.pass rfl rfl rfl <| WL.pick rfl rfl rfl <| WL.move rfl rfl <| WL.pass rfl rfl rfl <| WL.pass rfl rfl rfl <| WL.pick rfl rfl rfl <| WL.move rfl rfl <| WL.pass rfl rfl rfl <| WL.pass rfl rfl rfl <| WL.pass rfl rfl rfl <| WL.pass rfl rfl rfl <| WL.pass rfl rfl rfl <| WL.pick rfl rfl rfl <| WL.move rfl rfl <| WL.pass rfl rfl rfl <| WL.pass rfl rfl rfl <| WL.pick rfl rfl rfl <| WL.move rfl rfl <| WL.pass rfl rfl rfl <| WL.pass rfl rfl rfl <| WL.pass rfl rfl rfl <| WL.pass rfl rfl rfl <| WL.pass rfl rfl rfl <| WL.pass rfl rfl rfl <| WL.pick rfl rfl rfl <| WL.move rfl rfl <| WL.pass rfl rfl rfl <| WL.pass rfl rfl rfl <| WL.pass rfl rfl rfl <| WL.pick rfl rfl rfl <| WL.move rfl rfl <| WL.pass rfl rfl rfl <| WL.pass rfl rfl rfl <| WL.pass rfl rfl rfl <| WL.pick rfl rfl rfl <| WL.move rfl rfl <| WL.pass rfl rfl rfl <| WL.pass rfl rfl rfl <| WL.pass rfl rfl rfl <| WL.pass rfl rfl rfl <| WL.pick rfl rfl rfl <| WL.move rfl rfl <| WL.pass rfl rfl rfl <| WL.pass rfl rfl rfl <| WL.pass rfl rfl rfl <| WL.pass rfl rfl rfl <| WL.pick rfl rfl rfl <| WL.assign rfl rfl <| WL.done <| W.ret <| ⟨_, rfl, Fin.nil ?_⟩
         exact ⟨_, hS.ext, (hS.pick [] rfl).rows, News.of (hS.pick [] rfl).rows rfl, ⟨false, rfl, rfl, hv⟩⟩
        have hv := hv.1 g123; refine WL.take rfl <| WL.move rfl rfl <| WL.take rfl <| SL.lit1 (vs := is ([(0 : Int), (1 : Int)] : List Int)) hS XU22 XE3 rfl rfl rfl rfl (is_one _) rfl ?_; intro A124 w125 hS; refine WL.take rfl <| SL.call hS (ok_rSameInts (hS.rd (i := 18) rfl) (hS.rd (i := 0) rfl) hv) XF21 rfl XN21 rfl rfl ?_; rintro _ _ w127 ⟨r128, rfl, rfl, hv⟩ hGw127 hS; have hS := hS.n0; refine WL.pick rfl rfl rfl <| WL.move rfl rfl ?_; cases g129 : r128
        ·have hv := hv.2 g129; refine WL.pass rfl rfl rfl <| WL.pass rfl rfl rfl <| WL.pick rfl rfl rfl <| WL.move rfl rfl <| WL.pass rfl rfl rfl <| WL.pass rfl rfl rfl <| WL.pass rfl rfl rfl <| WL.pass rfl rfl rfl <| WL.pass rfl rfl rfl <| WL.pick rfl rfl rfl <| WL.move rfl rfl <| WL.pass rfl rfl rfl <| WL.pass rfl rfl rfl <| WL.pick rfl rfl rfl <| WL.move rfl rfl <| WL.pass rfl rfl rfl <| WL.pass rfl rfl rfl <| WL.pass rfl rfl rfl <| WL.pass rfl rfl rfl <| WL.pass rfl rfl rfl <| WL.pass rfl rfl rfl <| WL.pick rfl rfl rfl <| WL.move rfl rfl <| WL.pass rfl rfl rfl <| WL.pass rfl rfl rfl <| WL.pass rfl rfl rfl <| WL.pick rfl rfl rfl <| WL.move rfl rfl <| WL.pass rfl rfl rfl <| WL.pass rfl rfl rfl <| WL.pass rfl rfl rfl <| WL.pick rfl rfl rfl <| WL.move rfl rfl <| WL.pass rfl rfl rfl <| WL.pass rfl rfl rfl <| WL.pass rfl rfl rfl <| WL.pass rfl rfl rfl <| WL.pick rfl rfl rfl <| WL.move rfl rfl <| WL.pass rfl rfl rfl <| WL.pass rfl rfl rfl <| WL.pass rfl rfl rfl <| WL.pass rfl rfl rfl <| WL.pick rfl rfl rfl <| WL.assign rfl rfl <| WL.done <| W.ret <| ⟨_, rfl, Fin.nil ?_⟩
         exact ⟨_, hS.ext, (hS.pick [] rfl).rows, News.of (hS.pick [] rfl).rows rfl, ⟨false, rfl, rfl, hv⟩⟩
        have hv := hv.1 g129; refine WL.take rfl <| WL.move rfl rfl <| WL.take rfl <| WL.eqlD rfl rfl rfl <| WL.pick rfl rfl rfl <| WL.move rfl rfl ?_; by_cases g130 : r48 = (2 : Int)
        ·have hv := hv.1 g130; rw [decide_eq_true g130]; refine WL.take rfl <| WL.loadV (cs := [.int .i64 c51, .slice A54 x52.length k55]) XE27 XG27 rfl rfl (Own.vcells (hS.own (i := 14) rfl)) rfl <| WL.take rfl <| SL.lit1 (vs := is ([(1 : Int), (1 : Int), (1 : Int)] : List Int)) hS XU22 XE3 rfl rfl rfl rfl (is_one _) rfl ?_; intro A131 w132 hS; refine WL.take rfl <| SL.lit1 (vs := [.slice A131 3 3]) hS XU25 XE22 rfl rfl rfl rfl (by simp [Value.oneCell']) rfl ?_; intro A134 w135 hS; refine WL.take rfl <| WL.build (cells := #[.int .i64 (3 : Int), .slice A134 1 1]) XB27 rfl rfl rfl <| WL.take rfl <| SL.call hS (ok_rSame (hS.rl (i := 17) rfl) (⟨_, _, (hS.rd (i := 0) rfl), ⟨⟨_, _, _, rfl, (Rd.is_m (hS.rd (i := 1) rfl))⟩, trivial⟩⟩ : Rl _ _ _ _ ([([(1 : Int), (1 : Int), (1 : Int)] : List Int)] : List (List Int))) hv) XF20 rfl XN20 rfl rfl ?_; rintro _ _ w137 ⟨r138, rfl, rfl, hv⟩ hGw137 hS; have hS := hS.n0; refine WL.pick rfl rfl rfl <| WL.move rfl rfl ?_; cases g139 : r138
         ·have hv := hv.2 g139; refine WL.pass rfl rfl rfl <| WL.pass rfl rfl rfl <| WL.pick rfl rfl rfl <| WL.move rfl rfl <| WL.pass rfl rfl rfl <| WL.pass rfl rfl rfl <| WL.pass rfl rfl rfl <| WL.pass rfl rfl rfl <| WL.pass rfl rfl rfl <| WL.pass rfl rfl rfl <| WL.pick rfl rfl rfl <| WL.move rfl rfl <| WL.pass rfl rfl rfl <| WL.pass rfl rfl rfl <| WL.pass rfl rfl rfl <| WL.pick rfl rfl rfl <| WL.move rfl rfl <| WL.pass rfl rfl rfl <| WL.pass rfl rfl rfl <| WL.pass rfl rfl rfl <| WL.pick rfl rfl rfl <| WL.move rfl rfl <| WL.pass rfl rfl rfl <| WL.pass rfl rfl rfl <| WL.pass rfl rfl rfl <| WL.pass rfl rfl rfl <| WL.pick rfl rfl rfl <| WL.move rfl rfl <| WL.pass rfl rfl rfl <| WL.pass rfl rfl rfl <| WL.pass rfl rfl rfl <| WL.pass rfl rfl rfl <| WL.pick rfl rfl rfl <| WL.assign rfl rfl <| WL.done <| W.ret <| ⟨_, rfl, Fin.nil ?_⟩
          exact ⟨_, hS.ext, (hS.pick [] rfl).rows, News.of (hS.pick [] rfl).rows rfl, ⟨false, rfl, rfl, hv⟩⟩
         have hv := hv.1 g139; refine WL.take rfl <| WL.move rfl rfl <| WL.take rfl <| WL.eqlD rfl rfl rfl <| WL.pick rfl rfl rfl <| WL.move rfl rfl ?_; by_cases g140 : r74 = (3 : Int)
         ·have hv := hv.1 g140; rw [decide_eq_true g140]; refine WL.take rfl <| WL.loadV (cs := [.int .i64 c77, .slice A80 x78.length k81]) XE27 XG27 rfl rfl (Own.vcells (hS.own (i := 10) rfl)) rfl <| WL.take rfl <| SL.lit1 (vs := is ([(3 : Int), (1 : Int)] : List Int)) hS XU22 XE3 rfl rfl rfl rfl (is_one _) rfl ?_; intro A141 w142 hS; refine WL.take rfl <| SL.lit1 (vs := is ([(4 : Int), (2 : Int)] : List Int)) hS XU22 XE3 rfl rfl rfl rfl (is_one _) rfl ?_; intro A144 w145 hS; refine WL.take rfl <| SL.lit1 (vs := [.slice A141 2 2, .slice A144 2 2]) hS XU25 XE22 rfl rfl rfl rfl (by simp [Value.oneCell']) rfl ?_; intro A147 w148 hS; refine WL.take rfl <| WL.build (cells := #[.int .i64 (2 : Int), .slice A147 2 2]) XB27 rfl rfl rfl <| WL.take rfl <| SL.call hS (ok_rSame (hS.rl (i := 14) rfl) (⟨_, _, (hS.rd (i := 0) rfl), ⟨⟨_, _, _, rfl, (Rd.is_m (hS.rd (i := 2) rfl))⟩, ⟨_, _, _, rfl, (Rd.is_m (hS.rd (i := 1) rfl))⟩, trivial⟩⟩ : Rl _ _ _ _ ([([(3 : Int), (1 : Int)] : List Int), ([(4 : Int), (2 : Int)] : List Int)] : List (List Int))) hv) XF20 rfl XN20 rfl rfl ?_; rintro _ _ w150 ⟨r151, rfl, rfl, hv⟩ hGw150 hS; have hS := hS.n0; refine WL.pick rfl rfl rfl <| WL.move rfl rfl ?_; cases g152 : r151
          ·have hv := hv.2 g152; refine WL.pass rfl rfl rfl <| WL.pass rfl rfl rfl <| WL.pass rfl rfl rfl <| WL.pick rfl rfl rfl <| WL.move rfl rfl <| WL.pass rfl rfl rfl <| WL.pass rfl rfl rfl <| WL.pass rfl rfl rfl <| WL.pick rfl rfl rfl <| WL.move rfl rfl <| WL.pass rfl rfl rfl <| WL.pass rfl rfl rfl <| WL.pass rfl rfl rfl <| WL.pass rfl rfl rfl <| WL.pick rfl rfl rfl <| WL.move rfl rfl <| WL.pass rfl rfl rfl <| WL.pass rfl rfl rfl <| WL.pass rfl rfl rfl <| WL.pass rfl rfl rfl <| WL.pick rfl rfl rfl <| WL.assign rfl rfl <| WL.done <| W.ret <| ⟨_, rfl, Fin.nil ?_⟩
           exact ⟨_, hS.ext, (hS.pick [] rfl).rows, News.of (hS.pick [] rfl).rows rfl, ⟨false, rfl, rfl, hv⟩⟩
          have hv := hv.1 g152; refine WL.take rfl <| WL.move rfl rfl <| WL.take rfl <| SL.lit1 (vs := is ([(4 : Int), (1 : Int)] : List Int)) hS XU22 XE3 rfl rfl rfl rfl (is_one _) rfl ?_; intro A153 w154 hS; refine WL.take rfl <| SL.call hS (ok_rSameInts (hS.rd (i := 12) rfl) (hS.rd (i := 0) rfl) hv) XF21 rfl XN21 rfl rfl ?_; rintro _ _ w156 ⟨r157, rfl, rfl, hv⟩ hGw156 hS; have hS := hS.n0; refine WL.pick rfl rfl rfl <| WL.move rfl rfl ?_; cases g158 : r157
          ·have hv := hv.2 g158; refine WL.pass rfl rfl rfl <| WL.pass rfl rfl rfl <| WL.pass rfl rfl rfl <| WL.pick rfl rfl rfl <| WL.move rfl rfl <| WL.pass rfl rfl rfl <| WL.pass rfl rfl rfl <| WL.pass rfl rfl rfl <| WL.pass rfl rfl rfl <| WL.pick rfl rfl rfl <| WL.move rfl rfl <| WL.pass rfl rfl rfl <| WL.pass rfl rfl rfl <| WL.pass rfl rfl rfl <| WL.pass rfl rfl rfl <| WL.pick rfl rfl rfl <| WL.assign rfl rfl <| WL.done <| W.ret <| ⟨_, rfl, Fin.nil ?_⟩
           exact ⟨_, hS.ext, (hS.pick [] rfl).rows, News.of (hS.pick [] rfl).rows rfl, ⟨false, rfl, rfl, hv⟩⟩
          have hv := hv.1 g158; refine WL.take rfl <| WL.move rfl rfl <| WL.take rfl <| SL.lit1 (vs := is ([(1 : Int), (1 : Int)] : List Int)) hS XU22 XE3 rfl rfl rfl rfl (is_one _) rfl ?_; intro A159 w160 hS; refine WL.take rfl <| SL.call hS (ok_rSameInts (hS.rd (i := 11) rfl) (hS.rd (i := 0) rfl) hv) XF21 rfl XN21 rfl rfl ?_; rintro _ _ w162 ⟨r163, rfl, rfl, hv⟩ hGw162 hS; have hS := hS.n0; refine WL.pick rfl rfl rfl <| WL.move rfl rfl ?_; cases g164 : r163
          ·have hv := hv.2 g164; refine WL.pass rfl rfl rfl <| WL.pass rfl rfl rfl <| WL.pass rfl rfl rfl <| WL.pass rfl rfl rfl <| WL.pick rfl rfl rfl <| WL.move rfl rfl <| WL.pass rfl rfl rfl <| WL.pass rfl rfl rfl <| WL.pass rfl rfl rfl <| WL.pass rfl rfl rfl <| WL.pick rfl rfl rfl <| WL.assign rfl rfl <| WL.done <| W.ret <| ⟨_, rfl, Fin.nil ?_⟩
           exact ⟨_, hS.ext, (hS.pick [] rfl).rows, News.of (hS.pick [] rfl).rows rfl, ⟨false, rfl, rfl, hv⟩⟩
          have hv := hv.1 g164; refine WL.take rfl <| WL.loadV (cs := [.int .i64 (5 : Int), .int .i64 (1 : Int), .slice none 0 0]) XE24 XG24 rfl rfl (Own.vcells (hS.own (i := 31) rfl)) rfl <| WL.take rfl <| WL.loadV (cs := [.int .i64 (2 : Int), .slice A67 2 2]) XE27 XG27 rfl rfl (Own.vcells (hS.own (i := 17) rfl)) rfl <| WL.take rfl <| SL.call hS (ok_mCheck (Rd.nilL w162) (⟨_, _, (hS.rd (i := 18) rfl), ⟨⟨_, _, _, rfl, (Rd.is_m (hS.rd (i := 20) rfl))⟩, ⟨_, _, _, rfl, (Rd.is_m (hS.rd (i := 19) rfl))⟩, trivial⟩⟩ : Rl _ _ _ _ ([([(1 : Int), (2 : Int)] : List Int), ([(3 : Int), (4 : Int)] : List Int)] : List (List Int))) hv) XF22 rfl XN22 rfl rfl ?_; rintro _ _ w165 ⟨r166, rfl, rfl, hv⟩ hGw165 hS; have hS := hS.n0; refine WL.take rfl <| WL.eqlD rfl rfl rfl <| WL.pick rfl rfl rfl <| WL.move rfl rfl ?_; by_cases g167 : r166 = (0 : Int)
          ·have hv := hv.1 g167; rw [decide_eq_true g167]; refine WL.take rfl <| WL.loadV (cs := [.int .i64 (2 : Int), .int .i64 (1 : Int), .slice none 0 0]) XE24 XG24 rfl rfl (Own.vcells (hS.own (i := 32) rfl)) rfl <| WL.take rfl <| WL.loadV (cs := [.int .i64 (2 : Int), .slice A67 2 2]) XE27 XG27 rfl rfl (Own.vcells (hS.own (i := 17) rfl)) rfl <| WL.take rfl <| SL.call hS (ok_mCheck (Rd.nilL w165) (⟨_, _, (hS.rd (i := 18) rfl), ⟨⟨_, _, _, rfl, (Rd.is_m (hS.rd (i := 20) rfl))⟩, ⟨_, _, _, rfl, (Rd.is_m (hS.rd (i := 19) rfl))⟩, trivial⟩⟩ : Rl _ _ _ _ ([([(1 : Int), (2 : Int)] : List Int), ([(3 : Int), (4 : Int)] : List Int)] : List (List Int))) hv) XF22 rfl XN22 rfl rfl ?_; rintro _ _ w168 ⟨r169, rfl, rfl, hv⟩ hGw168 hS; have hS := hS.n0; refine WL.take rfl <| WL.eqlD rfl rfl rfl <| WL.pick rfl rfl rfl <| WL.assign rfl rfl <| WL.done <| W.ret <| ⟨_, rfl, Fin.nil ?_⟩
           exact ⟨_, hS.ext, (hS.pick [] rfl).rows, News.of (hS.pick [] rfl).rows rfl, ⟨(decide (r169 = (2 : Int))), rfl, rfl, hv⟩⟩
          have hv := hv.2 g167; rw [decide_eq_false g167]; refine WL.pass rfl rfl rfl <| WL.pass rfl rfl rfl <| WL.pass rfl rfl rfl <| WL.pass rfl rfl rfl <| WL.pick rfl rfl rfl <| WL.assign rfl rfl <| WL.done <| W.ret <| ⟨_, rfl, Fin.nil ?_⟩
          exact ⟨_, hS.ext, (hS.pick [] rfl).rows, News.of (hS.pick [] rfl).rows rfl, ⟨false, rfl, rfl, hv⟩⟩
         have hv := hv.2 g140; rw [decide_eq_false g140]; refine WL.pass rfl rfl rfl <| WL.pass rfl rfl rfl <| WL.pass rfl rfl rfl <| WL.pass rfl rfl rfl <| WL.pass rfl rfl rfl <| WL.pass rfl rfl rfl <| WL.pick rfl rfl rfl <| WL.move rfl rfl <| WL.pass rfl rfl rfl <| WL.pass rfl rfl rfl <| WL.pass rfl rfl rfl <| WL.pick rfl rfl rfl <| WL.move rfl rfl <| WL.pass rfl rfl rfl <| WL.pass rfl rfl rfl <| WL.pass rfl rfl rfl <| WL.pick rfl rfl rfl <| WL.move rfl rfl <| WL.pass rfl rfl rfl <| WL.pass rfl rfl rfl <| WL.pass rfl rfl rfl <| WL.pass rfl rfl rfl <| WL.pick rfl rfl rfl <| WL.move rfl rfl <| WL.pass rfl rfl rfl <| WL.pass rfl rfl rfl <| WL.pass rfl rfl rfl <| WL.pass rfl rfl rfl <| WL.pick rfl rfl rfl <| WL.assign rfl rfl <| WL.done <| W.ret <| ⟨_, rfl, Fin.nil ?_⟩
         exact ⟨_, hS.ext, (hS.pick [] rfl).rows, News.of (hS.pick [] rfl).rows rfl, ⟨false, rfl, rfl, hv⟩⟩
        have hv := hv.2 g130; rw [decide_eq_false g130]; refine WL.pass rfl rfl rfl <| WL.pass rfl rfl rfl <| WL.pass rfl rfl rfl <| WL.pass rfl rfl rfl <| WL.pass rfl rfl rfl <| WL.pick rfl rfl rfl <| WL.move rfl rfl <| WL.pass rfl rfl rfl <| WL.pass rfl rfl rfl <| WL.pick rfl rfl rfl <| WL.move rfl rfl <| WL.pass rfl rfl rfl <| WL.pass rfl rfl rfl <| WL.pass rfl rfl rfl <| WL.pass rfl rfl rfl <| WL.pass rfl rfl rfl <| WL.pass rfl rfl rfl <| WL.pick rfl rfl rfl <| WL.move rfl rfl <| WL.pass rfl rfl rfl <| WL.pass rfl rfl rfl <| WL.pass rfl rfl rfl <| WL.pick rfl rfl rfl <| WL.move rfl rfl <| WL.pass rfl rfl rfl <| WL.pass rfl rfl rfl <| WL.pass rfl rfl rfl <| WL.pick rfl rfl rfl <| WL.move rfl rfl <| WL.pass rfl rfl rfl <| WL.pass rfl rfl rfl <| WL.pass rfl rfl rfl <| WL.pass rfl rfl rfl <| WL.pick rfl rfl rfl <| WL.move rfl rfl <| WL.pass rfl rfl rfl <| WL.pass rfl rfl rfl <| WL.pass rfl rfl rfl <| WL.pass rfl rfl rfl <| WL.pick rfl rfl rfl <| WL.assign rfl rfl <| WL.done <| W.ret <| ⟨_, rfl, Fin.nil ?_⟩
        exact ⟨_, hS.ext, (hS.pick [] rfl).rows, News.of (hS.pick [] rfl).rows rfl, ⟨false, rfl, rfl, hv⟩⟩
       have hv := hv.2 g111; rw [decide_eq_false g111]; refine WL.pass rfl rfl rfl <| WL.pass rfl rfl rfl <| WL.pass rfl rfl rfl <| WL.pass rfl rfl rfl <| WL.pass rfl rfl rfl <| WL.pass rfl rfl rfl <| WL.pick rfl rfl rfl <| WL.move rfl rfl <| WL.pass rfl rfl rfl <| WL.pass rfl rfl rfl <| WL.pass rfl rfl rfl <| WL.pick rfl rfl rfl <| WL.move rfl rfl <| WL.pass rfl rfl rfl <| WL.pass rfl rfl rfl <| WL.pick rfl rfl rfl <| WL.move rfl rfl <| WL.pass rfl rfl rfl <| WL.pass rfl rfl rfl <| WL.pass rfl rfl rfl <| WL.pass rfl rfl rfl <| WL.pass rfl rfl rfl <| WL.pick rfl rfl rfl <| WL.move rfl rfl <| WL.pass rfl rfl rfl <| WL.pass rfl rfl rfl <| WL.pick rfl rfl rfl <| WL.move rfl rfl <| WL.pass rfl rfl rfl <| WL.pass rfl rfl rfl <| WL.pass rfl rfl rfl <| WL.pass rfl rfl rfl <| WL.pass rfl rfl rfl <| WL.pass rfl rfl rfl <| WL.pick rfl rfl rfl <| WL.move rfl rfl <| WL.pass rfl rfl rfl <| WL.pass rfl rfl rfl <| WL.pass rfl rfl rfl <| WL.pick rfl rfl rfl <| WL.move rfl rfl <| WL.pass rfl rfl rfl <| WL.pass rfl rfl rfl <| WL.pass rfl rfl rfl <| WL.pick rfl rfl rfl <| WL.move rfl rfl <| WL.pass rfl rfl rfl <| WL.pass rfl rfl rfl <| WL.pass rfl rfl rfl <| WL.pass rfl rfl rfl <| WL.pick rfl rfl rfl <| WL.move rfl rfl <| WL.pass rfl rfl rfl <| WL.pass rfl rfl rfl <| WL.pass rfl rfl rfl <| WL.pass rfl rfl rfl <| WL.pick rfl rfl rfl <| WL.assign rfl rfl <| WL.done <| W.ret <| ⟨_, rfl, Fin.nil ?_⟩
       exact ⟨_, hS.ext, (hS.pick [] rfl).rows, News.of (hS.pick [] rfl).rows rfl, ⟨false, rfl, rfl, hv⟩⟩
      have hv := hv.2 g110; rw [decide_eq_false g110]; refine WL.pass rfl rfl rfl <| WL.pass rfl rfl rfl <| WL.pick rfl rfl rfl <| WL.assign rfl rfl <| WL.done <| W.seq <| W.region <| WL.move rfl rfl <| WL.move rfl rfl <| WL.pass rfl rfl rfl <| WL.pass rfl rfl rfl <| WL.pass rfl rfl rfl <| WL.pass rfl rfl rfl <| WL.pass rfl rfl rfl <| WL.pass rfl rfl rfl <| WL.pick rfl rfl rfl <| WL.move rfl rfl <| WL.pass rfl rfl rfl <| WL.pass rfl rfl rfl <| WL.pass rfl rfl rfl <| WL.pick rfl rfl rfl <| WL.move rfl rfl <| WL.pass rfl rfl rfl <| WL.pass rfl rfl rfl <| WL.pick rfl rfl rfl <| WL.move rfl rfl <| WL.pass rfl rfl rfl <| WL.pass rfl rfl rfl <| WL.pass rfl rfl rfl <| WL.pass rfl rfl rfl <| WL.pass rfl rfl rfl <| WL.pick rfl rfl rfl <| WL.move rfl rfl <| WL.pass rfl rfl rfl <| WL.pass rfl rfl rfl <| WL.pick rfl rfl rfl <| WL.move rfl rfl <| WL.pass rfl rfl rfl <| WL.pass rfl rfl rfl <| WL.pass rfl rfl rfl <| WL.pass rfl rfl rfl <| WL.pass rfl rfl rfl <| WL.pass rfl rfl rfl <| WL.pick rfl rfl rfl <| WL.move rfl rfl <| WL.pass rfl rfl rfl <| WL.pass rfl rfl rfl <| WL.pass rfl rfl rfl <| WL.pick rfl rfl rfl <| WL.move rfl rfl <| WL.pass rfl rfl rfl <| WL.pass rfl rfl rfl <| WL.pass rfl rfl rfl <| WL.pick rfl rfl rfl <| WL.move rfl rfl <| WL.pass rfl rfl rfl <| WL.pass rfl rfl rfl <| WL.pass rfl rfl rfl <| WL.pass rfl rfl rfl <| WL.pick rfl rfl rfl <| WL.move rfl rfl <| WL.pass rfl rfl rfl <| WL.pass rfl rfl rfl <| WL.pass rfl rfl rfl <| WL.pass rfl rfl rfl <| WL.pick rfl rfl rfl <| WL.assign rfl rfl <| WL.done <| W.ret <| ⟨_, rfl, Fin.nil ?_⟩
      exact ⟨_, hS.ext, (hS.pick [] rfl).rows, News.of (hS.pick [] rfl).rows rfl, ⟨false, rfl, rfl, hv⟩⟩
     have hv := hv.2 g109; rw [decide_eq_false g109]; refine WL.pass rfl rfl rfl <| WL.pass rfl rfl rfl <| WL.pick rfl rfl rfl <| WL.move rfl rfl <| WL.pass rfl rfl rfl <| WL.pass rfl rfl rfl <| WL.pick rfl rfl rfl <| WL.assign rfl rfl <| WL.done <| W.seq <| W.region <| WL.move rfl rfl <| WL.move rfl rfl <| WL.pass rfl rfl rfl <| WL.pass rfl rfl rfl <| WL.pass rfl rfl rfl <| WL.pass rfl rfl rfl <| WL.pass rfl rfl rfl <| WL.pass rfl rfl rfl <| WL.pick rfl rfl rfl <| WL.move rfl rfl <| WL.pass rfl rfl rfl <| WL.pass rfl rfl rfl <| WL.pass rfl rfl rfl <| WL.pick rfl rfl rfl <| WL.move rfl rfl <| WL.pass rfl rfl rfl <| WL.pass rfl rfl rfl <| WL.pick rfl rfl rfl <| WL.move rfl rfl <| WL.pass rfl rfl rfl <| WL.pass rfl rfl rfl <| WL.pass rfl rfl rfl <| WL.pass rfl rfl rfl <| WL.pass rfl rfl rfl <| WL.pick rfl rfl rfl <| WL.move rfl rfl <| WL.pass rfl rfl rfl <| WL.pass rfl rfl rfl <| WL.pick rfl rfl rfl <| WL.move rfl rfl <| WL.pass rfl rfl rfl <| WL.pass rfl rfl rfl <| WL.pass rfl rfl rfl <| WL.pass rfl rfl rfl <| WL.pass rfl rfl rfl <| WL.pass rfl rfl rfl <| WL.pick rfl rfl rfl <| WL.move rfl rfl <| WL.pass rfl rfl rfl <| WL.pass rfl rfl rfl <| WL.pass rfl rfl rfl <| WL.pick rfl rfl rfl <| WL.move rfl rfl <| WL.pass rfl rfl rfl <| WL.pass rfl rfl rfl <| WL.pass rfl rfl rfl <| WL.pick rfl rfl rfl <| WL.move rfl rfl <| WL.pass rfl rfl rfl <| WL.pass rfl rfl rfl <| WL.pass rfl rfl rfl <| WL.pass rfl rfl rfl <| WL.pick rfl rfl rfl <| WL.move rfl rfl <| WL.pass rfl rfl rfl <| WL.pass rfl rfl rfl <| WL.pass rfl rfl rfl <| WL.pass rfl rfl rfl <| WL.pick rfl rfl rfl <| WL.assign rfl rfl <| WL.done <| W.ret <| ⟨_, rfl, Fin.nil ?_⟩
     exact ⟨_, hS.ext, (hS.pick [] rfl).rows, News.of (hS.pick [] rfl).rows rfl, ⟨false, rfl, rfl, hv⟩⟩
    have hv := hv.2 g108; rw [decide_eq_false g108]; refine WL.pass rfl rfl rfl <| WL.pass rfl rfl rfl <| WL.pick rfl rfl rfl <| WL.move rfl rfl <| WL.pass rfl rfl rfl <| WL.pass rfl rfl rfl <| WL.pick rfl rfl rfl <| WL.move rfl rfl <| WL.pass rfl rfl rfl <| WL.pass rfl rfl rfl <| WL.pick rfl rfl rfl <| WL.assign rfl rfl <| WL.done <| W.seq <| W.region <| WL.move rfl rfl <| WL.move rfl rfl <| WL.pass rfl rfl rfl <| WL.pass rfl rfl rfl <| WL.pass rfl rfl rfl <| WL.pass rfl rfl rfl <| WL.pass rfl rfl rfl <| WL.pass rfl rfl rfl <| WL.pick rfl rfl rfl <| WL.move rfl rfl <| WL.pass rfl rfl rfl <| WL.pass rfl rfl rfl <| WL.pass rfl rfl rfl <| WL.pick rfl rfl rfl <| WL.move rfl rfl <| WL.pass rfl rfl rfl <| WL.pass rfl rfl rfl <| WL.pick rfl rfl rfl <| WL.move rfl rfl <| WL.pass rfl rfl rfl <| WL.pass rfl rfl rfl <| WL.pass rfl rfl rfl <| WL.pass rfl rfl rfl <| WL.pass rfl rfl rfl <| WL.pick rfl rfl rfl <| WL.move rfl rfl <| WL.pass rfl rfl rfl <| WL.pass rfl rfl rfl <| WL.pick rfl rfl rfl <| WL.move rfl rfl <| WL.pass rfl rfl rfl <| WL.pass rfl rfl rfl <| WL.pass rfl rfl rfl <| WL.pass rfl rfl rfl <| WL.pass rfl rfl rfl <| WL.pass rfl rfl rfl <| WL.pick rfl rfl rfl <| WL.move rfl rfl <| WL.pass rfl rfl rfl <| WL.pass rfl rfl rfl <| WL.pass rfl rfl rfl <| WL.pick rfl rfl rfl <| WL.move rfl rfl <| WL.pass rfl rfl rfl <| WL.pass rfl rfl rfl <| WL.pass rfl rfl rfl <| WL.pick rfl rfl rfl <| WL.move rfl rfl <| WL.pass rfl rfl rfl <| WL.pass rfl rfl rfl <| WL.pass rfl rfl rfl <| WL.pass rfl rfl rfl <| WL.pick rfl rfl rfl <| WL.move rfl rfl <| WL.pass rfl rfl rfl <| WL.pass rfl rfl rfl <| WL.pass rfl rfl rfl <| WL.pass rfl rfl rfl <| WL.pick rfl rfl rfl <| WL.assign rfl rfl <| WL.done <| W.ret <| ⟨_, rfl, Fin.nil ?_⟩
    exact ⟨_, hS.ext, (hS.pick [] rfl).rows, News.of (hS.pick [] rfl).rows rfl, ⟨false, rfl, rfl, hv⟩⟩
   have hv := hv.2 g107; rw [decide_eq_false g107]; refine WL.pass rfl rfl rfl <| WL.pass rfl rfl rfl <| WL.pick rfl rfl rfl <| WL.move rfl rfl <| WL.pass rfl rfl rfl <| WL.pass rfl rfl rfl <| WL.pick rfl rfl rfl <| WL.move rfl rfl <| WL.pass rfl rfl rfl <| WL.pass rfl rfl rfl <| WL.pick rfl rfl rfl <| WL.move rfl rfl <| WL.pass rfl rfl rfl <| WL.pass rfl rfl rfl <| WL.pick rfl rfl rfl <| WL.assign rfl rfl <| WL.done <| W.seq <| W.region <| WL.move rfl rfl <| WL.move rfl rfl <| WL.pass rfl rfl rfl <| WL.pass rfl rfl rfl <| WL.pass rfl rfl rfl <| WL.pass rfl rfl rfl <| WL.pass rfl rfl rfl <| WL.pass rfl rfl rfl <| WL.pick rfl rfl rfl <| WL.move rfl rfl <| WL.pass rfl rfl rfl <| WL.pass rfl rfl rfl <| WL.pass rfl rfl rfl <| WL.pick rfl rfl rfl <| WL.move rfl rfl <| WL.pass rfl rfl rfl <| WL.pass rfl rfl rfl <| WL.pick rfl rfl rfl <| WL.move rfl rfl <| WL.pass rfl rfl rfl <| WL.pass rfl rfl rfl <| WL.pass rfl rfl rfl <| WL.pass rfl rfl rfl <| WL.pass rfl rfl rfl <| WL.pick rfl rfl rfl <| WL.move rfl rfl <| WL.pass rfl rfl rfl <| WL.pass rfl rfl rfl <| WL.pick rfl rfl rfl <| WL.move rfl rfl <| WL.pass rfl rfl rfl <| WL.pass rfl rfl rfl <| WL.pass rfl rfl rfl <| WL.pass rfl rfl rfl <| WL.pass rfl rfl rfl <| WL.pass rfl rfl rfl <| WL.pick rfl rfl rfl <| WL.move rfl rfl <| WL.pass rfl rfl rfl <| WL.pass rfl rfl rfl <| WL.pass rfl rfl rfl <| WL.pick rfl rfl rfl <| WL.move rfl rfl <| WL.pass rfl rfl rfl <| WL.pass rfl rfl rfl <| WL.pass rfl rfl rfl <| WL.pick rfl rfl rfl <| WL.move rfl rfl <| WL.pass rfl rfl rfl <| WL.pass rfl rfl rfl <| WL.pass rfl rfl rfl <| WL.pass rfl rfl rfl <| WL.pick rfl rfl rfl <| WL.move rfl rfl <| WL.pass rfl rfl rfl <| WL.pass rfl rfl rfl <| WL.pass rfl rfl rfl <| WL.pass rfl rfl rfl <| WL.pick rfl rfl rfl <| WL.assign rfl rfl <| WL.done <| W.ret <| ⟨_, rfl, Fin.nil ?_⟩
   exact ⟨_, hS.ext, (hS.pick [] rfl).rows, News.of (hS.pick [] rfl).rows rfl, ⟨false, rfl, rfl, hv⟩⟩
  have hv := hv.2 g106; rw [decide_eq_false g106]; refine WL.pass rfl rfl rfl <| WL.pass rfl rfl rfl <| WL.pick rfl rfl rfl <| WL.move rfl rfl <| WL.pass rfl rfl rfl <| WL.pass rfl rfl rfl <| WL.pick rfl rfl rfl <| WL.move rfl rfl <| WL.pass rfl rfl rfl <| WL.pass rfl rfl rfl <| WL.pick rfl rfl rfl <| WL.move rfl rfl <| WL.pass rfl rfl rfl <| WL.pass rfl rfl rfl <| WL.pick rfl rfl rfl <| WL.move rfl rfl <| WL.pass rfl rfl rfl <| WL.pass rfl rfl rfl <| WL.pick rfl rfl rfl <| WL.assign rfl rfl <| WL.done <| W.seq <| W.region <| WL.move rfl rfl <| WL.move rfl rfl <| WL.pass rfl rfl rfl <| WL.pass rfl rfl rfl <| WL.pass rfl rfl rfl <| WL.pass rfl rfl rfl <| WL.pass rfl rfl rfl <| WL.pass rfl rfl rfl <| WL.pick rfl rfl rfl <| WL.move rfl rfl <| WL.pass rfl rfl rfl <| WL.pass rfl rfl rfl <| WL.pass rfl rfl rfl <| WL.pick rfl rfl rfl <| WL.move rfl rfl <| WL.pass rfl rfl rfl <| WL.pass rfl rfl rfl <| WL.pick rfl rfl rfl <| WL.move rfl rfl <| WL.pass rfl rfl rfl <| WL.pass rfl rfl rfl <| WL.pass rfl rfl rfl <| WL.pass rfl rfl rfl <| WL.pass rfl rfl rfl <| WL.pick rfl rfl rfl <| WL.move rfl rfl <| WL.pass rfl rfl rfl <| WL.pass rfl rfl rfl <| WL.pick rfl rfl rfl <| WL.move rfl rfl <| WL.pass rfl rfl rfl <| WL.pass rfl rfl rfl <| WL.pass rfl rfl rfl <| WL.pass rfl rfl rfl <| WL.pass rfl rfl rfl <| WL.pass rfl rfl rfl <| WL.pick rfl rfl rfl <| WL.move rfl rfl <| WL.pass rfl rfl rfl <| WL.pass rfl rfl rfl <| WL.pass rfl rfl rfl <| WL.pick rfl rfl rfl <| WL.move rfl rfl <| WL.pass rfl rfl rfl <| WL.pass rfl rfl rfl <| WL.pass rfl rfl rfl <| WL.pick rfl rfl rfl <| WL.move rfl rfl <| WL.pass rfl rfl rfl <| WL.pass rfl rfl rfl <| WL.pass rfl rfl rfl <| WL.pass rfl rfl rfl <| WL.pick rfl rfl rfl <| WL.move rfl rfl <| WL.pass rfl rfl rfl <| WL.pass rfl rfl rfl <| WL.pass rfl rfl rfl <| WL.pass rfl rfl rfl <| WL.pick rfl rfl rfl <| WL.assign rfl rfl <| WL.done <| W.ret <| ⟨_, rfl, Fin.nil ?_⟩
  exact ⟨_, hS.ext, (hS.pick [] rfl).rows, News.of (hS.pick [] rfl).rows rfl, ⟨false, rfl, rfl, hv⟩⟩
 have hv := hv.2 g105; rw [decide_eq_false g105]; refine WL.pass rfl rfl rfl <| WL.pass rfl rfl rfl <| WL.pick rfl rfl rfl <| WL.move rfl rfl <| WL.pass rfl rfl rfl <| WL.pass rfl rfl rfl <| WL.pick rfl rfl rfl <| WL.move rfl rfl <| WL.pass rfl rfl rfl <| WL.pass rfl rfl rfl <| WL.pick rfl rfl rfl <| WL.move rfl rfl <| WL.pass rfl rfl rfl <| WL.pass rfl rfl rfl <| WL.pick rfl rfl rfl <| WL.move rfl rfl <| WL.pass rfl rfl rfl <| WL.pass rfl rfl rfl <| WL.pick rfl rfl rfl <| WL.move rfl rfl <| WL.pass rfl rfl rfl <| WL.pass rfl rfl rfl <| WL.pick rfl rfl rfl <| WL.assign rfl rfl <| WL.done <| W.seq <| W.region <| WL.move rfl rfl <| WL.move rfl rfl <| WL.pass rfl rfl rfl <| WL.pass rfl rfl rfl <| WL.pass rfl rfl rfl <| WL.pass rfl rfl rfl <| WL.pass rfl rfl rfl <| WL.pass rfl rfl rfl <| WL.pick rfl rfl rfl <| WL.move rfl rfl <| WL.pass rfl rfl rfl <| WL.pass rfl rfl rfl <| WL.pass rfl rfl rfl <| WL.pick rfl rfl rfl <| WL.move rfl rfl <| WL.pass rfl rfl rfl <| WL.pass rfl rfl rfl <| WL.pick rfl rfl rfl <| WL.move rfl rfl <| WL.pass rfl rfl rfl <| WL.pass rfl rfl rfl <| WL.pass rfl rfl rfl <| WL.pass rfl rfl rfl <| WL.pass rfl rfl rfl <| WL.pick rfl rfl rfl <| WL.move rfl rfl <| WL.pass rfl rfl rfl <| WL.pass rfl rfl rfl <| WL.pick rfl rfl rfl <| WL.move rfl rfl <| WL.pass rfl rfl rfl <| WL.pass rfl rfl rfl <| WL.pass rfl rfl rfl <| WL.pass rfl rfl rfl <| WL.pass rfl rfl rfl <| WL.pass rfl rfl rfl <| WL.pick rfl rfl rfl <| WL.move rfl rfl <| WL.pass rfl rfl rfl <| WL.pass rfl rfl rfl <| WL.pass rfl rfl rfl <| WL.pick rfl rfl rfl <| WL.move rfl rfl <| WL.pass rfl rfl rfl <| WL.pass rfl rfl rfl <| WL.pass rfl rfl rfl <| WL.pick rfl rfl rfl <| WL.move rfl rfl <| WL.pass rfl rfl rfl <| WL.pass rfl rfl rfl <| WL.pass rfl rfl rfl <| WL.pass rfl rfl rfl <| WL.pick rfl rfl rfl <| WL.move rfl rfl <| WL.pass rfl rfl rfl <| WL.pass rfl rfl rfl <| WL.pass rfl rfl rfl <| WL.pass rfl rfl rfl <| WL.pick rfl rfl rfl <| WL.assign rfl rfl <| WL.done <| W.ret <| ⟨_, rfl, Fin.nil ?_⟩
 exact ⟨_, hS.ext, (hS.pick [] rfl).rows, News.of (hS.pick [] rfl).rows rfl, ⟨false, rfl, rfl, hv⟩⟩
end Go.Proofs.Ytiboieijhehjnaa
set_option linter.unusedSimpArgs false
set_option linter.unusedVariables false
set_option maxRecDepth 4000
set_option maxHeartbeats 4000000
namespace Go.Proofs.Ytiboieijhehjnaa
open Go.RowKit
def V_LReduced (Pf : Int) (Mf : Int) (mf : List Int) (Cm : Int) (m : List (List Int)) (Q : Bool → Prop) : Prop :=
  V_awake  (fun r16 => (((!r16) = true) → (V_awake  (fun r19 => Q r19))) ∧ ((!r16) = false → (V_rFew Cm m (300 : Int) (fun r21 => (((!r21) = true) → (V_awake  (fun r24 => Q r24))) ∧ ((!r21) = false → (V_Canonical Pf Mf mf Cm m (fun q => match q with | (c26, x27, x28, r29) => ((r29 ≠ (0 : Int)) → (((((x27.length : Nat) : Int) = (0 : Int)) → (Q (decide (((x28.length : Nat) : Int) = (0 : Int))))) ∧ (¬ (((x27.length : Nat) : Int) = (0 : Int)) → Q false))) ∧ (¬ (r29 ≠ (0 : Int)) → (V_rmCheck Pf Mf mf Cm m (fun r43 => ((r43 ≠ (0 : Int)) → Q false) ∧ (¬ (r43 ≠ (0 : Int)) → (((c26 ≠ Cm) → Q false) ∧ (¬ (c26 ≠ Cm) → (((((x27.length : Nat) : Int) ≠ ((x28.length : Nat) : Int)) → Q false) ∧ (¬ (((x27.length : Nat) : Int) ≠ ((x28.length : Nat) : Int)) → (((((m.length : Nat) : Int) < ((x28.length : Nat) : Int)) → Q false) ∧ (¬ (((m.length : Nat) : Int) < ((x28.length : Nat) : Int)) → (V_mCheck Pf Mf mf c26 x27 (fun r49 => ((r49 ≠ (0 : Int)) → Q false) ∧ (¬ (r49 ≠ (0 : Int)) → (V_rmCheck Pf Mf mf c26 x27 (fun r52 => ((r52 ≠ (0 : Int)) → Q false) ∧ (¬ (r52 ≠ (0 : Int)) → (∃ (I57 : Int → Prop) (μ58 : Int → Nat), I57 (0 : Int) ∧ ∀ (z56 : Int), (I57 z56 → (((z56 < ((x28.length : Nat) : Int)) → (∃ J69 : Bool → Int → Bool → Int → Bool → Prop, ((0 ≤ z56 ∧ z56 < (x28.length : Nat)) ∧ ((((gi x28 z56) < (0 : Int)) → Q false) ∧ (¬ ((gi x28 z56) < (0 : Int)) → (((c26 ≤ (gi x28 z56)) → Q false) ∧ (¬ (c26 ≤ (gi x28 z56)) → ((((0 : Int) < z56) → ((I64 (z56 - (1 : Int))) ∧ ((0 ≤ (z56 - (1 : Int)) ∧ (z56 - (1 : Int)) < (x28.length : Nat)) ∧ ((((gi x28 z56) ≤ (gi x28 (z56 - (1 : Int)))) → Q false) ∧ (¬ ((gi x28 z56) ≤ (gi x28 (z56 - (1 : Int)))) → (∃ (I80 : Int → Prop) (μ81 : Int → Nat), I80 (0 : Int) ∧ ∀ (z79 : Int), (I80 z79 → (((z79 < ((x27.length : Nat) : Int)) → (∃ J85 : Bool → Prop, ((0 ≤ z79 ∧ z79 < (x27.length : Nat)) ∧ (((z79 = z56) → ((0 ≤ (gi x28 z56) ∧ (gi x28 z56) < ((gl x27 z79).length : Nat)) ∧ ((((gi (gl x27 z79) (gi x28 z56)) ≠ (1 : Int)) → Q false) ∧ (¬ ((gi (gl x27 z79) (gi x28 z56)) ≠ (1 : Int)) → (((z79 ≠ z56) → ((0 ≤ (gi x28 z56) ∧ (gi x28 z56) < ((gl x27 z79).length : Nat)) ∧ ((((gi (gl x27 z79) (gi x28 z56)) ≠ (0 : Int)) → Q false) ∧ (¬ ((gi (gl x27 z79) (gi x28 z56)) ≠ (0 : Int)) → (J85 (decide ((gi (gl x27 z79) (gi x28 z56)) ≠ (0 : Int)))))))) ∧ (¬ (z79 ≠ z56) → J85 false)))))) ∧ (¬ (z79 = z56) → (((z79 ≠ z56) → ((0 ≤ (gi x28 z56) ∧ (gi x28 z56) < ((gl x27 z79).length : Nat)) ∧ ((((gi (gl x27 z79) (gi x28 z56)) ≠ (0 : Int)) → Q false) ∧ (¬ ((gi (gl x27 z79) (gi x28 z56)) ≠ (0 : Int)) → (J85 (decide ((gi (gl x27 z79) (gi x28 z56)) ≠ (0 : Int)))))))) ∧ (¬ (z79 ≠ z56) → J85 false))))) ∧ ∀ (b84 : Bool), (J85 b84 → ((I64 (z79 + (1 : Int))) ∧ (I80 (z79 + (1 : Int)) ∧ μ81 (z79 + (1 : Int)) < μ81 z79))))) ∧ (¬ (z79 < ((x27.length : Nat) : Int)) → ((0 ≤ z56 ∧ z56 < (x27.length : Nat)) ∧ ((0 ≤ (gi x28 z56) ∧ (gi x28 z56) ≤ ((gl x27 z56).length : Nat)) ∧ (∃ (I104 : Int → Prop) (μ105 : Int → Nat), I104 (0 : Int) ∧ ∀ (z103 : Int), (I104 z103 → (((z103 < ((((gl x27 z56).take (gi x28 z56).toNat).length : Nat) : Int)) → ((0 ≤ z103 ∧ z103 < (((gl x27 z56).take (gi x28 z56).toNat).length : Nat)) ∧ ((((gi ((gl x27 z56).take (gi x28 z56).toNat) z103) ≠ (0 : Int)) → Q false) ∧ (¬ ((gi ((gl x27 z56).take (gi x28 z56).toNat) z103) ≠ (0 : Int)) → ((I64 (z103 + (1 : Int))) ∧ (I104 (z103 + (1 : Int)) ∧ μ105 (z103 + (1 : Int)) < μ105 z103)))))) ∧ (¬ (z103 < ((((gl x27 z56).take (gi x28 z56).toNat).length : Nat) : Int)) → (J69 (decide ((gi x28 z56) ≤ (gi x28 (z56 - (1 : Int))))) z79 (decide (z79 < ((x27.length : Nat) : Int))) z103 (decide (z103 < ((((gl x27 z56).take (gi x28 z56).toNat).length : Nat) : Int))))))))))))))))))) ∧ (¬ ((0 : Int) < z56) → (∃ (I116 : Int → Prop) (μ117 : Int → Nat), I116 (0 : Int) ∧ ∀ (z115 : Int), (I116 z115 → (((z115 < ((x27.length : Nat) : Int)) → (∃ J121 : Bool → Prop, ((0 ≤ z115 ∧ z115 < (x27.length : Nat)) ∧ (((z115 = z56) → ((0 ≤ (gi x28 z56) ∧ (gi x28 z56) < ((gl x27 z115).length : Nat)) ∧ ((((gi (gl x27 z115) (gi x28 z56)) ≠ (1 : Int)) → Q false) ∧ (¬ ((gi (gl x27 z115) (gi x28 z56)) ≠ (1 : Int)) → (((z115 ≠ z56) → ((0 ≤ (gi x28 z56) ∧ (gi x28 z56) < ((gl x27 z115).length : Nat)) ∧ ((((gi (gl x27 z115) (gi x28 z56)) ≠ (0 : Int)) → Q false) ∧ (¬ ((gi (gl x27 z115) (gi x28 z56)) ≠ (0 : Int)) → (J121 (decide ((gi (gl x27 z115) (gi x28 z56)) ≠ (0 : Int)))))))) ∧ (¬ (z115 ≠ z56) → J121 false)))))) ∧ (¬ (z115 = z56) → (((z115 ≠ z56) → ((0 ≤ (gi x28 z56) ∧ (gi x28 z56) < ((gl x27 z115).length : Nat)) ∧ ((((gi (gl x27 z115) (gi x28 z56)) ≠ (0 : Int)) → Q false) ∧ (¬ ((gi (gl x27 z115) (gi x28 z56)) ≠ (0 : Int)) → (J121 (decide ((gi (gl x27 z115) (gi x28 z56)) ≠ (0 : Int)))))))) ∧ (¬ (z115 ≠ z56) → J121 false))))) ∧ ∀ (b120 : Bool), (J121 b120 → ((I64 (z115 + (1 : Int))) ∧ (I116 (z115 + (1 : Int)) ∧ μ117 (z115 + (1 : Int)) < μ117 z115))))) ∧ (¬ (z115 < ((x27.length : Nat) : Int)) → ((0 ≤ z56 ∧ z56 < (x27.length : Nat)) ∧ ((0 ≤ (gi x28 z56) ∧ (gi x28 z56) ≤ ((gl x27 z56).length : Nat)) ∧ (∃ (I140 : Int → Prop) (μ141 : Int → Nat), I140 (0 : Int) ∧ ∀ (z139 : Int), (I140 z139 → (((z139 < ((((gl x27 z56).take (gi x28 z56).toNat).length : Nat) : Int)) → ((0 ≤ z139 ∧ z139 < (((gl x27 z56).take (gi x28 z56).toNat).length : Nat)) ∧ ((((gi ((gl x27 z56).take (gi x28 z56).toNat) z139) ≠ (0 : Int)) → Q false) ∧ (¬ ((gi ((gl x27 z56).take (gi x28 z56).toNat) z139) ≠ (0 : Int)) → ((I64 (z139 + (1 : Int))) ∧ (I140 (z139 + (1 : Int)) ∧ μ141 (z139 + (1 : Int)) < μ141 z139)))))) ∧ (¬ (z139 < ((((gl x27 z56).take (gi x28 z56).toNat).length : Nat) : Int)) → (J69 false z115 (decide (z115 < ((x27.length : Nat) : Int))) z139 (decide (z139 < ((((gl x27 z56).take (gi x28 z56).toNat).length : Nat) : Int))))))))))))))))))))) ∧ ∀ (b61 : Bool) (z62 : Int) (b63 : Bool) (z67 : Int) (b68 : Bool), (J69 b61 z62 b63 z67 b68 → ((I64 (z56 + (1 : Int))) ∧ (I57 (z56 + (1 : Int)) ∧ μ58 (z56 + (1 : Int)) < μ58 z56))))) ∧ (¬ (z56 < ((x28.length : Nat) : Int)) → (∃ (I155 : Int → Prop) (μ156 : Int → Nat), I155 (0 : Int) ∧ ∀ (z154 : Int), (I155 z154 → (((z154 < ((m.length : Nat) : Int)) → ((0 ≤ z154 ∧ z154 < (m.length : Nat)) ∧ (∃ (x164 : List Int), V_rPick (gl m z154) x28 (fun q => q = x164) ∧ (∃ (x177 : List Int), V_rCombine Pf Mf mf x164 x27 c26 (fun q => q = x177) ∧ (∃ (r187 : Bool), V_rSameInts x177 (gl m z154) (fun q => q = r187) ∧ ((((!r187) = true) → Q false) ∧ ((!r187) = false → ((I64 (z154 + (1 : Int))) ∧ (I155 (z154 + (1 : Int)) ∧ μ156 (z154 + (1 : Int)) < μ156 z154))))))))) ∧ (¬ (z154 < ((m.length : Nat) : Int)) → Q true)))))))))))))))))))))))))))))))
theorem ok_LReduced {w : World} {Q : Bool → Prop} {Pf : Int} {Mf : Int} {mf : List Int} {Cm : Int} {m : List (List Int)} {Bf : Nat} {Af : Option Addr} {nf kf : Nat} (hf : Rd Bf w 1 Af nf kf (is mf)) {Am : Option Addr} {nm km : Nat} (hm : Rl w Am nm km m) (hv : V_LReduced Pf Mf mf Cm m Q) :
   Calls Try.prog 4 #[.agg #[.int .i64 Pf, .int .i64 Mf, .slice Af nf kf], .agg #[.int .i64 Cm, .slice Am nm km]] w fun e w' => ∃ v Qr, e = .returned v ∧ w.grownBy w' none ∧ Rows w.heap.size none w' Qr ∧ News w.heap.size Qr ∧ ∃ (r0 : Bool), v = .bool r0 ∧ Qr = [] ∧ Q r0 := by
 have hnf := hf.ilen; subst hnf; have hnm := hm.len; subst hnm; obtain ⟨hsm, hHm⟩ := hm.heads; refine calls_swap <| calls_of_W (vs := [.agg #[.int .i64 Pf, .int .i64 Mf, .slice Af mf.length kf], .agg #[.int .i64 Cm, .slice Am m.length km]]) [4] XF4 rfl rfl rfl rfl ?_; have hS := St.start w; unfold V_LReduced at hv; refine W.seq <| W.region <| SL.box (z := 3) (cs := [.int .i64 Pf, .int .i64 Mf, .slice Af mf.length kf]) hS rfl rfl rfl rfl ?_; intro g11 w12 hS; refine SL.box (z := 2) (cs := [.int .i64 Cm, .slice Am m.length km]) hS rfl rfl rfl rfl ?_; intro g13 w14 hS; refine WL.assign rfl rfl <| WL.done <| W.seq <| W.seq <| W.region <| SL.call hS (ok_awake  hv) XF15 rfl XN15 rfl rfl ?_; rintro _ _ w15 ⟨r16, rfl, rfl, hv⟩ hGw15 hS; have hS := hS.n0; refine WL.not rfl rfl <| WL.move rfl rfl ?_; rcases g17 : (!r16) with _ | _
 ·have hv := hv.2 g17; refine WL.take rfl <| WL.loadV (cs := [.int .i64 Cm, .slice Am m.length km]) XE27 XG27 rfl rfl (Own.vcells (hS.own (i := 0) rfl)) rfl <| WL.take rfl <| SL.call hS (ok_rFew (RlH.rl (RlH.ext hHm hS.ext)) hv) XF16 rfl XN16 rfl rfl ?_; rintro _ _ w20 ⟨r21, rfl, rfl, hv⟩ hGw20 hS; have hS := hS.n0; refine WL.take rfl <| WL.not rfl rfl <| WL.pick rfl rfl rfl <| WL.done <| W.cond2 rfl (fun c22 => ?_) (fun c22 => ?_)
  ·have hv := hv.1 (c22); refine W.seq <| W.region <| SL.call hS (ok_awake  hv) XF15 rfl XN15 rfl rfl ?_; rintro _ _ w23 ⟨r24, rfl, rfl, hv⟩ hGw23 hS; have hS := hS.n0; refine WL.assign rfl rfl <| WL.done <| W.ret <| ⟨_, rfl, Fin.nil ?_⟩
   exact ⟨_, hS.ext, (hS.pick [] rfl).rows, News.of (hS.pick [] rfl).rows rfl, ⟨r24, rfl, rfl, hv⟩⟩
  have hv := hv.2 (c22); refine W.skip <| W.seq <| W.region <| WL.loadV (cs := [.int .i64 Pf, .int .i64 Mf, .slice Af mf.length kf]) XE24 XG24 rfl rfl (Own.vcells (hS.own (i := 1) rfl)) rfl <| WL.loadV (cs := [.int .i64 Cm, .slice Am m.length km]) XE27 XG27 rfl rfl (Own.vcells (hS.own (i := 0) rfl)) rfl <| SL.call hS (ok_Canonical (hS.ro hf) (RlH.rl (RlH.ext hHm hS.ext)) hv) XF17 rfl XN17 rfl rfl ?_; rintro _ _ w25 ⟨c26, x27, x28, r29, A30, k31, hs32, A34, k35, rfl, rfl, hv⟩ hGw25 hS; have hS := hS.n2; refine WL.move rfl rfl <| WL.extract rfl rfl rfl <| WL.extract rfl rfl rfl <| WL.extract rfl rfl rfl <| SL.alloc (cs := [.int .i64 (0 : Int), .slice none 0 0]) hS XE27 rfl rfl ?_; intro g37 w38 hS; refine SL.storeV (cs := [.int .i64 c26, .slice A30 x27.length k31]) 0 hS rfl XE27 rfl rfl rfl rfl rfl ?_; intro w39 hS; refine WL.assign rfl rfl <| WL.assign rfl rfl <| WL.done <| W.seq <| W.seq <| W.region <| WL.move rfl rfl <| WL.neqD rfl rfl rfl <| WL.done <| W.cond2 rfl (fun c40 => ?_) (fun c40 => ?_)
  ·have hv := hv.1 (of_decide_eq_true c40); refine W.seq <| W.region <| WL.fieldA (off := 1) XA27_1 rfl rfl <| WL.load XU25 rfl rfl (Own.vcells (hS.own (i := 0) rfl) 1 _ rfl) rfl <| WL.len XU25 rfl rfl <| WL.eqlD rfl rfl rfl <| WL.move rfl rfl ?_; by_cases g41 : ((x27.length : Nat) : Int) = (0 : Int)
   ·have hv := hv.1 g41; rw [decide_eq_true g41]; refine WL.take rfl <| WL.move rfl rfl <| WL.take rfl <| WL.len XU22 rfl rfl <| WL.take rfl <| WL.eqlD rfl rfl rfl <| WL.pick rfl rfl rfl <| WL.assign rfl rfl <| WL.done <| W.ret <| ⟨_, rfl, Fin.nil ?_⟩
    exact ⟨_, hS.ext, (hS.pick [] rfl).rows, News.of (hS.pick [] rfl).rows rfl, ⟨(decide (((x28.length : Nat) : Int) = (0 : Int))), rfl, rfl, hv⟩⟩
   have hv := hv.2 g41; rw [decide_eq_false g41]; refine WL.pass rfl rfl rfl <| WL.pass rfl rfl rfl <| WL.pass rfl rfl rfl <| WL.pick rfl rfl rfl <| WL.assign rfl rfl <| WL.done <| W.ret <| ⟨_, rfl, Fin.nil ?_⟩
   exact ⟨_, hS.ext, (hS.pick [] rfl).rows, News.of (hS.pick [] rfl).rows rfl, ⟨false, rfl, rfl, hv⟩⟩
  have hv := hv.2 (of_decide_eq_false c40); refine W.skip <| W.seq <| W.seq <| W.region <| WL.loadV (cs := [.int .i64 Pf, .int .i64 Mf, .slice Af mf.length kf]) XE24 XG24 rfl rfl (Own.vcells (hS.own (i := 4) rfl)) rfl <| WL.loadV (cs := [.int .i64 Cm, .slice Am m.length km]) XE27 XG27 rfl rfl (Own.vcells (hS.own (i := 3) rfl)) rfl <| SL.call hS (ok_rmCheck (hS.ro hf) (RlH.rl (RlH.ext hHm hS.ext)) hv) XF23 rfl XN23 rfl rfl ?_; rintro _ _ w42 ⟨r43, rfl, rfl, hv⟩ hGw42 hS; have hS := hS.n0; refine WL.neqD rfl rfl rfl <| WL.move rfl rfl ?_; by_cases g44 : r43 ≠ (0 : Int)
  ·have hv := hv.1 g44; rw [decide_eq_true g44]; refine WL.pass rfl rfl rfl <| WL.pass rfl rfl rfl <| WL.pass rfl rfl rfl <| WL.pass rfl rfl rfl <| WL.pass rfl rfl rfl <| WL.pick rfl rfl rfl <| WL.move rfl rfl <| WL.pass rfl rfl rfl <| WL.pass rfl rfl rfl <| WL.pass rfl rfl rfl <| WL.pass rfl rfl rfl <| WL.pass rfl rfl rfl <| WL.pass rfl rfl rfl <| WL.pick rfl rfl rfl <| WL.move rfl rfl <| WL.pass rfl rfl rfl <| WL.pass rfl rfl rfl <| WL.pass rfl rfl rfl <| WL.pass rfl rfl rfl <| WL.pass rfl rfl rfl <| WL.pass rfl rfl rfl <| WL.pick rfl rfl rfl <| WL.move rfl rfl <| WL.pass rfl rfl rfl <| WL.pass rfl rfl rfl <| WL.pass rfl rfl rfl <| WL.pass rfl rfl rfl <| WL.pick rfl rfl rfl <| WL.move rfl rfl <| WL.pass rfl rfl rfl <| WL.pass rfl rfl rfl <| WL.pass rfl rfl rfl <| WL.pass rfl rfl rfl <| WL.pick rfl rfl rfl <| WL.done <| W.condT rfl <| W.seq <| W.region <| WL.assign rfl rfl <| WL.done <| W.ret <| ⟨_, rfl, Fin.nil ?_⟩
   exact ⟨_, hS.ext, (hS.pick [] rfl).rows, News.of (hS.pick [] rfl).rows rfl, ⟨false, rfl, rfl, hv⟩⟩
  have hv := hv.2 g44; rw [decide_eq_false g44]; refine WL.take rfl <| WL.fieldA (off := 0) XA27_0 rfl rfl <| WL.take rfl <| WL.load XU3 rfl rfl (Own.vcells (hS.own (i := 0) rfl) 0 _ rfl) rfl <| WL.take rfl <| WL.fieldA (off := 0) XA27_0 rfl rfl <| WL.take rfl <| WL.load XU3 rfl rfl (Own.vcells (hS.own (i := 3) rfl) 0 _ rfl) rfl <| WL.take rfl <| WL.neqD rfl rfl rfl <| WL.pick rfl rfl rfl <| WL.move rfl rfl ?_; by_cases g45 : c26 ≠ Cm
  ·have hv := hv.1 g45; rw [decide_eq_true g45]; refine WL.pass rfl rfl rfl <| WL.pass rfl rfl rfl <| WL.pass rfl rfl rfl <| WL.pass rfl rfl rfl <| WL.pass rfl rfl rfl <| WL.pass rfl rfl rfl <| WL.pick rfl rfl rfl <| WL.move rfl rfl <| WL.pass rfl rfl rfl <| WL.pass rfl rfl rfl <| WL.pass rfl rfl rfl <| WL.pass rfl rfl rfl <| WL.pass rfl rfl rfl <| WL.pass rfl rfl rfl <| WL.pick rfl rfl rfl <| WL.move rfl rfl <| WL.pass rfl rfl rfl <| WL.pass rfl rfl rfl <| WL.pass rfl rfl rfl <| WL.pass rfl rfl rfl <| WL.pick rfl rfl rfl <| WL.move rfl rfl <| WL.pass rfl rfl rfl <| WL.pass rfl rfl rfl <| WL.pass rfl rfl rfl <| WL.pass rfl rfl rfl <| WL.pick rfl rfl rfl <| WL.done <| W.condT rfl <| W.seq <| W.region <| WL.assign rfl rfl <| WL.done <| W.ret <| ⟨_, rfl, Fin.nil ?_⟩
   exact ⟨_, hS.ext, (hS.pick [] rfl).rows, News.of (hS.pick [] rfl).rows rfl, ⟨false, rfl, rfl, hv⟩⟩
  have hv := hv.2 g45; rw [decide_eq_false g45]; refine WL.take rfl <| WL.fieldA (off := 1) XA27_1 rfl rfl <| WL.take rfl <| WL.load XU25 rfl rfl (Own.vcells (hS.own (i := 0) rfl) 1 _ rfl) rfl <| WL.take rfl <| WL.len XU25 rfl rfl <| WL.take rfl <| WL.move rfl rfl <| WL.take rfl <| WL.len XU22 rfl rfl <| WL.take rfl <| WL.neqD rfl rfl rfl <| WL.pick rfl rfl rfl <| WL.move rfl rfl ?_; by_cases g46 : ((x27.length : Nat) : Int) ≠ ((x28.length : Nat) : Int)
  ·have hv := hv.1 g46; rw [decide_eq_true g46]; refine WL.pass rfl rfl rfl <| WL.pass rfl rfl rfl <| WL.pass rfl rfl rfl <| WL.pass rfl rfl rfl <| WL.pass rfl rfl rfl <| WL.pass rfl rfl rfl <| WL.pick rfl rfl rfl <| WL.move rfl rfl <| WL.pass rfl rfl rfl <| WL.pass rfl rfl rfl <| WL.pass rfl rfl rfl <| WL.pass rfl rfl rfl <| WL.pick rfl rfl rfl <| WL.move rfl rfl <| WL.pass rfl rfl rfl <| WL.pass rfl rfl rfl <| WL.pass rfl rfl rfl <| WL.pass rfl rfl rfl <| WL.pick rfl rfl rfl <| WL.done <| W.condT rfl <| W.seq <| W.region <| WL.assign rfl rfl <| WL.done <| W.ret <| ⟨_, rfl, Fin.nil ?_⟩
   exact ⟨_, hS.ext, (hS.pick [] rfl).rows, News.of (hS.pick [] rfl).rows rfl, ⟨false, rfl, rfl, hv⟩⟩
  have hv := hv.2 g46; rw [decide_eq_false g46]; refine WL.take rfl <| WL.move rfl rfl <| WL.take rfl <| WL.len XU22 rfl rfl <| WL.take rfl <| WL.fieldA (off := 1) XA27_1 rfl rfl <| WL.take rfl <| WL.load XU25 rfl rfl (Own.vcells (hS.own (i := 3) rfl) 1 _ rfl) rfl <| WL.take rfl <| WL.len XU25 rfl rfl <| WL.take rfl <| WL.gtrD rfl rfl rfl <| WL.pick rfl rfl rfl <| WL.move rfl rfl ?_; by_cases g47 : ((m.length : Nat) : Int) < ((x28.length : Nat) : Int)
  ·have hv := hv.1 g47; rw [decide_eq_true g47]; refine WL.pass rfl rfl rfl <| WL.pass rfl rfl rfl <| WL.pass rfl rfl rfl <| WL.pass rfl rfl rfl <| WL.pick rfl rfl rfl <| WL.move rfl rfl <| WL.pass rfl rfl rfl <| WL.pass rfl rfl rfl <| WL.pass rfl rfl rfl <| WL.pass rfl rfl rfl <| WL.pick rfl rfl rfl <| WL.done <| W.condT rfl <| W.seq <| W.region <| WL.assign rfl rfl <| WL.done <| W.ret <| ⟨_, rfl, Fin.nil ?_⟩
   exact ⟨_, hS.ext, (hS.pick [] rfl).rows, News.of (hS.pick [] rfl).rows rfl, ⟨false, rfl, rfl, hv⟩⟩
  have hv := hv.2 g47; rw [decide_eq_false g47]; refine WL.take rfl <| WL.loadV (cs := [.int .i64 Pf, .int .i64 Mf, .slice Af mf.length kf]) XE24 XG24 rfl rfl (Own.vcells (hS.own (i := 4) rfl)) rfl <| WL.take rfl <| WL.loadV (cs := [.int .i64 c26, .slice A30 x27.length k31]) XE27 XG27 rfl rfl (Own.vcells (hS.own (i := 0) rfl)) rfl <| WL.take rfl <| SL.call hS (ok_mCheck (hS.ro hf) (hS.rl (i := 1) rfl) hv) XF22 rfl XN22 rfl rfl ?_; rintro _ _ w48 ⟨r49, rfl, rfl, hv⟩ hGw48 hS; have hS := hS.n0; refine WL.take rfl <| WL.neqD rfl rfl rfl <| WL.pick rfl rfl rfl <| WL.move rfl rfl ?_; by_cases g50 : r49 ≠ (0 : Int)
  ·have hv := hv.1 g50; rw [decide_eq_true g50]; refine WL.pass rfl rfl rfl <| WL.pass rfl rfl rfl <| WL.pass rfl rfl rfl <| WL.pass rfl rfl rfl <| WL.pick rfl rfl rfl <| WL.done <| W.condT rfl <| W.seq <| W.region <| WL.assign rfl rfl <| WL.done <| W.ret <| ⟨_, rfl, Fin.nil ?_⟩
   exact ⟨_, hS.ext, (hS.pick [] rfl).rows, News.of (hS.pick [] rfl).rows rfl, ⟨false, rfl, rfl, hv⟩⟩
  have hv := hv.2 g50; rw [decide_eq_false g50]; refine WL.take rfl <| WL.loadV (cs := [.int .i64 Pf, .int .i64 Mf, .slice Af mf.length kf]) XE24 XG24 rfl rfl (Own.vcells (hS.own (i := 4) rfl)) rfl <| WL.take rfl <| WL.loadV (cs := [.int .i64 c26, .slice A30 x27.length k31]) XE27 XG27 rfl rfl (Own.vcells (hS.own (i := 0) rfl)) rfl <| WL.take rfl <| SL.call hS (ok_rmCheck (hS.ro hf) (hS.rl (i := 1) rfl) hv) XF23 rfl XN23 rfl rfl ?_; rintro _ _ w51 ⟨r52, rfl, rfl, hv⟩ hGw51 hS; have hS := hS.n0; refine WL.take rfl <| WL.neqD rfl rfl rfl <| WL.pick rfl rfl rfl <| WL.done <| W.cond2 rfl (fun c53 => ?_) (fun c53 => ?_)
  ·have hv := hv.1 (of_decide_eq_true c53); refine W.seq <| W.region <| WL.assign rfl rfl <| WL.done <| W.ret <| ⟨_, rfl, Fin.nil ?_⟩
   exact ⟨_, hS.ext, (hS.pick [] rfl).rows, News.of (hS.pick [] rfl).rows rfl, ⟨false, rfl, rfl, hv⟩⟩
  have hv := hv.2 (of_decide_eq_false c53); refine W.skip <| W.seq <| W.seq <| W.region <| WL.move rfl rfl <| WL.len XU22 rfl rfl <| WL.move rfl rfl <| WL.done <| W.block ?_; obtain ⟨I57, μ58, hv, hk195⟩ := hv; refine W.loop (σ := Int) (fun z56 w1 => I57 z56 ∧ St TT w none w1 [.row 27 2 (some ⟨g37, 0, none⟩) 1 1 [.int .i64 c26, .slice A30 x27.length k31], mx 22 3 A30 x27.length k31 hs32 x27, .row 3 1 A34 x28.length k35 (is x28), .row 27 2 (some ⟨g13, 0, none⟩) 1 1 [.int .i64 Cm, .slice Am m.length km], .row 24 3 (some ⟨g11, 0, none⟩) 1 1 [.int .i64 Pf, .int .i64 Mf, .slice Af mf.length kf]]) (fun z56 => [(2, .pointer (some ⟨g11, 0, none⟩)), (3, .pointer (some ⟨g13, 0, none⟩)), (4, .bool false), (5, .pointer (some ⟨g37, 0, none⟩)), (6, .slice A34 x28.length k35), (81, .slice A34 x28.length k35), (82, .int .i64 ((x28.length : Nat) : Int)), (83, .int .i64 z56)]) (fun z56 => μ58 z56) (0 : Int) ⟨hv, hS⟩ ⟨rfl, rfl, rfl, rfl, rfl, rfl, rfl, rfl, trivial⟩ ?_; rintro z56 w59 ⟨hv, hS⟩; have hv := hk195 z56 hv; refine W.seq <| W.region <| WL.lssD rfl rfl rfl <| WL.done <| W.seq <| W.cond2 rfl (fun c60 => ?_) (fun c60 => ?_)
  ·have hv := hv.1 (of_decide_eq_true c60); refine W.skip <| W.seq ?_; obtain ⟨J69, hv, hk151⟩ := hv; refine W.cutN (σ := Bool × Int × Bool × Int × Bool) (fun q w1 => match q with | (b61, z62, b63, z67, b68) => J69 b61 z62 b63 z67 b68 ∧ St TT w none w1 [.row 27 2 (some ⟨g37, 0, none⟩) 1 1 [.int .i64 c26, .slice A30 x27.length k31], mx 22 3 A30 x27.length k31 hs32 x27, .row 3 1 A34 x28.length k35 (is x28), .row 27 2 (some ⟨g13, 0, none⟩) 1 1 [.int .i64 Cm, .slice Am m.length km], .row 24 3 (some ⟨g11, 0, none⟩) 1 1 [.int .i64 Pf, .int .i64 Mf, .slice Af mf.length kf]]) (fun q => match q with | (b61, z62, b63, z67, b68) => [(2, .pointer (some ⟨g11, 0, none⟩)), (3, .pointer (some ⟨g13, 0, none⟩)), (4, .bool false), (5, .pointer (some ⟨g37, 0, none⟩)), (6, .slice A34 x28.length k35), (8, .int .i64 z56), (9, .int .i64 (gi x28 z56)), (81, .slice A34 x28.length k35), (82, .int .i64 ((x28.length : Nat) : Int)), (83, .int .i64 z56), (84, .bool (decide (z56 < ((x28.length : Nat) : Int)))), (108, .bool b61), (110, .slice A30 x27.length k31), (111, .int .i64 ((x27.length : Nat) : Int)), (112, .int .i64 z62), (113, .bool b63), (147, .int .i64 ((((gl x27 z56).take (gi x28 z56).toNat).length : Nat) : Int)), (148, .int .i64 z67), (149, .bool b68)]) ?_ ?_
   ·refine W.block ?_; refine W.seq <| W.region <| WL.move rfl rfl ?_; obtain ⟨o70, hv⟩ := hv; refine SL.index XU22 XE3 (hS.rd (i := 2) rfl) rfl rfl o70 rfl <| WL.load XU3 rfl rfl (Rd.gi (hS.rd (i := 2) rfl) o70) rfl <| WL.assign rfl rfl <| WL.assign rfl rfl <| WL.done <| W.seq <| W.seq <| W.region <| WL.move rfl rfl <| WL.lssD rfl rfl rfl <| WL.move rfl rfl ?_; by_cases g71 : (gi x28 z56) < (0 : Int)
    ·have hv := hv.1 g71; rw [decide_eq_true g71]; refine WL.pass rfl rfl rfl <| WL.pass rfl rfl rfl <| WL.pass rfl rfl rfl <| WL.pass rfl rfl rfl <| WL.pick rfl rfl rfl <| WL.move rfl rfl <| WL.pass rfl rfl rfl <| WL.pass rfl rfl rfl <| WL.pass rfl rfl rfl <| WL.passU rfl rfl <| WL.passU rfl rfl <| WL.passU rfl rfl <| WL.passU rfl rfl <| WL.passU rfl rfl <| WL.passU rfl rfl <| WL.passU rfl rfl <| WL.pass rfl rfl rfl <| WL.pick rfl rfl rfl <| WL.done <| W.condT rfl <| W.seq <| W.region <| WL.assign rfl rfl <| WL.done <| W.ret <| ⟨_, rfl, Fin.nil ?_⟩
     exact ⟨_, hS.ext, (hS.pick [] rfl).rows, News.of (hS.pick [] rfl).rows rfl, ⟨false, rfl, rfl, hv⟩⟩
    have hv := hv.2 g71; rw [decide_eq_false g71]; refine WL.take rfl <| WL.move rfl rfl <| WL.take rfl <| WL.fieldA (off := 0) XA27_0 rfl rfl <| WL.take rfl <| WL.load XU3 rfl rfl (Own.vcells (hS.own (i := 0) rfl) 0 _ rfl) rfl <| WL.take rfl <| WL.geqD rfl rfl rfl <| WL.pick rfl rfl rfl <| WL.move rfl rfl ?_; by_cases g72 : c26 ≤ (gi x28 z56)
    ·have hv := hv.1 g72; rw [decide_eq_true g72]; refine WL.pass rfl rfl rfl <| WL.pass rfl rfl rfl <| WL.pass rfl rfl rfl <| WL.passU rfl rfl <| WL.passU rfl rfl <| WL.passU rfl rfl <| WL.passU rfl rfl <| WL.passU rfl rfl <| WL.passU rfl rfl <| WL.passU rfl rfl <| WL.pass rfl rfl rfl <| WL.pick rfl rfl rfl <| WL.done <| W.condT rfl <| W.seq <| W.region <| WL.assign rfl rfl <| WL.done <| W.ret <| ⟨_, rfl, Fin.nil ?_⟩
     exact ⟨_, hS.ext, (hS.pick [] rfl).rows, News.of (hS.pick [] rfl).rows rfl, ⟨false, rfl, rfl, hv⟩⟩
    have hv := hv.2 g72; rw [decide_eq_false g72]; refine WL.take rfl <| WL.move rfl rfl <| WL.take rfl <| WL.gtrD rfl rfl rfl <| WL.take rfl <| WL.move rfl rfl ?_; by_cases g73 : (0 : Int) < z56
    ·have hv := hv.1 g73; rw [decide_eq_true g73]; refine WL.take rfl <| WL.move rfl rfl <| WL.take rfl <| WL.move rfl rfl <| WL.take rfl ?_; obtain ⟨o74, hv⟩ := hv; refine WL.sub (r := (z56 - (1 : Int))) rfl rfl (wr o74) rfl <| WL.take rfl ?_; obtain ⟨o75, hv⟩ := hv; refine SL.index XU22 XE3 (hS.rd (i := 2) rfl) rfl rfl o75 rfl <| WL.take rfl <| WL.load XU3 rfl rfl (Rd.gi (hS.rd (i := 2) rfl) o75) rfl <| WL.take rfl <| WL.move rfl rfl <| WL.take rfl <| WL.geqD rfl rfl rfl <| WL.take rfl <| WL.pick rfl rfl rfl <| WL.pick rfl rfl rfl <| WL.done <| W.cond2 rfl (fun c76 => ?_) (fun c76 => ?_)
     ·have hv := hv.1 (of_decide_eq_true c76); refine W.seq <| W.region <| WL.assign rfl rfl <| WL.done <| W.ret <| ⟨_, rfl, Fin.nil ?_⟩
      exact ⟨_, hS.ext, (hS.pick [] rfl).rows, News.of (hS.pick [] rfl).rows rfl, ⟨false, rfl, rfl, hv⟩⟩
     have hv := hv.2 (of_decide_eq_false c76); refine W.skip <| W.seq <| W.seq <| W.region <| WL.fieldA (off := 1) XA27_1 rfl rfl <| WL.load XU25 rfl rfl (Own.vcells (hS.own (i := 0) rfl) 1 _ rfl) rfl <| WL.len XU25 rfl rfl <| WL.move rfl rfl <| WL.done <| W.block ?_; obtain ⟨I80, μ81, hv, hk112⟩ := hv; refine W.loop (σ := Int) (fun z79 w1 => I80 z79 ∧ St TT w none w1 [.row 27 2 (some ⟨g37, 0, none⟩) 1 1 [.int .i64 c26, .slice A30 x27.length k31], mx 22 3 A30 x27.length k31 hs32 x27, .row 3 1 A34 x28.length k35 (is x28), .row 27 2 (some ⟨g13, 0, none⟩) 1 1 [.int .i64 Cm, .slice Am m.length km], .row 24 3 (some ⟨g11, 0, none⟩) 1 1 [.int .i64 Pf, .int .i64 Mf, .slice Af mf.length kf]]) (fun z79 => [(2, .pointer (some ⟨g11, 0, none⟩)), (3, .pointer (some ⟨g13, 0, none⟩)), (4, .bool false), (5, .pointer (some ⟨g37, 0, none⟩)), (6, .slice A34 x28.length k35), (8, .int .i64 z56), (9, .int .i64 (gi x28 z56)), (81, .slice A34 x28.length k35), (82, .int .i64 ((x28.length : Nat) : Int)), (83, .int .i64 z56), (84, .bool (decide (z56 < ((x28.length : Nat) : Int)))), (108, .bool (decide ((gi x28 z56) ≤ (gi x28 (z56 - (1 : Int)))))), (110, .slice A30 x27.length k31), (111, .int .i64 ((x27.length : Nat) : Int)), (112, .int .i64 z79)]) (fun z79 => μ81 z79) (0 : Int) ⟨hv, hS⟩ ⟨rfl, rfl, rfl, rfl, rfl, rfl, rfl, rfl, rfl, rfl, rfl, rfl, rfl, rfl, rfl, trivial⟩ ?_; rintro z79 w82 ⟨hv, hS⟩; have hv := hk112 z79 hv; refine W.seq <| W.region <| WL.lssD rfl rfl rfl <| WL.done <| W.seq <| W.cond2 rfl (fun c83 => ?_) (fun c83 => ?_)
     ·have hv := hv.1 (of_decide_eq_true c83); refine W.skip <| W.seq ?_; obtain ⟨J85, hv, hk98⟩ := hv; refine W.cutN (σ := Bool) (fun b84 w1 => J85 b84 ∧ St TT w none w1 [.row 27 2 (some ⟨g37, 0, none⟩) 1 1 [.int .i64 c26, .slice A30 x27.length k31], mx 22 3 A30 x27.length k31 hs32 x27, .row 3 1 A34 x28.length k35 (is x28), .row 27 2 (some ⟨g13, 0, none⟩) 1 1 [.int .i64 Cm, .slice Am m.length km], .row 24 3 (some ⟨g11, 0, none⟩) 1 1 [.int .i64 Pf, .int .i64 Mf, .slice Af mf.length kf]]) (fun b84 => [(2, .pointer (some ⟨g11, 0, none⟩)), (3, .pointer (some ⟨g13, 0, none⟩)), (4, .bool false), (5, .pointer (some ⟨g37, 0, none⟩)), (6, .slice A34 x28.length k35), (8, .int .i64 z56), (9, .int .i64 (gi x28 z56)), (10, .int .i64 z79), (11, .slice ((hs32 z79.toNat).1) ((gl x27 z79).length) ((hs32 z79.toNat).2)), (81, .slice A34 x28.length k35), (82, .int .i64 ((x28.length : Nat) : Int)), (83, .int .i64 z56), (84, .bool (decide (z56 < ((x28.length : Nat) : Int)))), (108, .bool (decide ((gi x28 z56) ≤ (gi x28 (z56 - (1 : Int)))))), (110, .slice A30 x27.length k31), (111, .int .i64 ((x27.length : Nat) : Int)), (112, .int .i64 z79), (113, .bool (decide (z79 < ((x27.length : Nat) : Int)))), (138, .bool b84)]) ?_ ?_
      ·refine W.block ?_; refine W.seq <| W.region <| WL.move rfl rfl ?_; obtain ⟨o86, hv⟩ := hv; refine SL.indexMx 1 XU25 XE22 hS rfl rfl rfl o86 rfl <| WL.load XU22 rfl rfl (hS.mxcell (i := 1) rfl o86) rfl <| WL.assign rfl rfl <| WL.assign rfl rfl <| WL.done <| W.seq <| W.region <| WL.move rfl rfl <| WL.move rfl rfl <| WL.eqlD rfl rfl rfl <| WL.move rfl rfl ?_; by_cases g87 : z79 = z56
       ·have hv := hv.1 g87; rw [decide_eq_true g87]; refine WL.take rfl <| WL.move rfl rfl <| WL.take rfl <| WL.move rfl rfl <| WL.take rfl ?_; obtain ⟨o88, hv⟩ := hv; refine SL.index XU22 XE3 (hS.mxrd (i := 1) rfl o86) rfl rfl o88 rfl <| WL.take rfl <| WL.load XU3 rfl rfl (Rd.gi (hS.mxrd (i := 1) rfl o86) o88) rfl <| WL.take rfl <| WL.neqD rfl rfl rfl <| WL.pick rfl rfl rfl <| WL.move rfl rfl ?_; by_cases g89 : (gi (gl x27 z79) (gi x28 z56)) ≠ (1 : Int)
        ·have hv := hv.1 g89; rw [decide_eq_true g89]; refine WL.pass rfl rfl rfl <| WL.pass rfl rfl rfl <| WL.pass rfl rfl rfl <| WL.pass rfl rfl rfl <| WL.passU rfl rfl <| WL.passU rfl rfl <| WL.passU rfl rfl <| WL.passU rfl rfl <| WL.passU rfl rfl <| WL.pass rfl rfl rfl <| WL.pick rfl rfl rfl <| WL.done <| W.condT rfl <| W.seq <| W.region <| WL.assign rfl rfl <| WL.done <| W.ret <| ⟨_, rfl, Fin.nil ?_⟩
         exact ⟨_, hS.ext, (hS.pick [] rfl).rows, News.of (hS.pick [] rfl).rows rfl, ⟨false, rfl, rfl, hv⟩⟩
        have hv := hv.2 g89; rw [decide_eq_false g89]; refine WL.take rfl <| WL.move rfl rfl <| WL.take rfl <| WL.move rfl rfl <| WL.take rfl <| WL.neqD rfl rfl rfl <| WL.take rfl <| WL.move rfl rfl ?_; by_cases g90 : z79 ≠ z56
        ·have hv := hv.1 g90; rw [decide_eq_true g90]; refine WL.take rfl <| WL.move rfl rfl <| WL.take rfl <| WL.move rfl rfl <| WL.take rfl ?_; obtain ⟨o91, hv⟩ := hv; refine SL.index XU22 XE3 (hS.mxrd (i := 1) rfl o86) rfl rfl o91 rfl <| WL.take rfl <| WL.load XU3 rfl rfl (Rd.gi (hS.mxrd (i := 1) rfl o86) o91) rfl <| WL.take rfl <| WL.neqD rfl rfl rfl <| WL.take rfl <| WL.pick rfl rfl rfl <| WL.pick rfl rfl rfl <| WL.done <| W.cond2 rfl (fun c92 => ?_) (fun c92 => ?_)
         ·have hv := hv.1 (of_decide_eq_true c92); refine W.seq <| W.region <| WL.assign rfl rfl <| WL.done <| W.ret <| ⟨_, rfl, Fin.nil ?_⟩
          exact ⟨_, hS.ext, (hS.pick [] rfl).rows, News.of (hS.pick [] rfl).rows rfl, ⟨false, rfl, rfl, hv⟩⟩
         have hv := hv.2 (of_decide_eq_false c92); refine W.skip ?_; exact ⟨(decide ((gi (gl x27 z79) (gi x28 z56)) ≠ (0 : Int))), ⟨rfl, rfl, rfl, rfl, rfl, rfl, rfl, rfl, rfl, rfl, rfl, rfl, rfl, rfl, rfl, rfl, rfl, rfl, rfl, trivial⟩, rfl, hv, hS⟩
        have hv := hv.2 g90; rw [decide_eq_false g90]; refine WL.pass rfl rfl rfl <| WL.pass rfl rfl rfl <| WL.pass rfl rfl rfl <| WL.pass rfl rfl rfl <| WL.pass rfl rfl rfl <| WL.take rfl <| WL.pick rfl rfl rfl <| WL.pick rfl rfl rfl <| WL.done <| W.condF rfl <| W.skip ?_; exact ⟨false, ⟨rfl, rfl, rfl, rfl, rfl, rfl, rfl, rfl, rfl, rfl, rfl, rfl, rfl, rfl, rfl, rfl, rfl, rfl, rfl, trivial⟩, rfl, hv, hS⟩
       have hv := hv.2 g87; rw [decide_eq_false g87]; refine WL.pass rfl rfl rfl <| WL.pass rfl rfl rfl <| WL.pass rfl rfl rfl <| WL.pass rfl rfl rfl <| WL.pass rfl rfl rfl <| WL.pick rfl rfl rfl <| WL.move rfl rfl <| WL.take rfl <| WL.move rfl rfl <| WL.take rfl <| WL.move rfl rfl <| WL.take rfl <| WL.neqD rfl rfl rfl <| WL.take rfl <| WL.move rfl rfl ?_; by_cases g93 : z79 ≠ z56
       ·have hv := hv.1 g93; rw [decide_eq_true g93]; refine WL.take rfl <| WL.move rfl rfl <| WL.take rfl <| WL.move rfl rfl <| WL.take rfl ?_; obtain ⟨o94, hv⟩ := hv; refine SL.index XU22 XE3 (hS.mxrd (i := 1) rfl o86) rfl rfl o94 rfl <| WL.take rfl <| WL.load XU3 rfl rfl (Rd.gi (hS.mxrd (i := 1) rfl o86) o94) rfl <| WL.take rfl <| WL.neqD rfl rfl rfl <| WL.take rfl <| WL.pick rfl rfl rfl <| WL.pick rfl rfl rfl <| WL.done <| W.cond2 rfl (fun c95 => ?_) (fun c95 => ?_)
        ·have hv := hv.1 (of_decide_eq_true c95); refine W.seq <| W.region <| WL.assign rfl rfl <| WL.done <| W.ret <| ⟨_, rfl, Fin.nil ?_⟩
         exact ⟨_, hS.ext, (hS.pick [] rfl).rows, News.of (hS.pick [] rfl).rows rfl, ⟨false, rfl, rfl, hv⟩⟩
        have hv := hv.2 (of_decide_eq_false c95); refine W.skip ?_; exact ⟨(decide ((gi (gl x27 z79) (gi x28 z56)) ≠ (0 : Int))), ⟨rfl, rfl, rfl, rfl, rfl, rfl, rfl, rfl, rfl, rfl, rfl, rfl, rfl, rfl, rfl, rfl, rfl, rfl, rfl, trivial⟩, rfl, hv, hS⟩
       have hv := hv.2 g93; rw [decide_eq_false g93]; refine WL.pass rfl rfl rfl <| WL.pass rfl rfl rfl <| WL.pass rfl rfl rfl <| WL.pass rfl rfl rfl <| WL.pass rfl rfl rfl <| WL.take rfl <| WL.pick rfl rfl rfl <| WL.pick rfl rfl rfl <| WL.done <| W.condF rfl <| W.skip ?_; exact ⟨false, ⟨rfl, rfl, rfl, rfl, rfl, rfl, rfl, rfl, rfl, rfl, rfl, rfl, rfl, rfl, rfl, rfl, rfl, rfl, rfl, trivial⟩, rfl, hv, hS⟩
      rintro b84 w96 ⟨hv, hS⟩; have hv := hk98 b84 hv; refine W.region ?_; obtain ⟨o97, hv⟩ := hv; refine WL.add (r := (z79 + (1 : Int))) rfl rfl (wr o97) rfl <| WL.move rfl rfl <| WL.done ?_; exact ⟨(z79 + (1 : Int)), ⟨rfl, rfl, rfl, rfl, rfl, rfl, rfl, rfl, rfl, rfl, rfl, rfl, rfl, rfl, rfl, trivial⟩, hv.2, rfl, hv.1, hS⟩
     have hv := hv.2 (of_decide_eq_false c83); refine W.exit <| W.seq <| W.region <| WL.fieldA (off := 1) XA27_1 rfl rfl <| WL.load XU25 rfl rfl (Own.vcells (hS.own (i := 0) rfl) 1 _ rfl) rfl <| WL.move rfl rfl ?_; obtain ⟨o99, hv⟩ := hv; refine SL.indexMx 1 XU25 XE22 hS rfl rfl rfl o99 rfl <| WL.load XU22 rfl rfl (hS.mxcell (i := 1) rfl o99) rfl <| WL.move rfl rfl ?_; obtain ⟨o100, hv⟩ := hv; refine SL.slTo XU22 XE3 (hS.mxrd (i := 1) rfl o99) rfl rfl o100 rfl ((gl x27 z56).take (gi x28 z56).toNat).length (pre_len (hS.mxrd (i := 1) rfl o99) o100) <| WL.len XU22 rfl rfl <| WL.move rfl rfl <| WL.done <| W.block ?_; obtain ⟨I104, μ105, hv, hk111⟩ := hv; refine W.loop (σ := Int) (fun z103 w1 => I104 z103 ∧ St TT w none w1 [.row 27 2 (some ⟨g37, 0, none⟩) 1 1 [.int .i64 c26, .slice A30 x27.length k31], mx 22 3 A30 x27.length k31 hs32 x27, .row 3 1 A34 x28.length k35 (is x28), .row 27 2 (some ⟨g13, 0, none⟩) 1 1 [.int .i64 Cm, .slice Am m.length km], .row 24 3 (some ⟨g11, 0, none⟩) 1 1 [.int .i64 Pf, .int .i64 Mf, .slice Af mf.length kf]]) (fun z103 => [(2, .pointer (some ⟨g11, 0, none⟩)), (3, .pointer (some ⟨g13, 0, none⟩)), (4, .bool false), (5, .pointer (some ⟨g37, 0, none⟩)), (6, .slice A34 x28.length k35), (8, .int .i64 z56), (9, .int .i64 (gi x28 z56)), (81, .slice A34 x28.length k35), (82, .int .i64 ((x28.length : Nat) : Int)), (83, .int .i64 z56), (84, .bool (decide (z56 < ((x28.length : Nat) : Int)))), (108, .bool (decide ((gi x28 z56) ≤ (gi x28 (z56 - (1 : Int)))))), (110, .slice A30 x27.length k31), (111, .int .i64 ((x27.length : Nat) : Int)), (112, .int .i64 z79), (113, .bool (decide (z79 < ((x27.length : Nat) : Int)))), (146, .slice ((hs32 z56.toNat).1) (((gl x27 z56).take (gi x28 z56).toNat).length) ((hs32 z56.toNat).2)), (147, .int .i64 ((((gl x27 z56).take (gi x28 z56).toNat).length : Nat) : Int)), (148, .int .i64 z103)]) (fun z103 => μ105 z103) (0 : Int) ⟨hv, hS⟩ ⟨rfl, rfl, rfl, rfl, rfl, rfl, rfl, rfl, rfl, rfl, rfl, rfl, rfl, rfl, rfl, rfl, rfl, rfl, rfl, trivial⟩ ?_; rintro z103 w106 ⟨hv, hS⟩; have hv := hk111 z103 hv; refine W.seq <| W.region <| WL.lssD rfl rfl rfl <| WL.done <| W.seq <| W.cond2 rfl (fun c107 => ?_) (fun c107 => ?_)
     ·have hv := hv.1 (of_decide_eq_true c107); refine W.skip <| W.seq <| W.block <| W.seq <| W.region ?_; obtain ⟨o108, hv⟩ := hv; refine SL.index XU22 XE3 (Rd.pre (hS.mxrd (i := 1) rfl o99) o100) rfl rfl o108 rfl <| WL.load XU3 rfl rfl (Rd.gi (Rd.pre (hS.mxrd (i := 1) rfl o99) o100) o108) rfl <| WL.assign rfl rfl <| WL.done <| W.seq <| W.region <| WL.move rfl rfl <| WL.neqD rfl rfl rfl <| WL.done <| W.cond2 rfl (fun c109 => ?_) (fun c109 => ?_)
      ·have hv := hv.1 (of_decide_eq_true c109); refine W.seq <| W.region <| WL.assign rfl rfl <| WL.done <| W.ret <| ⟨_, rfl, Fin.nil ?_⟩
       exact ⟨_, hS.ext, (hS.pick [] rfl).rows, News.of (hS.pick [] rfl).rows rfl, ⟨false, rfl, rfl, hv⟩⟩
      have hv := hv.2 (of_decide_eq_false c109); refine W.skip <| W.region ?_; obtain ⟨o110, hv⟩ := hv; refine WL.add (r := (z103 + (1 : Int))) rfl rfl (wr o110) rfl <| WL.move rfl rfl <| WL.done ?_; exact ⟨(z103 + (1 : Int)), ⟨rfl, rfl, rfl, rfl, rfl, rfl, rfl, rfl, rfl, rfl, rfl, rfl, rfl, rfl, rfl, rfl, rfl, rfl, rfl, trivial⟩, hv.2, rfl, hv.1, hS⟩
     have hv := hv.2 (of_decide_eq_false c107); refine W.exit ?_; exact ⟨((decide ((gi x28 z56) ≤ (gi x28 (z56 - (1 : Int))))), z79, (decide (z79 < ((x27.length : Nat) : Int))), z103, (decide (z103 < ((((gl x27 z56).take (gi x28 z56).toNat).length : Nat) : Int)))), ⟨rfl, rfl, rfl, rfl, rfl, rfl, rfl, rfl, rfl, rfl, rfl, rfl, rfl, rfl, rfl, rfl, rfl, rfl, rfl, trivial⟩, rfl, hv, hS⟩
    have hv := hv.2 g73; rw [decide_eq_false g73]; refine WL.pass rfl rfl rfl <| WL.pass rfl rfl rfl <| WL.pass rfl rfl rfl <| WL.pass rfl rfl rfl <| WL.pass rfl rfl rfl <| WL.pass rfl rfl rfl <| WL.pass rfl rfl rfl <| WL.take rfl <| WL.pick rfl rfl rfl <| WL.pick rfl rfl rfl <| WL.done <| W.condF rfl <| W.skip <| W.seq <| W.seq <| W.region <| WL.fieldA (off := 1) XA27_1 rfl rfl <| WL.load XU25 rfl rfl (Own.vcells (hS.own (i := 0) rfl) 1 _ rfl) rfl <| WL.len XU25 rfl rfl <| WL.move rfl rfl <| WL.done <| W.block ?_; obtain ⟨I116, μ117, hv, hk148⟩ := hv; refine W.loop (σ := Int) (fun z115 w1 => I116 z115 ∧ St TT w none w1 [.row 27 2 (some ⟨g37, 0, none⟩) 1 1 [.int .i64 c26, .slice A30 x27.length k31], mx 22 3 A30 x27.length k31 hs32 x27, .row 3 1 A34 x28.length k35 (is x28), .row 27 2 (some ⟨g13, 0, none⟩) 1 1 [.int .i64 Cm, .slice Am m.length km], .row 24 3 (some ⟨g11, 0, none⟩) 1 1 [.int .i64 Pf, .int .i64 Mf, .slice Af mf.length kf]]) (fun z115 => [(2, .pointer (some ⟨g11, 0, none⟩)), (3, .pointer (some ⟨g13, 0, none⟩)), (4, .bool false), (5, .pointer (some ⟨g37, 0, none⟩)), (6, .slice A34 x28.length k35), (8, .int .i64 z56), (9, .int .i64 (gi x28 z56)), (81, .slice A34 x28.length k35), (82, .int .i64 ((x28.length : Nat) : Int)), (83, .int .i64 z56), (84, .bool (decide (z56 < ((x28.length : Nat) : Int)))), (108, .bool false), (110, .slice A30 x27.length k31), (111, .int .i64 ((x27.length : Nat) : Int)), (112, .int .i64 z115)]) (fun z115 => μ117 z115) (0 : Int) ⟨hv, hS⟩ ⟨rfl, rfl, rfl, rfl, rfl, rfl, rfl, rfl, rfl, rfl, rfl, rfl, rfl, rfl, rfl, trivial⟩ ?_; rintro z115 w118 ⟨hv, hS⟩; have hv := hk148 z115 hv; refine W.seq <| W.region <| WL.lssD rfl rfl rfl <| WL.done <| W.seq <| W.cond2 rfl (fun c119 => ?_) (fun c119 => ?_)
    ·have hv := hv.1 (of_decide_eq_true c119); refine W.skip <| W.seq ?_; obtain ⟨J121, hv, hk134⟩ := hv; refine W.cutN (σ := Bool) (fun b120 w1 => J121 b120 ∧ St TT w none w1 [.row 27 2 (some ⟨g37, 0, none⟩) 1 1 [.int .i64 c26, .slice A30 x27.length k31], mx 22 3 A30 x27.length k31 hs32 x27, .row 3 1 A34 x28.length k35 (is x28), .row 27 2 (some ⟨g13, 0, none⟩) 1 1 [.int .i64 Cm, .slice Am m.length km], .row 24 3 (some ⟨g11, 0, none⟩) 1 1 [.int .i64 Pf, .int .i64 Mf, .slice Af mf.length kf]]) (fun b120 => [(2, .pointer (some ⟨g11, 0, none⟩)), (3, .pointer (some ⟨g13, 0, none⟩)), (4, .bool false), (5, .pointer (some ⟨g37, 0, none⟩)), (6, .slice A34 x28.length k35), (8, .int .i64 z56), (9, .int .i64 (gi x28 z56)), (10, .int .i64 z115), (11, .slice ((hs32 z115.toNat).1) ((gl x27 z115).length) ((hs32 z115.toNat).2)), (81, .slice A34 x28.length k35), (82, .int .i64 ((x28.length : Nat) : Int)), (83, .int .i64 z56), (84, .bool (decide (z56 < ((x28.length : Nat) : Int)))), (108, .bool false), (110, .slice A30 x27.length k31), (111, .int .i64 ((x27.length : Nat) : Int)), (112, .int .i64 z115), (113, .bool (decide (z115 < ((x27.length : Nat) : Int)))), (138, .bool b120)]) ?_ ?_
     ·refine W.block ?_; refine W.seq <| W.region <| WL.move rfl rfl ?_; obtain ⟨o122, hv⟩ := hv; refine SL.indexMx 1 XU25 XE22 hS rfl rfl rfl o122 rfl <| WL.load XU22 rfl rfl (hS.mxcell (i := 1) rfl o122) rfl <| WL.assign rfl rfl <| WL.assign rfl rfl <| WL.done <| W.seq <| W.region <| WL.move rfl rfl <| WL.move rfl rfl <| WL.eqlD rfl rfl rfl <| WL.move rfl rfl ?_; by_cases g123 : z115 = z56
      ·have hv := hv.1 g123; rw [decide_eq_true g123]; refine WL.take rfl <| WL.move rfl rfl <| WL.take rfl <| WL.move rfl rfl <| WL.take rfl ?_; obtain ⟨o124, hv⟩ := hv; refine SL.index XU22 XE3 (hS.mxrd (i := 1) rfl o122) rfl rfl o124 rfl <| WL.take rfl <| WL.load XU3 rfl rfl (Rd.gi (hS.mxrd (i := 1) rfl o122) o124) rfl <| WL.take rfl <| WL.neqD rfl rfl rfl <| WL.pick rfl rfl rfl <| WL.move rfl rfl ?_; by_cases g125 : (gi (gl x27 z115) (gi x28 z56)) ≠ (1 : Int)
       ·have hv := hv.1 g125; rw [decide_eq_true g125]; refine WL.pass rfl rfl rfl <| WL.pass rfl rfl rfl <| WL.pass rfl rfl rfl <| WL.pass rfl rfl rfl <| WL.passU rfl rfl <| WL.passU rfl rfl <| WL.passU rfl rfl <| WL.passU rfl rfl <| WL.passU rfl rfl <| WL.pass rfl rfl rfl <| WL.pick rfl rfl rfl <| WL.done <| W.condT rfl <| W.seq <| W.region <| WL.assign rfl rfl <| WL.done <| W.ret <| ⟨_, rfl, Fin.nil ?_⟩
        exact ⟨_, hS.ext, (hS.pick [] rfl).rows, News.of (hS.pick [] rfl).rows rfl, ⟨false, rfl, rfl, hv⟩⟩
       have hv := hv.2 g125; rw [decide_eq_false g125]; refine WL.take rfl <| WL.move rfl rfl <| WL.take rfl <| WL.move rfl rfl <| WL.take rfl <| WL.neqD rfl rfl rfl <| WL.take rfl <| WL.move rfl rfl ?_; by_cases g126 : z115 ≠ z56
       ·have hv := hv.1 g126; rw [decide_eq_true g126]; refine WL.take rfl <| WL.move rfl rfl <| WL.take rfl <| WL.move rfl rfl <| WL.take rfl ?_; obtain ⟨o127, hv⟩ := hv; refine SL.index XU22 XE3 (hS.mxrd (i := 1) rfl o122) rfl rfl o127 rfl <| WL.take rfl <| WL.load XU3 rfl rfl (Rd.gi (hS.mxrd (i := 1) rfl o122) o127) rfl <| WL.take rfl <| WL.neqD rfl rfl rfl <| WL.take rfl <| WL.pick rfl rfl rfl <| WL.pick rfl rfl rfl <| WL.done <| W.cond2 rfl (fun c128 => ?_) (fun c128 => ?_)
        ·have hv := hv.1 (of_decide_eq_true c128); refine W.seq <| W.region <| WL.assign rfl rfl <| WL.done <| W.ret <| ⟨_, rfl, Fin.nil ?_⟩
         exact ⟨_, hS.ext, (hS.pick [] rfl).rows, News.of (hS.pick [] rfl).rows rfl, ⟨false, rfl, rfl, hv⟩⟩
        have hv := hv.2 (of_decide_eq_false c128); refine W.skip ?_; exact ⟨(decide ((gi (gl x27 z115) (gi x28 z56)) ≠ (0 : Int))), ⟨rfl, rfl, rfl, rfl, rfl, rfl, rfl, rfl, rfl, rfl, rfl, rfl, rfl, rfl, rfl, rfl, rfl, rfl, rfl, trivial⟩, rfl, hv, hS⟩
       have hv := hv.2 g126; rw [decide_eq_false g126]; refine WL.pass rfl rfl rfl <| WL.pass rfl rfl rfl <| WL.pass rfl rfl rfl <| WL.pass rfl rfl rfl <| WL.pass rfl rfl rfl <| WL.take rfl <| WL.pick rfl rfl rfl <| WL.pick rfl rfl rfl <| WL.done <| W.condF rfl <| W.skip ?_; exact ⟨false, ⟨rfl, rfl, rfl, rfl, rfl, rfl, rfl, rfl, rfl, rfl, rfl, rfl, rfl, rfl, rfl, rfl, rfl, rfl, rfl, trivial⟩, rfl, hv, hS⟩
      have hv := hv.2 g123; rw [decide_eq_false g123]; refine WL.pass rfl rfl rfl <| WL.pass rfl rfl rfl <| WL.pass rfl rfl rfl <| WL.pass rfl rfl rfl <| WL.pass rfl rfl rfl <| WL.pick rfl rfl rfl <| WL.move rfl rfl <| WL.take rfl <| WL.move rfl rfl <| WL.take rfl <| WL.move rfl rfl <| WL.take rfl <| WL.neqD rfl rfl rfl <| WL.take rfl <| WL.move rfl rfl ?_; by_cases g129 : z115 ≠ z56
      ·have hv := hv.1 g129; rw [decide_eq_true g129]; refine WL.take rfl <| WL.move rfl rfl <| WL.take rfl <| WL.move rfl rfl <| WL.take rfl ?_; obtain ⟨o130, hv⟩ := hv; refine SL.index XU22 XE3 (hS.mxrd (i := 1) rfl o122) rfl rfl o130 rfl <| WL.take rfl <| WL.load XU3 rfl rfl (Rd.gi (hS.mxrd (i := 1) rfl o122) o130) rfl <| WL.take rfl <| WL.neqD rfl rfl rfl <| WL.take rfl <| WL.pick rfl rfl rfl <| WL.pick rfl rfl rfl <| WL.done <| W.cond2 rfl (fun c131 => ?_) (fun c131 => ?_)
       ·have hv := hv.1 (of_decide_eq_true c131); refine W.seq <| W.region <| WL.assign rfl rfl <| WL.done <| W.ret <| ⟨_, rfl, Fin.nil ?_⟩
        exact ⟨_, hS.ext, (hS.pick [] rfl).rows, News.of (hS.pick [] rfl).rows rfl, ⟨false, rfl, rfl, hv⟩⟩
       have hv := hv.2 (of_decide_eq_false c131); refine W.skip ?_; exact ⟨(decide ((gi (gl x27 z115) (gi x28 z56)) ≠ (0 : Int))), ⟨rfl, rfl, rfl, rfl, rfl, rfl, rfl, rfl, rfl, rfl, rfl, rfl, rfl, rfl, rfl, rfl, rfl, rfl, rfl, trivial⟩, rfl, hv, hS⟩
      have hv := hv.2 g129; rw [decide_eq_false g129]; refine WL.pass rfl rfl rfl <| WL.pass rfl rfl rfl <| WL.pass rfl rfl rfl <| WL.pass rfl rfl rfl <| WL.pass rfl rfl rfl <| WL.take rfl <| WL.pick rfl rfl rfl <| WL.pick rfl rfl rfl <| WL.done <| W.condF rfl <| W.skip ?_; exact ⟨false, ⟨rfl, rfl, rfl, rfl, rfl, rfl, rfl, rfl, rfl, rfl, rfl, rfl, rfl, rfl, rfl, rfl, rfl, rfl, rfl, trivial⟩, rfl, hv, hS⟩
     rintro b120 w132 ⟨hv, hS⟩; have hv := hk134 b120 hv; refine W.region ?_; obtain ⟨o133, hv⟩ := hv; refine WL.add (r := (z115 + (1 : Int))) rfl rfl (wr o133) rfl <| WL.move rfl rfl <| WL.done ?_; exact ⟨(z115 + (1 : Int)), ⟨rfl, rfl, rfl, rfl, rfl, rfl, rfl, rfl, rfl, rfl, rfl, rfl, rfl, rfl, rfl, trivial⟩, hv.2, rfl, hv.1, hS⟩
    have hv := hv.2 (of_decide_eq_false c119); refine W.exit <| W.seq <| W.region <| WL.fieldA (off := 1) XA27_1 rfl rfl <| WL.load XU25 rfl rfl (Own.vcells (hS.own (i := 0) rfl) 1 _ rfl) rfl <| WL.move rfl rfl ?_; obtain ⟨o135, hv⟩ := hv; refine SL.indexMx 1 XU25 XE22 hS rfl rfl rfl o135 rfl <| WL.load XU22 rfl rfl (hS.mxcell (i := 1) rfl o135) rfl <| WL.move rfl rfl ?_; obtain ⟨o136, hv⟩ := hv; refine SL.slTo XU22 XE3 (hS.mxrd (i := 1) rfl o135) rfl rfl o136 rfl ((gl x27 z56).take (gi x28 z56).toNat).length (pre_len (hS.mxrd (i := 1) rfl o135) o136) <| WL.len XU22 rfl rfl <| WL.move rfl rfl <| WL.done <| W.block ?_; obtain ⟨I140, μ141, hv, hk147⟩ := hv; refine W.loop (σ := Int) (fun z139 w1 => I140 z139 ∧ St TT w none w1 [.row 27 2 (some ⟨g37, 0, none⟩) 1 1 [.int .i64 c26, .slice A30 x27.length k31], mx 22 3 A30 x27.length k31 hs32 x27, .row 3 1 A34 x28.length k35 (is x28), .row 27 2 (some ⟨g13, 0, none⟩) 1 1 [.int .i64 Cm, .slice Am m.length km], .row 24 3 (some ⟨g11, 0, none⟩) 1 1 [.int .i64 Pf, .int .i64 Mf, .slice Af mf.length kf]]) (fun z139 => [(2, .pointer (some ⟨g11, 0, none⟩)), (3, .pointer (some ⟨g13, 0, none⟩)), (4, .bool false), (5, .pointer (some ⟨g37, 0, none⟩)), (6, .slice A34 x28.length k35), (8, .int .i64 z56), (9, .int .i64 (gi x28 z56)), (81, .slice A34 x28.length k35), (82, .int .i64 ((x28.length : Nat) : Int)), (83, .int .i64 z56), (84, .bool (decide (z56 < ((x28.length : Nat) : Int)))), (108, .bool false), (110, .slice A30 x27.length k31), (111, .int .i64 ((x27.length : Nat) : Int)), (112, .int .i64 z115), (113, .bool (decide (z115 < ((x27.length : Nat) : Int)))), (146, .slice ((hs32 z56.toNat).1) (((gl x27 z56).take (gi x28 z56).toNat).length) ((hs32 z56.toNat).2)), (147, .int .i64 ((((gl x27 z56).take (gi x28 z56).toNat).length : Nat) : Int)), (148, .int .i64 z139)]) (fun z139 => μ141 z139) (0 : Int) ⟨hv, hS⟩ ⟨rfl, rfl, rfl, rfl, rfl, rfl, rfl, rfl, rfl, rfl, rfl, rfl, rfl, rfl, rfl, rfl, rfl, rfl, rfl, trivial⟩ ?_; rintro z139 w142 ⟨hv, hS⟩; have hv := hk147 z139 hv; refine W.seq <| W.region <| WL.lssD rfl rfl rfl <| WL.done <| W.seq <| W.cond2 rfl (fun c143 => ?_) (fun c143 => ?_)
    ·have hv := hv.1 (of_decide_eq_true c143); refine W.skip <| W.seq <| W.block <| W.seq <| W.region ?_; obtain ⟨o144, hv⟩ := hv; refine SL.index XU22 XE3 (Rd.pre (hS.mxrd (i := 1) rfl o135) o136) rfl rfl o144 rfl <| WL.load XU3 rfl rfl (Rd.gi (Rd.pre (hS.mxrd (i := 1) rfl o135) o136) o144) rfl <| WL.assign rfl rfl <| WL.done <| W.seq <| W.region <| WL.move rfl rfl <| WL.neqD rfl rfl rfl <| WL.done <| W.cond2 rfl (fun c145 => ?_) (fun c145 => ?_)
     ·have hv := hv.1 (of_decide_eq_true c145); refine W.seq <| W.region <| WL.assign rfl rfl <| WL.done <| W.ret <| ⟨_, rfl, Fin.nil ?_⟩
      exact ⟨_, hS.ext, (hS.pick [] rfl).rows, News.of (hS.pick [] rfl).rows rfl, ⟨false, rfl, rfl, hv⟩⟩
     have hv := hv.2 (of_decide_eq_false c145); refine W.skip <| W.region ?_; obtain ⟨o146, hv⟩ := hv; refine WL.add (r := (z139 + (1 : Int))) rfl rfl (wr o146) rfl <| WL.move rfl rfl <| WL.done ?_; exact ⟨(z139 + (1 : Int)), ⟨rfl, rfl, rfl, rfl, rfl, rfl, rfl, rfl, rfl, rfl, rfl, rfl, rfl, rfl, rfl, rfl, rfl, rfl, rfl, trivial⟩, hv.2, rfl, hv.1, hS⟩
    have hv := hv.2 (of_decide_eq_false c143); refine W.exit ?_; exact ⟨(false, z115, (decide (z115 < ((x27.length : Nat) : Int))), z139, (decide (z139 < ((((gl x27 z56).take (gi x28 z56).toNat).length : Nat) : Int)))), ⟨rfl, rfl, rfl, rfl, rfl, rfl, rfl, rfl, rfl, rfl, rfl, rfl, rfl, rfl, rfl, rfl, rfl, rfl, rfl, trivial⟩, rfl, hv, hS⟩
   rintro ⟨b61, z62, b63, z67, b68⟩ w149 ⟨hv, hS⟩; have hv := hk151 b61 z62 b63 z67 b68 hv; refine W.region ?_; obtain ⟨o150, hv⟩ := hv; refine WL.add (r := (z56 + (1 : Int))) rfl rfl (wr o150) rfl <| WL.move rfl rfl <| WL.done ?_; exact ⟨(z56 + (1 : Int)), ⟨rfl, rfl, rfl, rfl, rfl, rfl, rfl, rfl, trivial⟩, hv.2, rfl, hv.1, hS⟩
  have hv := hv.2 (of_decide_eq_false c60); refine W.exit <| W.seq <| W.seq <| W.region <| WL.fieldA (off := 1) XA27_1 rfl rfl <| WL.load XU25 rfl rfl (Own.vcells (hS.own (i := 3) rfl) 1 _ rfl) rfl <| WL.len XU25 rfl rfl <| WL.move rfl rfl <| WL.done <| W.block ?_; obtain ⟨I155, μ156, hv, hk194⟩ := hv; refine W.loop (σ := Int) (fun z154 w1 => I155 z154 ∧ St TT w none w1 [.row 27 2 (some ⟨g37, 0, none⟩) 1 1 [.int .i64 c26, .slice A30 x27.length k31], mx 22 3 A30 x27.length k31 hs32 x27, .row 3 1 A34 x28.length k35 (is x28), .row 27 2 (some ⟨g13, 0, none⟩) 1 1 [.int .i64 Cm, .slice Am m.length km], .row 24 3 (some ⟨g11, 0, none⟩) 1 1 [.int .i64 Pf, .int .i64 Mf, .slice Af mf.length kf]]) (fun z154 => [(2, .pointer (some ⟨g11, 0, none⟩)), (4, .bool false), (5, .pointer (some ⟨g37, 0, none⟩)), (6, .slice A34 x28.length k35), (157, .slice Am m.length km), (158, .int .i64 ((m.length : Nat) : Int)), (159, .int .i64 z154)]) (fun z154 => μ156 z154) (0 : Int) ⟨hv, hS⟩ ⟨rfl, rfl, rfl, rfl, rfl, rfl, rfl, trivial⟩ ?_; rintro z154 w157 ⟨hv, hS⟩; have hv := hk194 z154 hv; refine W.seq <| W.region <| WL.lssD rfl rfl rfl <| WL.done <| W.seq <| W.cond2 rfl (fun c158 => ?_) (fun c158 => ?_)
  ·have hv := hv.1 (of_decide_eq_true c158); refine W.skip <| W.seq <| W.block <| W.seq <| W.region ?_; obtain ⟨o159, hv⟩ := hv; refine SL.indexR XU25 XE22 hHm rfl rfl o159 rfl <| WL.load XU22 rfl rfl (hS.cell (RlH.cell hHm o159)) rfl <| WL.assign rfl rfl <| WL.done <| W.seq ?_; obtain ⟨x164, o171, hv⟩ := hv; obtain ⟨x177, o184, hv⟩ := hv; obtain ⟨r187, o189, hv⟩ := hv; have hS0 := hS; refine W.drawX 12 (fun iA => [false, false, false, true, false, false, false, false, true, false, false, false].getD iA false) (fun _ => none) (fun _ v => v) [⟨[], [2], false⟩, ⟨[], [15], true⟩, ⟨[], [6], true⟩, ⟨[1, 2], [], false⟩, ⟨[], [5], true⟩, ⟨[4], [], false⟩, ⟨[], [5], true⟩, ⟨[6], [], false⟩, ⟨[0, 3, 5, 7], [], false⟩, ⟨[], [15], true⟩, ⟨[8, 9], [], false⟩, ⟨[10], [], true⟩] [[(2, .pointer (some ⟨g11, 0, none⟩))], [(15, .slice ((hsm z154.toNat).1) ((gl m z154).length) ((hsm z154.toNat).2))], [(6, .slice A34 x28.length k35)], [], [(5, .pointer (some ⟨g37, 0, none⟩))], [], [(5, .pointer (some ⟨g37, 0, none⟩))], [], [], [(15, .slice ((hsm z154.toNat).1) ((gl m z154).length) ((hsm z154.toNat).2))], [], []] (fun iQ => [fun v _ => v = .agg #[.int .i64 Pf, .int .i64 Mf, .slice Af mf.length kf], fun v _ => v = .slice ((hsm z154.toNat).1) ((gl m z154).length) ((hsm z154.toNat).2), fun v _ => v = .slice A34 x28.length k35, fun v wQ => ∃ A165_3 k166_3, v = .slice A165_3 x164.length k166_3 ∧ Own 0 wQ 3 1 A165_3 x164.length k166_3 (is x164) ∧ (∀ g, bl A165_3 = some g → w157.heap.size ≤ g), fun v _ => v = .pointer (some ((⟨g37, 0, none⟩ : Addr).add 1)), fun v _ => v = .slice A30 x27.length k31, fun v _ => v = .pointer (some ⟨g37, 0, none⟩), fun v _ => v = .int .i64 c26, fun v wQ => ∃ A178_8 k179_8, v = .slice A178_8 x177.length k179_8 ∧ Own 0 wQ 3 1 A178_8 x177.length k179_8 (is x177) ∧ (∀ g, bl A178_8 = some g → w157.heap.size ≤ g), fun v _ => v = .slice ((hsm z154.toNat).1) ((gl m z154).length) ((hsm z154.toNat).2), fun v _ => v = .bool r187, fun v _ => v = .bool (!r187)].getD iQ (fun _ _ => True)) (fun _ => vbD) Try.mixed (by kernel_rfl) ?_ (fun _ _ _ _ _ _ _ h => h) (by kernel_rfl) ?_ ?_
   · refine Vs_monoT _ ?_; intro VQ hVQ vQ wQ1 wQ2 hQ1 hQ2; simp only [List.mem_cons, List.not_mem_nil, or_false] at hVQ; rcases hVQ with rfl | rfl | rfl | rfl | rfl | rfl | rfl | rfl | rfl | rfl | rfl | rfl
     any_goals exact hQ1
     · obtain ⟨A165_3, k166_3, hQe, hO169_3, hN170_3⟩ := hQ1; exact ⟨A165_3, k166_3, hQe, hO169_3.ext hQ2, hN170_3⟩
     obtain ⟨A178_8, k179_8, hQe, hO182_8, hN183_8⟩ := hQ1; exact ⟨A178_8, k179_8, hQe, hO182_8.ext hQ2, hN183_8⟩
   · refine ⟨⟨rfl, ⟨rfl, trivial⟩, ?_⟩, ⟨rfl, ⟨rfl, trivial⟩, ?_⟩, ⟨rfl, ⟨rfl, trivial⟩, ?_⟩, ⟨rfl, trivial, ?_⟩, ⟨rfl, ⟨rfl, trivial⟩, ?_⟩, ⟨rfl, trivial, ?_⟩, ⟨rfl, ⟨rfl, trivial⟩, ?_⟩, ⟨rfl, trivial, ?_⟩, ⟨rfl, trivial, ?_⟩, ⟨rfl, ⟨rfl, trivial⟩, ?_⟩, ⟨rfl, trivial, ?_⟩, ⟨rfl, trivial, ?_⟩, trivial⟩
     · intro w160 hE; have hE := hE rfl; have hS := hS.grow hE; intro RR; refine WL.loadV (cs := [.int .i64 Pf, .int .i64 Mf, .slice Af mf.length kf]) XE24 XG24 rfl rfl (Own.vcells (hS.own (i := 4) rfl)) rfl ?_; exact WL.done ⟨_, rfl, dnq (ext_refl _) rfl rfl rfl⟩
     · intro w161 hE; intro RR; refine WL.move rfl rfl ?_; exact WL.done ⟨_, rfl, dnq rfl rfl rfl rfl⟩
     · intro w162 hE; intro RR; refine WL.move rfl rfl ?_; exact WL.done ⟨_, rfl, dnq rfl rfl rfl rfl⟩
     · intro w163 hE; have hE := hE rfl; have hS := hS.grow hE; rintro _ rfl; rintro _ rfl; intro RR; refine WL.call XF25 rfl XN25 rfl rfl (calls_un (ok_rPick (hS.ro (RlH.row hHm o159)) (hS.rd (i := 2) rfl) o171)) ?_; rintro _ w168 ⟨_, hGw168, hRww168, hNww168, x164q, A165, k166, rfl, rfl, he⟩; subst he; have hO169 := (hRww168.get (i := 0) rfl).1; have hN170 : ∀ g, bl A165 = some g → _ ≤ g := fun g hg => Nat.le_trans hE.size (hNww168.1 g hg); exact WL.done ⟨_, rfl, hGw168, ⟨A165, k166, rfl, hO169, hN170⟩, (fun _ => fun g hg => ⟨hNww168.1 g hg, (hO169.bl_ge g hg).2⟩), (fun j h => by cases h)⟩
     · intro w172 hE; intro RR; refine WL.fieldA (off := 1) XA27_1 rfl rfl ?_; exact WL.done ⟨_, rfl, dnq rfl rfl rfl rfl⟩
     · intro w173 hE; have hE := hE rfl; have hS := hS.grow hE; rintro _ rfl; intro RR; refine WL.load XU25 rfl rfl (Own.vcells (hS.own (i := 0) rfl) 1 _ rfl) rfl ?_; exact WL.done ⟨_, rfl, dnq (ext_refl _) rfl rfl rfl⟩
     · intro w174 hE; intro RR; refine WL.fieldA (off := 0) XA27_0 rfl rfl ?_; exact WL.done ⟨_, rfl, dnq rfl rfl rfl rfl⟩
     · intro w175 hE; have hE := hE rfl; have hS := hS.grow hE; rintro _ rfl; intro RR; refine WL.load XU3 rfl rfl (Own.vcells (hS.own (i := 0) rfl) 0 _ rfl) rfl ?_; exact WL.done ⟨_, rfl, dnq (ext_refl _) rfl rfl rfl⟩
     · intro w176 hE; have hE := hE rfl; have hS := hS.grow hE; rintro _ rfl; rintro _ ⟨A165_3, k166_3, rfl, hO169_3, hN170_3⟩; rintro _ rfl; rintro _ rfl; intro RR; refine WL.call XF24 rfl XN24 rfl rfl (calls_un (ok_rCombine (hS.ro hf) hO169_3.rd (hS.rl (i := 1) rfl) o184)) ?_; rintro _ w181 ⟨_, hGw181, hRww181, hNww181, x177q, A178, k179, rfl, rfl, he⟩; subst he; have hO182 := (hRww181.get (i := 0) rfl).1; have hN183 : ∀ g, bl A178 = some g → _ ≤ g := fun g hg => Nat.le_trans hE.size (hNww181.1 g hg); exact WL.done ⟨_, rfl, hGw181, ⟨A178, k179, rfl, hO182, hN183⟩, (fun _ => fun g hg => ⟨hNww181.1 g hg, (hO182.bl_ge g hg).2⟩), (fun j h => by cases h)⟩
     · intro w185 hE; intro RR; refine WL.move rfl rfl ?_; exact WL.done ⟨_, rfl, dnq rfl rfl rfl rfl⟩
     · intro w186 hE; have hE := hE rfl; have hS := hS.grow hE; rintro _ ⟨A178_8, k179_8, rfl, hO182_8, hN183_8⟩; rintro _ rfl; intro RR; refine WL.call XF21 rfl XN21 rfl rfl (calls_un (ok_rSameInts hO182_8.rd (hS.ro (RlH.row hHm o159)) o189)) ?_; rintro _ w188 ⟨_, hGw188, hRww188, hNww188, r187q, rfl, rfl, he⟩; subst he; exact WL.done ⟨_, rfl, dnq hGw188 rfl rfl rfl⟩
     intro w190 hE; rintro _ rfl; intro RR; refine WL.not rfl rfl ?_; exact WL.done ⟨_, rfl, dnq rfl rfl rfl rfl⟩
   intro vals w191 hT hVs hAp hCp; have hS := hS.grow hT; have hv0 : vals 0 = _ := hVs 0 (by decide); have hv1 : vals 1 = _ := hVs 1 (by decide); have hv2 : vals 2 = _ := hVs 2 (by decide); obtain ⟨A165_3, k166_3, hv3, hO169_3, hN170_3⟩ := hVs 3 (by decide); have hv4 : vals 4 = _ := hVs 4 (by decide); have hv5 : vals 5 = _ := hVs 5 (by decide); have hv6 : vals 6 = _ := hVs 6 (by decide); have hv7 : vals 7 = _ := hVs 7 (by decide); obtain ⟨A178_8, k179_8, hv8, hO182_8, hN183_8⟩ := hVs 8 (by decide); have hv9 : vals 9 = _ := hVs 9 (by decide); have hv10 : vals 10 = _ := hVs 10 (by decide); have hv11 : vals 11 = _ := hVs 11 (by decide); show WA _ _ _ _ _ _ _ _ ([(163, vals 0), (164, vals 1), (165, vals 2), (166, vals 3), (167, vals 4), (168, vals 5), (169, vals 6), (170, vals 7), (171, vals 8), (172, vals 9), (173, vals 10), (174, vals 11)] ++ _) _; rw [hv0, hv1, hv2, hv3, hv4, hv5, hv6, hv7, hv8, hv9, hv10, hv11]; refine WA.done (by decide +kernel) <| W.cond2 rfl (fun c192 => ?_) (fun c192 => ?_)
   ·have hv := hv.1 (c192); refine W.seq <| W.region <| WL.assign rfl rfl <| WL.done <| W.ret <| ⟨_, rfl, Fin.nil ?_⟩
    exact ⟨_, hS.ext, (hS.pick [] rfl).rows, News.of (hS.pick [] rfl).rows rfl, ⟨false, rfl, rfl, hv⟩⟩
   have hv := hv.2 (c192); refine W.skip <| W.region ?_; obtain ⟨o193, hv⟩ := hv; refine WL.add (r := (z154 + (1 : Int))) rfl rfl (wr o193) rfl <| WL.move rfl rfl <| WL.done ?_; exact ⟨(z154 + (1 : Int)), ⟨rfl, rfl, rfl, rfl, rfl, rfl, rfl, trivial⟩, hv.2, rfl, hv.1, hS⟩
  have hv := hv.2 (of_decide_eq_false c158); refine W.exit <| W.seq <| W.region <| WL.assign rfl rfl <| WL.done <| W.ret <| ⟨_, rfl, Fin.nil ?_⟩
  exact ⟨_, hS.ext, (hS.pick [] rfl).rows, News.of (hS.pick [] rfl).rows rfl, ⟨true, rfl, rfl, hv⟩⟩
 have hv := hv.1 g17; refine WL.pass rfl rfl rfl <| WL.pass rfl rfl rfl <| WL.pass rfl rfl rfl <| WL.pick rfl rfl rfl <| WL.done <| W.condT rfl <| W.seq <| W.region <| SL.call hS (ok_awake  hv) XF15 rfl XN15 rfl rfl ?_; rintro _ _ w18 ⟨r19, rfl, rfl, hv⟩ hGw18 hS; have hS := hS.n0; refine WL.assign rfl rfl <| WL.done <| W.ret <| ⟨_, rfl, Fin.nil ?_⟩
 exact ⟨_, hS.ext, (hS.pick [] rfl).rows, News.of (hS.pick [] rfl).rows rfl, ⟨r19, rfl, rfl, hv⟩⟩
end Go.Proofs.Ytiboieijhehjnaa
set_option linter.unusedVariables false
namespace Go.Proofs.Ytiboieijhehjnaa
abbrev Vec := Nat → Int
def tX (m : Nat) (c : Vec) (v : Vec) : Vec := fun i => if i < m then (if i = 0 then 0 else v (i - 1)) - c i * v (m - 1) else 0
def vadd (u v : Vec) : Vec := fun i => u i + v i
def vsm (a : Int) (v : Vec) : Vec := fun i => a * v i
def vz : Vec := fun _ => 0
def e0 : Vec := fun i => if i = 0 then 1 else 0
def tXn (m : Nat) (c : Vec) : Nat → Vec → Vec
  | 0, v => v
  | n + 1, v => tX m c (tXn m c n v)
def opr (m : Nat) (c b : Vec) : Nat → Vec → Vec
  | 0, _ => vz
  | n + 1, v => vadd (opr m c b n v) (vsm (b n) (tXn m c n v))
def vmul (m : Nat) (c a b : Vec) : Vec := opr m c b m a
section
variable (m : Nat) (c : Vec)
theorem tX_add (u v : Vec) : tX m c (vadd u v) = vadd (tX m c u) (tX m c v) := by
 funext i; simp only [tX, vadd]; split
 ·split <;> grind
 ·rfl
theorem tX_sm (a : Int) (v : Vec) : tX m c (vsm a v) = vsm a (tX m c v) := by
 funext i; simp only [tX, vsm]; split
 ·split <;> grind
 ·grind
theorem tX_z : tX m c vz = vz := by funext i; simp [tX, vz]
theorem vadd_z (u : Vec) : vadd u vz = u := by funext i; simp [vadd, vz]
theorem z_vadd (u : Vec) : vadd vz u = u := by funext i; simp [vadd, vz]
theorem vadd_comm (u v : Vec) : vadd u v = vadd v u := by funext i; simp only [vadd]; omega
theorem vadd_assoc (u v w : Vec) : vadd (vadd u v) w = vadd u (vadd v w) := by funext i; simp only [vadd]; omega
theorem vsm_add (a : Int) (u v : Vec) : vsm a (vadd u v) = vadd (vsm a u) (vsm a v) := by funext i; simp only [vadd, vsm]; grind
theorem vsm_sm (a b : Int) (u : Vec) : vsm a (vsm b u) = vsm (a * b) u := by funext i; simp only [vsm]; grind
theorem vsm_z (a : Int) : vsm a vz = vz := by funext i; simp [vsm, vz]
theorem tXn_add (n : Nat) (u v : Vec) : tXn m c n (vadd u v) = vadd (tXn m c n u) (tXn m c n v) := by
 induction n with
 | zero => rfl
 | succ n ih => simp only [tXn, ih, tX_add]
theorem tXn_sm (n : Nat) (a : Int) (v : Vec) : tXn m c n (vsm a v) = vsm a (tXn m c n v) := by
 induction n with
 | zero => rfl
 | succ n ih => simp only [tXn, ih, tX_sm]
theorem tXn_z (n : Nat) : tXn m c n vz = vz := by
 induction n with
 | zero => rfl
 | succ n ih => simp only [tXn, ih, tX_z]
theorem tXn_succ (n : Nat) (v : Vec) : tXn m c n (tX m c v) = tX m c (tXn m c n v) := by
 induction n with
 | zero => rfl
 | succ n ih => simp only [tXn, ih]
theorem tXn_tXn (n k : Nat) (v : Vec) : tXn m c n (tXn m c k v) = tXn m c (n + k) v := by
 induction n with
 | zero => simp [tXn]
 | succ n ih => rw [Nat.succ_add]; simp only [tXn, ih]
variable (b : Vec)
theorem opr_add (n : Nat) (u v : Vec) : opr m c b n (vadd u v) = vadd (opr m c b n u) (opr m c b n v) := by
 induction n with
 | zero => simp [opr, vadd_z]
 | succ n ih => simp only [opr, ih, tXn_add, vsm_add]; funext i; simp only [vadd]; omega
theorem opr_sm (n : Nat) (a : Int) (v : Vec) : opr m c b n (vsm a v) = vsm a (opr m c b n v) := by
 induction n with
 | zero => simp [opr, vsm_z]
 | succ n ih => simp only [opr, ih, tXn_sm, vsm_add, vsm_sm]; rw [Int.mul_comm (b n) a]
theorem opr_z (n : Nat) : opr m c b n vz = vz := by
 induction n with
 | zero => rfl
 | succ n ih => simp only [opr, ih, tXn_z, vsm_z, vadd_z]
theorem opr_tXn (n k : Nat) (v : Vec) : opr m c b n (tXn m c k v) = tXn m c k (opr m c b n v) := by
 induction n with
 | zero => simp [opr, tXn_z]
 | succ n ih => simp only [opr, ih, tXn_add, tXn_sm, tXn_tXn]; rw [Nat.add_comm n k]
theorem opr_comm (d : Vec) (n k : Nat) (v : Vec) : opr m c b n (opr m c d k v) = opr m c d k (opr m c b n v) := by
 induction n with
 | zero => simp only [opr, opr_z]
 | succ n ih => simp only [opr, ih, opr_add, opr_sm, opr_tXn]
theorem opr_vadd (d : Vec) (n : Nat) (v : Vec) : opr m c (vadd b d) n v = vadd (opr m c b n v) (opr m c d n v) := by
 induction n with
 | zero => simp [opr, vadd_z]
 | succ n ih => simp only [opr, ih]; funext i; simp only [vadd, vsm]; grind
end
def vei (k : Nat) : Vec := fun i => if i = k then 1 else 0
theorem tXn_e0 {m : Nat} {c : Vec} : ∀ {k : Nat}, k < m → tXn m c k e0 = vei k
 | 0, _ => rfl
 | k + 1, h => by
  have ih : tXn m c k e0 = vei k := tXn_e0 (by omega); simp only [tXn, ih]; funext i; simp only [tX, vei]; split
  ·rw [if_neg (show ¬ m - 1 = k by omega)]; by_cases h0 : i = 0
   ·subst h0; simp
   ·simp only [h0, if_false]; by_cases h1 : i = k + 1
    ·subst h1; simp
    ·rw [if_neg (by omega), if_neg h1]; simp
  ·rw [if_neg (by omega)]
theorem opr_e0 {m : Nat} {c a : Vec} : ∀ {n : Nat}, n ≤ m → ∀ i, opr m c a n e0 i = if i < n then a i else 0
  | 0, _, i => by simp [opr, vz]
  | n + 1, h, i => by
    simp only [opr, vadd, vsm]
    rw [opr_e0 (n := n) (by omega) i, tXn_e0 (by omega)]
    simp only [vei]
    by_cases h1 : i = n
    · subst h1; simp
    · by_cases h2 : i < n
      · simp [h2, h1, show i < n + 1 by omega]
      · simp [h2, h1, show ¬ i < n + 1 by omega]
def Sup (m : Nat) (v : Vec) : Prop := ∀ i, m ≤ i → v i = 0
theorem opr_self {m : Nat} {c a : Vec} (h : Sup m a) : opr m c a m e0 = a := by
 funext i; rw [opr_e0 (Nat.le_refl m)]; split
 ·rfl
 ·exact (h i (by omega)).symm
theorem Sup.z {m : Nat} : Sup m vz := fun _ _ => rfl
theorem Sup.tX {m : Nat} {c v : Vec} : Sup m (tX m c v) := fun i h => by simp [Go.Proofs.Ytiboieijhehjnaa.tX, show ¬ i < m by omega]
theorem Sup.add {m : Nat} {u v : Vec} (hu : Sup m u) (hv : Sup m v) : Sup m (vadd u v) := fun i h => by simp [vadd, hu i h, hv i h]
theorem Sup.sm {m : Nat} {a : Int} {v : Vec} (hv : Sup m v) : Sup m (vsm a v) := fun i h => by simp [vsm, hv i h]
theorem Sup.tXn {m : Nat} {c v : Vec} (hv : Sup m v) : ∀ n, Sup m (tXn m c n v)
 | 0 => hv
 | _ + 1 => Sup.tX
theorem Sup.opr {m : Nat} {c b v : Vec} (hv : Sup m v) : ∀ n, Sup m (opr m c b n v)
 | 0 => Sup.z
 | n + 1 => (Sup.opr hv n).add (hv.tXn n).sm
theorem vmul_comm {m : Nat} {c a b : Vec} (ha : Sup m a) (hb : Sup m b) : vmul m c a b = vmul m c b a := by
 unfold vmul
 calc opr m c b m a = opr m c b m (opr m c a m e0) := by rw [opr_self ha]
  _ = opr m c a m (opr m c b m e0) := opr_comm ..
  _ = opr m c a m b := by rw [opr_self hb]
theorem vmul_assoc {m : Nat} {c a b d : Vec} (ha : Sup m a) (hb : Sup m b) (hd : Sup m d) : vmul m c (vmul m c a b) d = vmul m c a (vmul m c b d) := by
 rw [vmul_comm (a := a) (b := vmul m c b d) ha (Sup.opr hb m)]; show opr m c d m (opr m c b m a) = opr m c a m (opr m c d m b); rw [← opr_comm m c d a m m b]; show opr m c d m (vmul m c a b) = opr m c d m (vmul m c b a); rw [vmul_comm ha hb]
theorem vmul_add {m : Nat} {c a b d : Vec} : vmul m c a (vadd b d) = vadd (vmul m c a b) (vmul m c a d) := opr_vadd ..
theorem vmul_one {m : Nat} {c a : Vec} (hm : 0 < m) : vmul m c a e0 = a := by
 have key : ∀ n, 0 < n → opr m c e0 n a = a := by
  intro n
  induction n with
  | zero => intro h; omega
  | succ n ih =>
   intro _; rcases Nat.eq_zero_or_pos n with h | h
   ·subst h; funext i; simp [opr, e0, vadd, vsm, vz, tXn]
   ·simp only [opr, ih h]; funext i; simp [e0, vadd, vsm, show n ≠ 0 by omega]
 exact key m hm
def vcg (p : Int) (u v : Vec) : Prop := ∀ i, u i % p = v i % p
section
variable {p : Int} {m : Nat} {c c' u u' v v' b b' : Vec}
theorem vcg.refl (u : Vec) : vcg p u u := fun _ => rfl
theorem vcg.symm (h : vcg p u v) : vcg p v u := fun i => (h i).symm
theorem vcg.trans {w : Vec} (h : vcg p u v) (k : vcg p v w) : vcg p u w := fun i => (h i).trans (k i)
theorem mul_cg {a a' d d' : Int} (h : a % p = a' % p) (k : d % p = d' % p) : (a * d) % p = (a' * d') % p := by
 rw [Int.mul_emod, h, k, ← Int.mul_emod]
theorem add_cg {a a' d d' : Int} (h : a % p = a' % p) (k : d % p = d' % p) : (a + d) % p = (a' + d') % p := by
 rw [Int.add_emod, h, k, ← Int.add_emod]
theorem sub_cg {a a' d d' : Int} (h : a % p = a' % p) (k : d % p = d' % p) : (a - d) % p = (a' - d') % p := by
 rw [Int.sub_emod, h, k, ← Int.sub_emod]
theorem vcg.add (h : vcg p u u') (k : vcg p v v') : vcg p (vadd u v) (vadd u' v') := fun i => add_cg (h i) (k i)
theorem vcg.sm {a a' : Int} (ha : a % p = a' % p) (h : vcg p u u') : vcg p (vsm a u) (vsm a' u') := fun i => mul_cg ha (h i)
theorem vcg.tX (hc : vcg p c c') (h : vcg p u u') : vcg p (tX m c u) (tX m c' u') := fun i => by
 simp only [Go.Proofs.Ytiboieijhehjnaa.tX]; split
 ·split
  ·exact sub_cg rfl (mul_cg (hc i) (h _))
  ·exact sub_cg (h _) (mul_cg (hc i) (h _))
 ·rfl
theorem vcg.tXn (hc : vcg p c c') (h : vcg p u u') : ∀ n, vcg p (tXn m c n u) (tXn m c' n u')
 | 0 => h
 | n + 1 => vcg.tX hc (vcg.tXn hc h n)
theorem vcg.opr (hc : vcg p c c') (hb : vcg p b b') (h : vcg p u u') : ∀ n, vcg p (opr m c b n u) (opr m c' b' n u')
 | 0 => .refl _
 | n + 1 => (vcg.opr hc hb h n).add (vcg.sm (hb n) (vcg.tXn hc h n))
theorem vcg.mul (hc : vcg p c c') (h : vcg p u u') (hb : vcg p b b') : vcg p (vmul m c u b) (vmul m c' u' b') := vcg.opr hc hb h m
end
end Go.Proofs.Ytiboieijhehjnaa
set_option linter.unusedVariables false
namespace Go.Proofs.Ytiboieijhehjnaa
def dv (p x : Nat) : Vec := fun i => ((x / p ^ i % p : Nat) : Int)
def vl (p : Nat) : Nat → Vec → Int
  | 0, _ => 0
  | n + 1, v => v 0 + (p : Int) * vl p n (fun i => v (i + 1))
def Cn (p n : Nat) (v : Vec) : Prop := ∀ i, i < n → 0 ≤ v i ∧ v i < p
def nm (p m : Nat) (v : Vec) : Nat := (vl p m (fun i => v i % (p : Int))).toNat
theorem dv_succ (p x i : Nat) : dv p x (i + 1) = dv p (x / p) i := by
 simp only [dv]; rw [Nat.pow_succ', ← Nat.div_div_eq_div_mul]
theorem dv_zero (p x : Nat) : dv p x 0 = ((x % p : Nat) : Int) := by simp [dv]
theorem Cn.tl {p n : Nat} {v : Vec} (h : Cn p (n + 1) v) : Cn p n (fun i => v (i + 1)) := fun i hi => h (i + 1) (by omega)
theorem vl_bd {p : Nat} (hp : 0 < p) : ∀ {n : Nat} {v : Vec}, Cn p n v → 0 ≤ vl p n v ∧ vl p n v < ((p ^ n : Nat) : Int)
 | 0, v, _ => by simp [vl]
 | n + 1, v, h => by
  have ih := vl_bd hp h.tl; have h0 := h 0 (by omega); simp only [vl]; have h1 : (p : Int) * vl p n (fun i => v (i + 1)) ≤ p * (((p ^ n : Nat) : Int) - 1) := Int.mul_le_mul_of_nonneg_left (by omega) (by omega); have h2 : 0 ≤ (p : Int) * vl p n (fun i => v (i + 1)) := Int.mul_nonneg (by omega) ih.1; have h3 : ((p ^ (n + 1) : Nat) : Int) = p * ((p ^ n : Nat) : Int) := by rw [Nat.pow_succ']; push_cast; rfl
  have h4 : (p : Int) * (((p ^ n : Nat) : Int) - 1) = p * ((p ^ n : Nat) : Int) - p := by rw [Int.mul_sub, Int.mul_one]
  omega
theorem vl_congr {p : Nat} : ∀ {n : Nat} {u v : Vec}, (∀ i, i < n → u i = v i) → vl p n u = vl p n v
 | 0, _, _, _ => rfl
 | n + 1, u, v, h => by simp only [vl]; rw [h 0 (by omega), vl_congr (n := n) fun i hi => h (i + 1) (by omega)]
theorem vl_dv {p : Nat} (hp : 0 < p) : ∀ {n x : Nat}, x < p ^ n → vl p n (dv p x) = x
 | 0, x, h => by simp at h; subst h; rfl
 | n + 1, x, h => by
  simp only [vl]; have : (fun i => dv p x (i + 1)) = dv p (x / p) := by funext i; exact dv_succ p x i
  rw [this, vl_dv hp (n := n) (by rw [Nat.div_lt_iff_lt_mul hp, ← Nat.pow_succ]; exact h), dv_zero]; have := Nat.mod_add_div x p; have h2 : ((x % p + p * (x / p) : Nat) : Int) = (x : Int) := by rw [this]
  push_cast at h2 ⊢; exact h2
theorem dv_vl {p : Nat} (hp : 0 < p) : ∀ {n : Nat} {v : Vec}, Cn p n v → ∀ i, i < n → dv p (vl p n v).toNat i = v i
 | 0, _, _, i, hi => by omega
 | n + 1, v, h, i, hi => by
  have ih := vl_bd hp h.tl; have h0 := h 0 (by omega); obtain ⟨t, ht⟩ := Int.eq_ofNat_of_zero_le ih.1; obtain ⟨a, ha⟩ := Int.eq_ofNat_of_zero_le h0.1; have hv : (vl p (n + 1) v).toNat = a + p * t := by
   simp only [vl]; rw [ht, ha]; have : (a : Int) + (p : Int) * (t : Int) = ((a + p * t : Nat) : Int) := by push_cast; rfl
   rw [this]; rfl
  have hap : a < p := by have := h0.2; rw [ha] at this; omega
  rw [hv]; cases i with
  | zero => rw [dv_zero, Nat.add_mul_mod_self_left, Nat.mod_eq_of_lt hap, ha]
  | succ i =>
   rw [dv_succ]; have h2 : (a + p * t) / p = t := by rw [Nat.add_mul_div_left _ _ hp, Nat.div_eq_of_lt hap, Nat.zero_add]
   have ih2 := dv_vl hp h.tl i (by omega); rw [ht] at ih2; rw [h2]; exact ih2
section
variable {p m : Nat}
theorem md_cn (hp : 0 < p) (v : Vec) (n : Nat) : Cn p n (fun i => v i % (p : Int)) := fun i _ => ⟨Int.emod_nonneg _ (by omega), Int.emod_lt_of_pos _ (by omega)⟩
theorem nm_lt (hp : 0 < p) (v : Vec) : nm p m v < p ^ m := by
 have := vl_bd hp (md_cn hp v m); unfold nm; omega
theorem dv_nm (hp : 0 < p) (v : Vec) {i : Nat} (hi : i < m) : dv p (nm p m v) i = v i % (p : Int) := dv_vl hp (md_cn hp v m) i hi
theorem dv_cn (hp : 0 < p) (x n : Nat) : Cn p n (dv p x) := fun i _ => by
 have := Nat.mod_lt (x / p ^ i) hp; simp only [dv]; omega
theorem dv_hi {x i : Nat} (hx : x < p ^ m) (hi : m ≤ i) : dv p x i = 0 := by
 rcases Nat.eq_zero_or_pos p with rfl | hp
 ·simp only [dv]; cases m with
  | zero =>
   have : x = 0 := by simpa using hx
   subst this; simp
  | succ m => simp at hx
 ·have : x / p ^ i = 0 := Nat.div_eq_of_lt (Nat.lt_of_lt_of_le hx (Nat.pow_le_pow_right hp hi)); simp [dv, this]
theorem dv_sup {x : Nat} (hx : x < p ^ m) : Sup m (dv p x) := fun i hi => dv_hi hx hi
theorem dv_mod (x i : Nat) : dv p x i % (p : Int) = dv p x i := by
 simp only [dv]; rw [← Int.natCast_emod, Nat.mod_mod]
theorem nm_dv (hp : 0 < p) {x : Nat} (hx : x < p ^ m) : nm p m (dv p x) = x := by
 unfold nm; rw [vl_congr (v := dv p x) fun i _ => dv_mod x i, vl_dv hp hx]; rfl
theorem nm_cg {u v : Vec} (h : ∀ i, i < m → u i % (p : Int) = v i % (p : Int)) : nm p m u = nm p m v := by
 unfold nm; rw [vl_congr h]
theorem nm_vcg {u v : Vec} (h : vcg p u v) : nm p m u = nm p m v := nm_cg fun i _ => h i
theorem cg_nm (hp : 0 < p) {v : Vec} (hv : Sup m v) : vcg p (dv p (nm p m v)) v := fun i => by
 rcases Nat.lt_or_ge i m with h | h
 ·rw [dv_nm hp v h, Int.emod_emod]
 ·rw [dv_hi (nm_lt hp v) h, hv i h]
theorem nm_eq (hp : 0 < p) {x : Nat} {v : Vec} (hx : x < p ^ m) (h : ∀ i, i < m → dv p x i = v i % (p : Int)) : nm p m v = x := by
 rw [← nm_dv hp hx]; exact nm_cg fun i hi => by rw [h i hi, Int.emod_emod]
end
def fadd (p m x y : Nat) : Nat := nm p m (vadd (dv p x) (dv p y))
def fneg (p m x : Nat) : Nat := nm p m (vsm (-1) (dv p x))
def fmul (p m : Nat) (c : Vec) (x y : Nat) : Nat := nm p m (vmul m c (dv p x) (dv p y))
section
variable {p m : Nat} {c : Vec}
theorem fadd_lt (hp : 0 < p) (x y : Nat) : fadd p m x y < p ^ m := nm_lt hp _
theorem fneg_lt (hp : 0 < p) (x : Nat) : fneg p m x < p ^ m := nm_lt hp _
theorem fmul_lt (hp : 0 < p) (x y : Nat) : fmul p m c x y < p ^ m := nm_lt hp _
theorem dv_fadd (hp : 0 < p) {x y : Nat} (hx : x < p ^ m) (hy : y < p ^ m) : vcg p (dv p (fadd p m x y)) (vadd (dv p x) (dv p y)) := cg_nm hp ((dv_sup hx).add (dv_sup hy))
theorem dv_fneg (hp : 0 < p) {x : Nat} (hx : x < p ^ m) : vcg p (dv p (fneg p m x)) (vsm (-1) (dv p x)) := cg_nm hp (dv_sup hx).sm
theorem vmul_sup {a b : Vec} (ha : Sup m a) : Sup m (vmul m c a b) := Sup.opr ha m
theorem dv_fmul (hp : 0 < p) {x y : Nat} (hx : x < p ^ m) : vcg p (dv p (fmul p m c x y)) (vmul m c (dv p x) (dv p y)) := cg_nm hp (vmul_sup (dv_sup hx))
theorem fadd_comm (x y : Nat) : fadd p m x y = fadd p m y x := by unfold fadd; rw [vadd_comm]
theorem fadd_assoc (hp : 0 < p) {x y z : Nat} (hx : x < p ^ m) (hy : y < p ^ m) (hz : z < p ^ m) : fadd p m (fadd p m x y) z = fadd p m x (fadd p m y z) := by
 show nm p m (vadd (dv p (fadd p m x y)) (dv p z)) = nm p m (vadd (dv p x) (dv p (fadd p m y z))); rw [nm_vcg ((dv_fadd hp hx hy).add (vcg.refl _)), nm_vcg ((vcg.refl (p := p) (dv p x)).add (dv_fadd hp hy hz)), vadd_assoc]
theorem dv_z (p : Nat) : dv p 0 = vz := by funext i; simp [dv, vz]
theorem fadd_zero (hp : 0 < p) {x : Nat} (hx : x < p ^ m) : fadd p m x 0 = x := by unfold fadd; rw [dv_z, vadd_z, nm_dv hp hx]
theorem fadd_neg (hp : 0 < p) {x : Nat} (hx : x < p ^ m) : fadd p m x (fneg p m x) = 0 := by
 show nm p m (vadd (dv p x) (dv p (fneg p m x))) = 0; rw [nm_vcg ((vcg.refl (p := p) (dv p x)).add (dv_fneg hp hx))]; have : vadd (dv p x) (vsm (-1) (dv p x)) = vz := by funext i; simp only [vadd, vsm, vz]; omega
 rw [this, ← dv_z p, nm_dv hp (by exact Nat.pow_pos hp)]
theorem fmul_comm {x y : Nat} (hx : x < p ^ m) (hy : y < p ^ m) : fmul p m c x y = fmul p m c y x := by
 unfold fmul; rw [vmul_comm (dv_sup hx) (dv_sup hy)]
theorem fmul_assoc (hp : 0 < p) {x y z : Nat} (hx : x < p ^ m) (hy : y < p ^ m) (hz : z < p ^ m) : fmul p m c (fmul p m c x y) z = fmul p m c x (fmul p m c y z) := by
 show nm p m (vmul m c (dv p (fmul p m c x y)) (dv p z)) = nm p m (vmul m c (dv p x) (dv p (fmul p m c y z))); rw [nm_vcg (vcg.mul (vcg.refl c) (dv_fmul hp hx) (vcg.refl _)), nm_vcg (vcg.mul (vcg.refl c) (vcg.refl (dv p x)) (dv_fmul hp hy)), vmul_assoc (dv_sup hx) (dv_sup hy) (dv_sup hz)]
theorem dv_one (hp : 2 ≤ p) : dv p 1 = e0 := by
 funext i; cases i with
 | zero => rw [dv_zero, Nat.mod_eq_of_lt (by omega)]; rfl
 | succ i =>
  have : (1 : Nat) / p ^ (i + 1) = 0 := Nat.div_eq_of_lt (Nat.one_lt_pow (by omega) (by omega)); simp [dv, this, e0]
theorem fmul_one (hp : 2 ≤ p) (hm : 0 < m) {x : Nat} (hx : x < p ^ m) : fmul p m c x 1 = x := by
 unfold fmul; rw [dv_one hp, vmul_one hm, nm_dv (by omega) hx]
theorem fmul_zero (hp : 0 < p) {x : Nat} (hx : x < p ^ m) : fmul p m c x 0 = 0 := by
 rw [fmul_comm hx (Nat.pow_pos hp)]; unfold fmul; rw [dv_z]; have : vmul m c vz (dv p x) = vz := opr_z ..; rw [this, ← dv_z p, nm_dv hp (Nat.pow_pos hp)]
theorem fmul_add (hp : 0 < p) {x y z : Nat} (hx : x < p ^ m) (hy : y < p ^ m) (hz : z < p ^ m) : fmul p m c x (fadd p m y z) = fadd p m (fmul p m c x y) (fmul p m c x z) := by
 show nm p m (vmul m c (dv p x) (dv p (fadd p m y z))) = nm p m (vadd (dv p (fmul p m c x y)) (dv p (fmul p m c x z))); rw [nm_vcg (vcg.mul (vcg.refl c) (vcg.refl (dv p x)) (dv_fadd hp hy hz)), nm_vcg ((dv_fmul (c := c) hp hx).add (dv_fmul hp hx)), vmul_add]
end
structure CR (q : Nat) (A M : Nat → Nat → Nat) : Prop where
  q2 : 2 ≤ q
  Al : ∀ x y, A x y < q
  Ml : ∀ x y, M x y < q
  Ac : ∀ x y, A x y = A y x
  Aa : ∀ {x y z}, x < q → y < q → z < q → A (A x y) z = A x (A y z)
  Az : ∀ {x}, x < q → A x 0 = x
  An : ∀ {x}, x < q → ∃ y, y < q ∧ A x y = 0
  Mc : ∀ {x y}, x < q → y < q → M x y = M y x
  Ma : ∀ {x y z}, x < q → y < q → z < q → M (M x y) z = M x (M y z)
  M1 : ∀ {x}, x < q → M x 1 = x
  M0 : ∀ {x}, x < q → M x 0 = 0
  Md : ∀ {x y z}, x < q → y < q → z < q → M x (A y z) = A (M x y) (M x z)
theorem CR.mk' {p m : Nat} (c : Vec) (hp : 2 ≤ p) (hm : 0 < m) : CR (p ^ m) (fadd p m) (fmul p m c) where
 q2 := Nat.le_trans hp (by have := Nat.pow_le_pow_right (n := p) (by omega) hm; simpa using this)
 Al := fadd_lt (by omega)
 Ml := fmul_lt (by omega)
 Ac := fadd_comm
 Aa := fadd_assoc (by omega)
 Az := fadd_zero (by omega)
 An := fun {x} hx => ⟨fneg p m x, fneg_lt (by omega) x, fadd_neg (by omega) hx⟩
 Mc := fmul_comm
 Ma := fmul_assoc (by omega)
 M1 := fmul_one hp hm
 M0 := fmul_zero (by omega)
 Md := fmul_add (by omega)
end Go.Proofs.Ytiboieijhehjnaa
set_option linter.unusedVariables false
namespace Go.Proofs.Ytiboieijhehjnaa
def pw (M : Nat → Nat → Nat) (g : Nat) : Nat → Nat
  | 0 => 1
  | k + 1 => M (pw M g k) g
theorem php : ∀ (n : Nat) (f : Nat → Nat), (∀ i, i < n + 1 → f i < n) → ∃ i j, i < j ∧ j < n + 1 ∧ f i = f j
 | 0, f, h => absurd (h 0 (by omega)) (by omega)
 | n + 1, f, h => by
  by_cases hc : ∃ i, i < n + 1 ∧ f i = f (n + 1)
  ·obtain ⟨i, hi, he⟩ := hc; exact ⟨i, n + 1, hi, by omega, he⟩
  ·have hv := h (n + 1) (by omega); obtain ⟨i, j, hij, hj, he⟩ := php n (fun i => if f i = n then f (n + 1) else f i) (fun i hi => by
    have hne : f i ≠ f (n + 1) := fun e => hc ⟨i, hi, e⟩; have := h i (by omega); show (if f i = n then f (n + 1) else f i) < n; split
    ·omega
    ·omega)
   refine ⟨i, j, hij, by omega, ?_⟩; have hi1 : f i ≠ f (n + 1) := fun e => hc ⟨i, by omega, e⟩; have hj1 : f j ≠ f (n + 1) := fun e => hc ⟨j, by omega, e⟩; split at he <;> split at he <;> omega
theorem surj_of_inj {n : Nat} {f : Nat → Nat} (hb : ∀ i, i < n → f i < n) (hi : ∀ i j, i < j → j < n → f i ≠ f j) {y : Nat} (hy : y < n) : ∃ i, i < n ∧ f i = y := by
 obtain ⟨i, j, hij, hj, he⟩ := php n (fun i => if i < n then f i else y) (fun i _ => by
  show (if i < n then f i else y) < n; split
  ·rename_i h; exact hb i h
  ·exact hy)
 rcases Nat.lt_or_ge j n with h | h
 ·rw [if_pos h, if_pos (show i < n by omega)] at he; exact absurd he (hi i j hij h)
 ·rw [if_neg (show ¬ j < n by omega), if_pos (show i < n by omega)] at he; exact ⟨i, by omega, he⟩
section
variable {q : Nat} {A M : Nat → Nat → Nat} (R : CR q A M)
include R
namespace CR
theorem one_lt : 1 < q := R.q2
theorem pos : 0 < q := by have := R.q2; omega
theorem I1 {x : Nat} (hx : x < q) : M 1 x = x := by rw [R.Mc R.one_lt hx, R.M1 hx]
theorem Z0 {x : Nat} (hx : x < q) : M 0 x = 0 := by rw [R.Mc R.pos hx, R.M0 hx]
theorem zA {x : Nat} (hx : x < q) : A 0 x = x := by rw [R.Ac, R.Az hx]
theorem pw_lt (g : Nat) : ∀ k, pw M g k < q
 | 0 => R.one_lt
 | k + 1 => R.Ml _ _
theorem pw_one {g : Nat} (hg : g < q) : pw M g 1 = g := R.I1 hg
theorem pw_add {g : Nat} (hg : g < q) (i : Nat) : ∀ j, pw M g (i + j) = M (pw M g i) (pw M g j)
 | 0 => (R.M1 (R.pw_lt g i)).symm
 | j + 1 => by
  show M (pw M g (i + j)) g = M (pw M g i) (M (pw M g j) g); rw [pw_add hg i j, R.Ma (R.pw_lt g i) (R.pw_lt g j) hg]
theorem pw_pw {g : Nat} (hg : g < q) (i : Nat) : ∀ j, pw M (pw M g i) j = pw M g (i * j)
 | 0 => rfl
 | j + 1 => by
  show M (pw M (pw M g i) j) (pw M g i) = _; rw [pw_pw hg i j, ← R.pw_add hg]; rfl
theorem one_pw : ∀ j, pw M 1 j = 1
 | 0 => rfl
 | j + 1 => by show M (pw M 1 j) 1 = 1; rw [one_pw j, R.M1 R.one_lt]
theorem zero_pw {n : Nat} (h : 0 < n) : pw M 0 n = 0 := by
 cases n with
 | zero => omega
 | succ n => exact R.M0 (R.pw_lt 0 n)
end CR
end
structure Gn (q : Nat) (M : Nat → Nat → Nat) (g : Nat) : Prop where
  lt : g < q
  one : pw M g (q - 1) = 1
  no : ∀ k, 0 < k → k < q - 1 → pw M g k ≠ 1
namespace Gn
variable {q g : Nat} {A M : Nat → Nat → Nat}
theorem per (G : Gn q M g) (R : CR q A M) (i k : Nat) : pw M g (i + (q - 1) * k) = pw M g i := by
 rw [R.pw_add G.lt, ← R.pw_pw G.lt, G.one, R.one_pw, R.M1 (R.pw_lt g i)]
theorem ne0 (G : Gn q M g) (R : CR q A M) (k : Nat) : pw M g k ≠ 0 := fun h => by
 have h1 := G.per R 0 (k + 1); have hq := R.q2; rw [Nat.zero_add] at h1; have : (q - 1) * (k + 1) = k + ((q - 1) * (k + 1) - k) := by
  have : k + 1 ≤ (q - 1) * (k + 1) := Nat.le_mul_of_pos_left _ (by omega); omega
 rw [this, R.pw_add G.lt, h, R.Z0 (R.pw_lt g _)] at h1; exact absurd h1 (by show ¬ (0 : Nat) = 1; omega)
theorem inj (G : Gn q M g) (R : CR q A M) {i j : Nat} (hij : i < j) (hj : j < q - 1) : pw M g i ≠ pw M g j := fun h => by
 have e1 : M (pw M g i) (pw M g (q - 1 - i)) = 1 := by rw [← R.pw_add G.lt, show i + (q - 1 - i) = q - 1 by omega, G.one]
 have e2 : M (pw M g j) (pw M g (q - 1 - i)) = pw M g (j - i) := by
  rw [← R.pw_add G.lt, show j + (q - 1 - i) = (j - i) + (q - 1) * 1 by omega, G.per R]
 rw [h] at e1; exact G.no (j - i) (by omega) (by omega) (e2.symm.trans e1)
theorem surj (G : Gn q M g) (R : CR q A M) {x : Nat} (h0 : 0 < x) (hx : x < q) : ∃ k, k < q - 1 ∧ pw M g k = x := by
 obtain ⟨i, hi, he⟩ := surj_of_inj (n := q - 1) (f := fun k => pw M g k - 1) (fun i hi => by
  have := R.pw_lt g i; have := G.ne0 R i; show pw M g i - 1 < q - 1; omega) (fun i j hij hj he => by
  have h1 := G.ne0 R i; have h2 := G.ne0 R j; exact G.inj R hij hj (by omega)) (y := x - 1) (by omega)
 have := G.ne0 R i; exact ⟨i, hi, by omega⟩
open Classical in
noncomputable def lg (q : Nat) (M : Nat → Nat → Nat) (g x : Nat) : Nat := if h : ∃ k, k < q - 1 ∧ pw M g k = x then Classical.choose h else 0
theorem xone (G : Gn q M g) (R : CR q A M) {x : Nat} (h0 : 0 < x) (hx : x < q) : pw M x (q - 1) = 1 := by
  obtain ⟨k, hk, rfl⟩ := G.surj R h0 hx
  rw [R.pw_pw G.lt, Nat.mul_comm, ← R.pw_pw G.lt, G.one, R.one_pw]
end Gn
end Go.Proofs.Ytiboieijhehjnaa
set_option linter.unusedVariables false
namespace Go.Proofs.Ytiboieijhehjnaa
structure IsLf (n d : Nat) : Prop where
  two : 2 ≤ d
  dvd : n % d = 0
  min : ∀ e, 2 ≤ e → n % e = 0 → d ≤ e
def choose : Nat → Nat → Nat
  | _, 0 => 1
  | 0, _ + 1 => 0
  | n + 1, k + 1 => choose n k + choose n (k + 1)
section
variable {q : Nat} {A M : Nat → Nat → Nat} (R : CR q A M)
include R
namespace CR
theorem Aac {a b c : Nat} (ha : a < q) (hb : b < q) (hc : c < q) : A (A a b) c = A (A a c) b := by
 rw [R.Aa ha hb hc, R.Ac b c, ← R.Aa ha hc hb]
theorem A4 {a b c d : Nat} (ha : a < q) (hb : b < q) (hc : c < q) (hd : d < q) : A (A a b) (A c d) = A (A a c) (A b d) := by
 rw [← R.Aa (R.Al a b) hc hd, R.Aac ha hb hc, R.Aa (R.Al a c) hb hd]
end CR
end
end Go.Proofs.Ytiboieijhehjnaa
set_option linter.unusedVariables false
namespace Go.Proofs.Ytiboieijhehjnaa
def hz (m : Nat) (c b y : Vec) (n : Nat) : Nat → Vec
  | 0 => vz
  | k + 1 => vadd (tX m c (hz m c b y n k)) (vsm (b (n - 1 - k)) y)
theorem hz_opr {m : Nat} {c b y : Vec} {n : Nat} : ∀ {k : Nat}, k ≤ n → vadd (tXn m c (n - k) (hz m c b y n k)) (opr m c b (n - k) y) = opr m c b n y
 | 0, _ => by simp only [hz, Nat.sub_zero]; rw [tXn_z, z_vadd]
 | k + 1, h => by
  have ih := hz_opr (m := m) (c := c) (b := b) (y := y) (n := n) (k := k) (by omega); obtain ⟨r, hr⟩ : ∃ r, n - k = r + 1 := ⟨n - k - 1, by omega⟩
  rw [show n - (k + 1) = r by omega]; rw [hr] at ih; rw [← ih]; show vadd (tXn m c r (vadd (tX m c (hz m c b y n k)) (vsm (b (n - 1 - k)) y))) (opr m c b r y) = vadd (tX m c (tXn m c r (hz m c b y n k))) (vadd (opr m c b r y) (vsm (b r) (tXn m c r y))); rw [tXn_add, tXn_sm, tXn_succ, show n - 1 - k = r by omega, vadd_assoc, vadd_comm (vsm _ _)]
theorem hz_all (m : Nat) (c b y : Vec) (n : Nat) : hz m c b y n n = opr m c b n y := by
 have := hz_opr (m := m) (c := c) (b := b) (y := y) (n := n) (k := n) (Nat.le_refl n); rw [Nat.sub_self] at this; rw [← this]; exact (vadd_z _).symm
def dgl (p : Nat) : Nat → Nat → List Nat
  | 0, _ => []
  | n + 1, x => (x % p) :: dgl p n (x / p)
theorem dgl_len (p : Nat) : ∀ n x, (dgl p n x).length = n
 | 0, _ => rfl
 | n + 1, x => by simp [dgl, dgl_len p n]
theorem dgl_at (p : Nat) : ∀ n x i, i < n → (((dgl p n x).getD i 0 : Nat) : Int) = dv p x i
 | 0, _, i, h => by omega
 | n + 1, x, 0, _ => by rw [dv_zero]; rfl
 | n + 1, x, i + 1, h => by
  show (((dgl p n (x / p)).getD i 0 : Nat) : Int) = _; rw [dgl_at p n (x / p) i (by omega), dv_succ]
@[reducible] noncomputable def hd0 (l : List Nat) : Nat := List.rec (motive := fun _ => Nat) 0 (fun x _ _ => x) l
@[reducible] noncomputable def tl0 (l : List Nat) : List Nat := List.rec (motive := fun _ => List Nat) [] (fun _ l _ => l) l
noncomputable def go (p a top : Nat) (cs : List Nat) : Nat → List Nat → List Nat → List Nat :=
  List.rec (motive := fun _ => Nat → List Nat → List Nat → List Nat) (fun _ _ _ => [])
    (fun c _ ih prev us ys => ((prev + (p - c) * top + a * hd0 ys) % p) :: ih (hd0 us) (tl0 us) (tl0 ys)) cs
noncomputable def tp (l : List Nat) : Nat → Nat := List.rec (motive := fun _ => Nat → Nat) (fun d => d) (fun x _ ih _ => ih x) l
noncomputable def mulL (p : Nat) (cs ys gs : List Nat) : List Nat → List Nat :=
  List.rec (motive := fun _ => List Nat → List Nat) (fun acc => acc) (fun g _ ih acc => ih (go p g (tp acc 0) cs 0 acc ys)) gs
noncomputable def az (l : List Nat) : Bool := List.rec (motive := fun _ => Bool) true (fun x _ ih => bif Nat.beq x 0 then ih else false) l
noncomputable def is1 (l : List Nat) : Bool := List.rec (motive := fun _ => Bool) false (fun x t _ => bif Nat.beq x 1 then az t else false) l
noncomputable def run (p : Nat) (cs gs : List Nat) (n : Nat) : List Nat → Bool :=
  Nat.rec (motive := fun _ => List Nat → Bool) (fun y => is1 y) (fun _ ih y => bif is1 y then false else ih (mulL p cs y gs y)) n
noncomputable def subm (p c : Nat) (al : List Nat) : List Nat → List Nat :=
  List.rec (motive := fun _ => List Nat → List Nat) (fun bs => bs) (fun a _ ih bs => ((hd0 bs + (p - a) * c) % p) :: ih (tl0 bs)) al
noncomputable def dvg (p : Nat) (low : List Nat) (k : Nat) : List Nat → Bool :=
  Nat.rec (motive := fun _ => List Nat → Bool) (fun r => az r) (fun _ ih r => ih (subm p (hd0 r) low (tl0 r))) k
noncomputable def nob (f : Nat → Bool) (n : Nat) : Bool := Nat.rec (motive := fun _ => Bool) true (fun i ih => bif f i then false else ih) n
noncomputable def irrB (p m : Nat) (ml : List Nat) : Bool :=
  nob (fun d => !nob (fun w => dvg p (dgl p (d + 1) w).reverse (m - d) (1 :: ml.reverse)) (p ^ (d + 1))) (m / 2)
noncomputable def cand (p c : Nat) : List Nat := bif Nat.blt c p then [c] else bif Nat.blt c (p + p * p) then [(c - p) / p, (c - p) % p] else [(c - p - p * p) / (p * p), (c - p - p * p) / p % p, (c - p - p * p) % p]
noncomputable def gen1 (p m : Nat) (cs gs : List Nat) : Bool := run p cs gs (p ^ m - 2) (mulL p cs (dgl p m 1) gs (dgl p m 1))
noncomputable def genB (p m : Nat) (cs : List Nat) : Bool := !nob (fun c => gen1 p m cs (cand p (p + p * p + p * p * p - 1 - c))) (p + p * p + p * p * p)
noncomputable def chk (p m lo n : Nat) : Bool := nob (fun v => bif irrB p m (dgl p m (lo + v)) then !genB p m (dgl p m (lo + v)) else false) n

theorem hd0_eq (l : List Nat) : hd0 l = l.getD 0 0 := by cases l <;> rfl
theorem tl0_at (l : List Nat) (i : Nat) : (tl0 l).getD i 0 = l.getD (i + 1) 0 := by cases l <;> rfl
theorem tl0_len (l : List Nat) : (tl0 l).length = l.length - 1 := by cases l <;> simp [tl0]
theorem go_cons (p a top c : Nat) (cs : List Nat) (prev : Nat) (us ys : List Nat) : go p a top (c :: cs) prev us ys = ((prev + (p - c) * top + a * hd0 ys) % p) :: go p a top cs (hd0 us) (tl0 us) (tl0 ys) := rfl
theorem go_len (p a top : Nat) : ∀ (cs : List Nat) (prev : Nat) (us ys : List Nat), (go p a top cs prev us ys).length = cs.length
 | [], _, _, _ => rfl
 | c :: cs, prev, us, ys => by rw [go_cons, List.length_cons, go_len p a top cs, List.length_cons]
theorem go_at (p a top : Nat) : ∀ (cs : List Nat) (prev : Nat) (us ys : List Nat) (i : Nat), i < cs.length → (go p a top cs prev us ys).getD i 0 = ((if i = 0 then prev else us.getD (i - 1) 0) + (p - cs.getD i 0) * top + a * ys.getD i 0) % p
 | [], _, _, _, i, h => by simp at h
 | c :: cs, prev, us, ys, 0, _ => by rw [go_cons, hd0_eq]; rfl
 | c :: cs, prev, us, ys, i + 1, h => by
  rw [go_cons]; show (go p a top cs (hd0 us) (tl0 us) (tl0 ys)).getD i 0 = _; rw [go_at p a top cs _ _ _ i (by simpa using h)]; cases i with
  | zero => rw [if_pos rfl, if_neg (by omega), hd0_eq, tl0_at]; rfl
  | succ i => rw [if_neg (by omega), if_neg (by omega), tl0_at, tl0_at]; rfl
theorem tp_eq : ∀ (l : List Nat) (d : Nat), 0 < l.length → tp l d = l.getD (l.length - 1) 0
 | [], _, h => by simp at h
 | [x], d, _ => rfl
 | x :: y :: l, d, _ => by
  show tp (y :: l) x = _; rw [tp_eq (y :: l) x (by simp)]; simp
def Rep (p m : Nat) (L : List Nat) (v : Vec) : Prop := L.length = m ∧ ∀ i, i < m → ((L.getD i 0 : Nat) : Int) = v i % (p : Int)
def hl (m : Nat) (c y : Vec) : List Nat → Vec → Vec
  | [], u => u
  | g :: gs, u => hl m c y gs (vadd (tX m c u) (vsm g y))
theorem Rep.step {p m : Nat} {cs us ys : List Nat} {c u y : Vec} (hp : 0 < p) (hm : 0 < m) (hc : Rep p m cs c) (hu : Rep p m us u) (hy : Rep p m ys y) (g : Nat) :
  Rep p m (go p g (tp us 0) cs 0 us ys) (vadd (tX m c u) (vsm g y)) := by
 refine ⟨by rw [go_len, hc.1], fun i hi => ?_⟩; rw [go_at _ _ _ _ _ _ _ _ (by rw [hc.1]; exact hi), tp_eq _ _ (by rw [hu.1]; exact hm), hu.1]; have h1 := hu.2 (m - 1) (by omega); have h2 := hc.2 i hi; have h3 := hy.2 i hi; have hlt : cs.getD i 0 ≤ p := by
  have := Int.emod_lt_of_pos (c i) (show (0 : Int) < p by omega); omega
 have e : (((if i = 0 then 0 else us.getD (i - 1) 0) : Nat) : Int) % p = (if i = 0 then (0 : Int) else u (i - 1)) % p := by
  split
  ·rfl
  ·rw [hu.2 (i - 1) (by omega), Int.emod_emod]
 simp only [vadd, vsm, tX, if_pos hi]; generalize (if i = 0 then 0 else us.getD (i - 1) 0 : Nat) = A at *
 generalize (if i = 0 then (0 : Int) else u (i - 1)) = B at *
 generalize us.getD (m - 1) 0 = T at *
 generalize cs.getD i 0 = C at *
 generalize ys.getD i 0 = Y at *
 have hT : ((T : Nat) : Int) % p = u (m - 1) % p := by rw [h1, Int.emod_emod]
 have hC : ((C : Nat) : Int) % p = c i % p := by rw [h2, Int.emod_emod]
 have hY : ((Y : Nat) : Int) % p = y i % p := by rw [h3, Int.emod_emod]
 obtain ⟨D, hD⟩ : ∃ D, p = C + D := ⟨p - C, by omega⟩
 have hsub : p - C = D := by omega
 rw [hsub]; have hcast : ((A + D * T + g * Y : Nat) : Int) = ((A : Int) - C * T + g * Y) + p * T := by
  have : (p : Int) = C + D := by omega
  rw [this]; push_cast; rw [Int.add_mul]; omega
 rw [Int.natCast_emod, hcast, Int.add_mul_emod_self_left]; exact add_cg (sub_cg e (mul_cg hC hT)) (mul_cg rfl hY)
theorem mulL_cons (p : Nat) (cs ys : List Nat) (g : Nat) (gs acc : List Nat) : mulL p cs ys (g :: gs) acc = mulL p cs ys gs (go p g (tp acc 0) cs 0 acc ys) := rfl
theorem Rep.mul {p m : Nat} {cs ys : List Nat} {c y : Vec} (hp : 0 < p) (hm : 0 < m) (hc : Rep p m cs c) (hy : Rep p m ys y) : ∀ {gs us : List Nat} {u : Vec}, Rep p m us u → Rep p m (mulL p cs ys gs us) (hl m c y gs u)
 | [], _, _, h => h
 | g :: gs, us, u, h => by rw [mulL_cons]; exact Rep.mul hp hm hc hy (Rep.step hp hm hc h hy g)
theorem hl_sup {m : Nat} {c y : Vec} (hy : Sup m y) : ∀ {gs : List Nat} {u : Vec}, Sup m u → Sup m (hl m c y gs u)
 | [], _, h => h
 | g :: gs, u, h => hl_sup (gs := gs) (u := vadd (tX m c u) (vsm g y)) hy (Sup.add Sup.tX hy.sm)
theorem hl_opr {m : Nat} {c y : Vec} (hy : Sup m y) : ∀ {gs : List Nat} {U : Vec}, hl m c y gs (opr m c y m U) = opr m c y m (hl m c e0 gs U)
  | [], _ => rfl
  | g :: gs, U => by
    show hl m c y gs (vadd (tX m c (opr m c y m U)) (vsm g y)) = opr m c y m (hl m c e0 gs (vadd (tX m c U) (vsm g e0)))
    rw [← hl_opr hy, opr_add, opr_sm, opr_self hy]
    have := opr_tXn m c y m 1 U
    rw [show tXn m c 1 U = tX m c U from rfl, show tXn m c 1 (opr m c y m U) = tX m c (opr m c y m U) from rfl] at this
    rw [this]
theorem e0_sup {m : Nat} (hm : 0 < m) : Sup m e0 := fun i hi => by simp [e0, show i ≠ 0 by omega]
theorem hl_mul {m : Nat} {c y : Vec} (hm : 0 < m) (hy : Sup m y) (gs : List Nat) : hl m c y gs y = vmul m c y (hl m c e0 gs e0) := by
 rw [vmul_comm hy (hl_sup (e0_sup hm) (e0_sup hm))]; show _ = opr m c y m (hl m c e0 gs e0); rw [← hl_opr hy, opr_self hy]
theorem Rep.dv {p m x : Nat} : Rep p m (dgl p m x) (dv p x) := ⟨dgl_len p m x, fun i hi => by rw [dgl_at p m x i hi, dv_mod]⟩
theorem Rep.cg {p m : Nat} {L : List Nat} {u v : Vec} (h : Rep p m L u) (hv : ∀ i, i < m → u i % (p : Int) = v i % (p : Int)) : Rep p m L v := ⟨h.1, fun i hi => by rw [h.2 i hi, hv i hi]⟩
theorem az_cons (x : Nat) (l : List Nat) : az (x :: l) = bif Nat.beq x 0 then az l else false := rfl
theorem az_iff : ∀ l : List Nat, az l = true ↔ ∀ i, i < l.length → l.getD i 0 = 0
 | [] => ⟨fun _ i h => by simp at h, fun _ => rfl⟩
 | x :: l => by
  rw [az_cons]; cases hx : Nat.beq x 0 with
  | true =>
   have := Nat.eq_of_beq_eq_true hx; subst this; rw [show (bif true then az l else false) = az l from rfl, az_iff l]; constructor
   ·intro h i hi; cases i with
    | zero => rfl
    | succ i => exact h i (by simpa using hi)
   ·intro h i hi; exact h (i + 1) (by simpa using hi)
  | false =>
   rw [show (bif false then az l else false) = false from rfl]; constructor
   ·intro h; cases h
   ·intro h; have := h 0 (by simp); simp only [List.getD_cons_zero] at this; subst this; cases hx
theorem is1_iff {p m x : Nat} {L : List Nat} (hp : 2 ≤ p) (hm : 0 < m) (hx : x < p ^ m) (h : Rep p m L (Go.Proofs.Ytiboieijhehjnaa.dv p x)) : is1 L = true ↔ x = 1 := by
 obtain ⟨a, l, rfl⟩ : ∃ a l, L = a :: l := by
  cases L with
  | nil => have := h.1; simp at this; omega
  | cons a l => exact ⟨a, l, rfl⟩
 have hlen : l.length + 1 = m := h.1; have h0 := h.2 0 hm; have e : is1 (a :: l) = bif Nat.beq a 1 then az l else false := rfl; rw [e]; constructor
 ·intro hb; cases ha : Nat.beq a 1 with
  | false => rw [ha] at hb; cases hb
  | true =>
   rw [ha] at hb; have hz := (az_iff l).1 hb; have ha1 := Nat.eq_of_beq_eq_true ha; subst ha1; rw [← nm_dv (p := p) (m := m) (by omega) hx, ← nm_dv (p := p) (m := m) (x := 1) (by omega) (Nat.one_lt_pow (by omega) (by omega))]; refine nm_cg fun i hi => ?_; rw [dv_one hp, dv_mod, ← dv_mod, ← h.2 i hi]; cases i with
   | zero =>
    show (1 : Int) = e0 0 % p; simp only [e0, if_pos]; exact (Int.emod_eq_of_lt (by omega) (by omega)).symm
   | succ i =>
    show ((l.getD i 0 : Nat) : Int) = e0 (i + 1) % p; rw [hz i (by omega)]; simp [e0]
 ·intro hx1; subst hx1; have ha : a = 1 := by
   have : ((a : Nat) : Int) = Go.Proofs.Ytiboieijhehjnaa.dv p 1 0 % p := h0; rw [dv_mod, dv_one hp] at this; simp [e0] at this; omega
  subst ha; show az l = true; refine (az_iff l).2 fun i hi => ?_; have : ((l.getD i 0 : Nat) : Int) = Go.Proofs.Ytiboieijhehjnaa.dv p 1 (i + 1) % p := h.2 (i + 1) (by omega); rw [dv_mod, dv_one hp] at this; simp only [e0] at this; rw [if_neg (by omega)] at this; exact Int.ofNat_eq_zero.1 this
def gel (p m : Nat) (c : Vec) (gs : List Nat) : Nat := nm p m (hl m c e0 gs e0)
theorem Rep.next {p m x : Nat} {cs L gs : List Nat} {c : Vec} (hp : 2 ≤ p) (hm : 0 < m) (hx : x < p ^ m) (hc : Rep p m cs c) (h : Rep p m L (Go.Proofs.Ytiboieijhehjnaa.dv p x)) : Rep p m (mulL p cs L gs L) (Go.Proofs.Ytiboieijhehjnaa.dv p (fmul p m c x (gel p m c gs))) := by
 have h1 := Rep.mul (gs := gs) (by omega) hm hc h h; rw [hl_mul hm (dv_sup hx)] at h1; refine h1.cg fun i hi => ?_; have hs := hl_sup (c := c) (gs := gs) (e0_sup hm) (e0_sup hm); have e1 := dv_fmul (p := p) (m := m) (c := c) (by omega) hx (y := gel p m c gs); have e2 := vcg.mul (m := m) (vcg.refl (p := p) c) (vcg.refl (Go.Proofs.Ytiboieijhehjnaa.dv p x)) (cg_nm (p := p) (m := m) (by omega) hs); exact ((e1.trans e2) i).symm
theorem run_succ (p : Nat) (cs gs : List Nat) (n : Nat) (y : List Nat) : run p cs gs (n + 1) y = bif is1 y then false else run p cs gs n (mulL p cs y gs y) := rfl
theorem run_ok {p m : Nat} {cs gs : List Nat} {c : Vec} (hp : 2 ≤ p) (hm : 0 < m) (hc : Rep p m cs c) : ∀ {n : Nat} {L : List Nat} {x : Nat}, x < p ^ m → Rep p m L (Go.Proofs.Ytiboieijhehjnaa.dv p x) → run p cs gs n L = true →
  (∀ k, k < n → fmul p m c x (pw (fmul p m c) (gel p m c gs) k) ≠ 1) ∧ fmul p m c x (pw (fmul p m c) (gel p m c gs) n) = 1
 | 0, L, x, hx, h, hr => by
  refine ⟨fun k hk => by omega, ?_⟩; show fmul p m c x 1 = 1; rw [fmul_one hp hm hx]; exact (is1_iff hp hm hx h).1 hr
 | n + 1, L, x, hx, h, hr => by
  rw [run_succ] at hr; cases h1 : is1 L with
  | true => rw [h1] at hr; cases hr
  | false =>
   rw [h1] at hr; have R := CR.mk' (p := p) (m := m) c hp hm; have hg : gel p m c gs < p ^ m := nm_lt (by omega) _; have ih := run_ok hp hm hc (fmul_lt (by omega) x _) (Rep.next (gs := gs) hp hm hx hc h) hr; have e : ∀ k, fmul p m c (fmul p m c x (gel p m c gs)) (pw (fmul p m c) (gel p m c gs) k) = fmul p m c x (pw (fmul p m c) (gel p m c gs) (k + 1)) := fun k => by
    rw [R.Ma hx hg (R.pw_lt _ k), R.Mc hg (R.pw_lt _ k)]; rfl
   refine ⟨fun k hk => ?_, by rw [← e]; exact ih.2⟩; cases k with
   | zero =>
    show fmul p m c x 1 ≠ 1; rw [fmul_one hp hm hx]; intro hx1; rw [(is1_iff hp hm hx h).2 hx1] at h1; cases h1
   | succ k => rw [← e]; exact ih.1 k (by omega)
theorem gen1_ok {p m : Nat} {cs gs : List Nat} {c : Vec} (hp : 2 ≤ p) (hm : 0 < m) (hc : Rep p m cs c) (h : gen1 p m cs gs = true) : Gn (p ^ m) (fmul p m c) (gel p m c gs) := by
 have R := CR.mk' (p := p) (m := m) c hp hm; have hg : gel p m c gs < p ^ m := nm_lt (by omega) _; have h1 := Rep.next (gs := gs) hp hm R.one_lt hc Rep.dv; rw [R.I1 hg] at h1; obtain ⟨h2, h3⟩ := run_ok hp hm hc hg h1 h; have hq := R.q2; have e : ∀ k, fmul p m c (gel p m c gs) (pw (fmul p m c) (gel p m c gs) k) = pw (fmul p m c) (gel p m c gs) (k + 1) := fun k => R.Mc hg (R.pw_lt _ k); refine ⟨hg, ?_, fun k h0 hk => ?_⟩
 ·rw [show p ^ m - 1 = (p ^ m - 2) + 1 by omega, ← e]; exact h3
 ·rw [show k = (k - 1) + 1 by omega, ← e]; exact h2 (k - 1) (by omega)
theorem nob_succ (f : Nat → Bool) (n : Nat) : nob f (n + 1) = bif f n then false else nob f n := rfl
theorem nob_iff (f : Nat → Bool) : ∀ n, nob f n = true ↔ ∀ i, i < n → f i = false
 | 0 => ⟨fun _ i h => by omega, fun _ => rfl⟩
 | n + 1 => by
  rw [nob_succ]; cases h : f n with
  | true =>
   refine ⟨fun h' => ?_, fun h' => ?_⟩
   ·cases h'
   ·rw [h' n (by omega)] at h; cases h
  | false =>
   show nob f n = true ↔ _; rw [nob_iff f n]; refine ⟨fun h' i hi => ?_, fun h' i hi => h' i (by omega)⟩; rcases Nat.lt_or_ge i n with h1 | h1
   ·exact h' i h1
   ·rw [show i = n by omega]; exact h
theorem nob_false (f : Nat → Bool) (n : Nat) (h : nob f n = false) : ∃ i, i < n ∧ f i = true := by
 have hn : ¬ ∀ i, i < n → f i = false := fun h' => by rw [(nob_iff f n).2 h'] at h; cases h
 have := Classical.not_forall.1 hn; obtain ⟨i, hi⟩ := this; have h2 := Classical.not_imp.1 hi; exact ⟨i, h2.1, by cases hf : f i with | true => rfl | false => exact absurd hf h2.2⟩
theorem genB_ok {p m : Nat} {cs : List Nat} {c : Vec} (hp : 2 ≤ p) (hm : 0 < m) (hc : Rep p m cs c) (h : genB p m cs = true) : ∃ g, Gn (p ^ m) (fmul p m c) g := by
 unfold genB at h; obtain ⟨i, _, hi⟩ := nob_false _ _ (by simpa using h); exact ⟨_, gen1_ok hp hm hc hi⟩
def rst (p d i : Nat) (l R : Vec) : Vec := fun j => if i ≤ j + d ∧ j < i then (R j - l (j + d - i) * R i) % (p : Int) else R j
def rem (p d : Nat) (l R : Vec) (n : Nat) : Nat → Vec
  | 0 => R
  | k + 1 => rst p d (n - 1 - k) l (rem p d l R n k)
def Dvd (p d : Nat) (l R : Vec) (n : Nat) : Prop := ∀ j, j < d → rem p d l R n (n - d) j = 0
def Irr (p m : Nat) (c : Vec) : Prop := ∀ d, 0 < d → 2 * d ≤ m → ∀ w, w < p ^ d → ¬ Dvd p d (dv p w) (fun i => if i = m then 1 else c i) (m + 1)
theorem subm_cons (p c a : Nat) (al bs : List Nat) : subm p c (a :: al) bs = ((hd0 bs + (p - a) * c) % p) :: subm p c al (tl0 bs) := rfl
theorem subm_len (p c : Nat) : ∀ al bs : List Nat, al.length ≤ bs.length → (subm p c al bs).length = bs.length
 | [], _, _ => rfl
 | a :: al, [], h => by simp at h
 | a :: al, b :: bs, h => by
  rw [subm_cons, List.length_cons]; show (subm p c al bs).length + 1 = _; rw [subm_len p c al bs (by simpa using h)]; rfl
theorem subm_at (p c : Nat) : ∀ (al bs : List Nat) (t : Nat), (subm p c al bs).getD t 0 = if t < al.length then (bs.getD t 0 + (p - al.getD t 0) * c) % p else bs.getD t 0
 | [], bs, t => by simp; rfl
 | a :: al, bs, 0 => by rw [subm_cons, hd0_eq]; simp
 | a :: al, bs, t + 1 => by
  rw [subm_cons]; show (subm p c al (tl0 bs)).getD t 0 = _; rw [subm_at p c al (tl0 bs) t, tl0_at]; simp
theorem dvg_succ (p : Nat) (low : List Nat) (k : Nat) (r : List Nat) : dvg p low (k + 1) r = dvg p low k (subm p (hd0 r) low (tl0 r)) := rfl
theorem dvg_ok {p d n : Nat} {l R : Vec} {low : List Nat} (hp : 0 < p) (hl : low.length = d) (hlow : ∀ t, t < d → ((low.getD t 0 : Nat) : Int) = l (d - 1 - t)) (hlp : ∀ t, t < d → low.getD t 0 ≤ p) : ∀ (s k : Nat) (r : List Nat), s + k + d = n → r.length = n - k →
  (∀ t, t < n - k → ((r.getD t 0 : Nat) : Int) = rem p d l R n k (n - 1 - k - t)) → (dvg p low s r = true ↔ Dvd p d l R n)
 | 0, k, r, hs, hr, hv => by
  have : n - k = d := by omega
  rw [this] at hr hv; show az r = true ↔ _; rw [az_iff, hr]; have hk : n - d = k := by omega
  unfold Dvd; rw [hk]; constructor
  ·intro h j hj; have := hv (d - 1 - j) (by omega); rw [h (d - 1 - j) (by omega), show n - 1 - k - (d - 1 - j) = j by omega] at this; exact this.symm
  ·intro h t ht; have := hv t ht; rw [h (n - 1 - k - t) (by omega)] at this; exact Int.ofNat_eq_zero.1 this
 | s + 1, k, r, hs, hr, hv => by
  rw [dvg_succ]; have htl : (tl0 r).length = n - (k + 1) := by rw [tl0_len, hr]; omega
  refine dvg_ok hp hl hlow hlp s (k + 1) _ (by omega) (by rw [subm_len _ _ _ _ (by rw [htl, hl]; omega), htl]) fun t ht => ?_; rw [subm_at, hl, tl0_at, hd0_eq]; have h0 := hv 0 (by omega); rw [Nat.sub_zero] at h0; have h1 := hv (t + 1) (by omega); rw [show n - 1 - k - (t + 1) = n - 1 - (k + 1) - t by omega] at h1; show _ = rst p d (n - 1 - k) l (rem p d l R n k) (n - 1 - (k + 1) - t); unfold rst; by_cases htd : t < d
  ·rw [if_pos htd, if_pos (by omega)]; have h2 := hlow t htd; have h3 := hlp t htd; rw [show n - 1 - (k + 1) - t + d - (n - 1 - k) = d - 1 - t by omega, ← h0, ← h1, ← h2]; generalize r.getD (t + 1) 0 = X at *
   generalize low.getD t 0 = Y at *
   generalize r.getD 0 0 = Z at *
   obtain ⟨D, hD⟩ : ∃ D, p = Y + D := ⟨p - Y, by omega⟩
   rw [show p - Y = D by omega, Int.natCast_emod]; have hcast : ((X + D * Z : Nat) : Int) = ((X : Int) - Y * Z) + p * Z := by
    have : (p : Int) = Y + D := by omega
    rw [this]; push_cast; rw [Int.add_mul]; omega
   rw [hcast, Int.add_mul_emod_self_left]
  ·rw [if_neg htd, if_neg (by omega)]; exact h1
theorem getD_rev (l : List Nat) (t : Nat) (h : t < l.length) : l.reverse.getD t 0 = l.getD (l.length - 1 - t) 0 := by
 rw [List.getD_eq_getElem?_getD, List.getD_eq_getElem?_getD, List.getElem?_reverse h]
theorem dv_le {p : Nat} (hp : 0 < p) (x i : Nat) : 0 ≤ dv p x i ∧ dv p x i < p := dv_cn hp x (i + 1) i (by omega)
theorem irrB_iff {p m v : Nat} (hp : 0 < p) (hv : v < p ^ m) : irrB p m (dgl p m v) = true ↔ Irr p m (dv p v) := by
 have key : ∀ d w, 0 < d → 2 * d ≤ m → (dvg p (dgl p d w).reverse (m + 1 - d) (1 :: (dgl p m v).reverse) = true ↔ Dvd p d (dv p w) (fun i => if i = m then 1 else dv p v i) (m + 1)) := fun d w hd h2 => by
  refine dvg_ok hp (by rw [List.length_reverse, dgl_len]) (fun t ht => ?_) (fun t ht => ?_) (m + 1 - d) 0 _ (by omega) (by simp [dgl_len]) fun t ht => ?_
  ·rw [getD_rev _ _ (by rw [dgl_len]; exact ht), dgl_len, dgl_at _ _ _ _ (by omega)]
  ·rw [getD_rev _ _ (by rw [dgl_len]; exact ht), dgl_len]; have := dgl_at p d w (d - 1 - t) (by omega); have := dv_le hp w (d - 1 - t); omega
  ·show _ = if m + 1 - 1 - 0 - t = m then (1 : Int) else dv p v (m + 1 - 1 - 0 - t)
   cases t with
   | zero => rw [if_pos (by omega)]; rfl
   | succ t =>
    rw [if_neg (by omega)]; show (((dgl p m v).reverse.getD t 0 : Nat) : Int) = _; rw [getD_rev _ _ (by rw [dgl_len]; omega), dgl_len, dgl_at _ _ _ _ (by omega), show m + 1 - 1 - 0 - (t + 1) = m - 1 - t by omega]
 unfold irrB; rw [nob_iff]; constructor
 ·intro h d hd h2 w hw hD; have h3 := h (d - 1) (by omega); have h4 := (nob_iff _ _).1 (by simpa using h3) w (by rw [show d - 1 + 1 = d by omega]; exact hw); rw [show d - 1 + 1 = d by omega, show m - (d - 1) = m + 1 - d by omega, (key d w hd h2).2 hD] at h4; cases h4
 ·intro h d hd; have : nob (fun w => dvg p (dgl p (d + 1) w).reverse (m - d) (1 :: (dgl p m v).reverse)) (p ^ (d + 1)) = true := (nob_iff _ _).2 fun w hw => by
   cases hb : dvg p (dgl p (d + 1) w).reverse (m - d) (1 :: (dgl p m v).reverse) with
   | false => rfl
   | true =>
    rw [show m - d = m + 1 - (d + 1) by omega] at hb; exact absurd ((key (d + 1) w (by omega) (by omega)).1 hb) (h (d + 1) (by omega) (by omega) w hw)
  rw [this]; rfl
theorem chk_ok {p m lo n v : Nat} (hp : 2 ≤ p) (hm : 0 < m) (h : chk p m lo n = true) (h1 : lo ≤ v) (h2 : v < lo + n) (hv : v < p ^ m) (hi : Irr p m (dv p v)) : ∃ g, Gn (p ^ m) (fmul p m (dv p v)) g := by
 have h3 := (nob_iff _ _).1 h (v - lo) (by omega); simp only [show lo + (v - lo) = v by omega, (irrB_iff (by omega) hv).2 hi, cond_true] at h3; exact genB_ok hp hm Rep.dv (by simpa using h3)
end Go.Proofs.Ytiboieijhehjnaa
