/- Contracts of functions of the program, and what they lean on: D15, D16, Fa, Fb, Fg, Fp, Fk, Fc, V1. -/
import Derived.Test.YtiboieijhehjnaaMatrixPicksG9
set_option linter.unusedSimpArgs false
set_option linter.unusedVariables false
set_option maxRecDepth 4000
set_option maxHeartbeats 4000000
namespace Go.Proofs.Ytiboieijhehjnaa
open Go.RowKit
def V_awake  (Q : Bool → Prop) : Prop :=
  V_Canonical (2 : Int) (1 : Int) ([] : List Int) (3 : Int) ([([(1 : Int), (1 : Int), (0 : Int)] : List Int), ([(0 : Int), (1 : Int), (1 : Int)] : List Int), ([(1 : Int), (0 : Int), (1 : Int)] : List Int)] : List (List Int)) (fun q => match q with | (c33, x34, x35, r36) => V_Rank (2 : Int) (1 : Int) ([] : List Int) (3 : Int) ([([(1 : Int), (1 : Int), (0 : Int)] : List Int), ([(0 : Int), (1 : Int), (1 : Int)] : List Int), ([(1 : Int), (0 : Int), (1 : Int)] : List Int)] : List (List Int)) (fun q => match q with | (r48, r49) => V_Kernel (2 : Int) (1 : Int) ([] : List Int) (3 : Int) ([([(1 : Int), (1 : Int), (0 : Int)] : List Int), ([(0 : Int), (1 : Int), (1 : Int)] : List Int), ([(1 : Int), (0 : Int), (1 : Int)] : List Int)] : List (List Int)) (fun q => match q with | (c51, x52, r53) => V_Det (5 : Int) (1 : Int) ([] : List Int) (2 : Int) ([([(1 : Int), (2 : Int)] : List Int), ([(3 : Int), (4 : Int)] : List Int)] : List (List Int)) (fun q => match q with | (r74, r75) => V_Inverse (5 : Int) (1 : Int) ([] : List Int) (2 : Int) ([([(1 : Int), (2 : Int)] : List Int), ([(3 : Int), (4 : Int)] : List Int)] : List (List Int)) (fun q => match q with | (c77, x78, r79) => V_Vec (5 : Int) (1 : Int) ([] : List Int) ([(1 : Int), (1 : Int)] : List Int) (2 : Int) ([([(1 : Int), (2 : Int)] : List Int), ([(3 : Int), (4 : Int)] : List Int)] : List (List Int)) (fun q => match q with | (x91, r92) => V_Solve (5 : Int) (1 : Int) ([] : List Int) (2 : Int) ([([(1 : Int), (2 : Int)] : List Int), ([(3 : Int), (4 : Int)] : List Int)] : List (List Int)) ([(3 : Int), (2 : Int)] : List Int) (fun q => match q with | (x100, r101) => ((r36 = (0 : Int)) → (((r49 = (0 : Int)) → (((r53 = (0 : Int)) → (((r75 = (0 : Int)) → (((r79 = (0 : Int)) → (((r92 = (0 : Int)) → (((r101 = (0 : Int)) → (V_rSame c33 x34 (3 : Int) ([([(1 : Int), (0 : Int), (1 : Int)] : List Int), ([(0 : Int), (1 : Int), (1 : Int)] : List Int)] : List (List Int)) (fun r122 => ((r122 = true) → (V_rSameInts x35 ([(0 : Int), (1 : Int)] : List Int) (fun r128 => ((r128 = true) → (((r48 = (2 : Int)) → (V_rSame c51 x52 (3 : Int) ([([(1 : Int), (1 : Int), (1 : Int)] : List Int)] : List (List Int)) (fun r138 => ((r138 = true) → (((r74 = (3 : Int)) → (V_rSame c77 x78 (2 : Int) ([([(3 : Int), (1 : Int)] : List Int), ([(4 : Int), (2 : Int)] : List Int)] : List (List Int)) (fun r151 => ((r151 = true) → (V_rSameInts x91 ([(4 : Int), (1 : Int)] : List Int) (fun r157 => ((r157 = true) → (V_rSameInts x100 ([(1 : Int), (1 : Int)] : List Int) (fun r163 => ((r163 = true) → (V_mCheck (5 : Int) (1 : Int) ([] : List Int) (2 : Int) ([([(1 : Int), (2 : Int)] : List Int), ([(3 : Int), (4 : Int)] : List Int)] : List (List Int)) (fun r166 => ((r166 = (0 : Int)) → (V_mCheck (2 : Int) (1 : Int) ([] : List Int) (2 : Int) ([([(1 : Int), (2 : Int)] : List Int), ([(3 : Int), (4 : Int)] : List Int)] : List (List Int)) (fun r169 => Q (decide (r169 = (2 : Int)))))) ∧ (¬ (r166 = (0 : Int)) → Q false)))) ∧ (r163 = false → Q false)))) ∧ (r157 = false → Q false)))) ∧ (r151 = false → Q false)))) ∧ (¬ (r74 = (3 : Int)) → Q false))) ∧ (r138 = false → Q false)))) ∧ (¬ (r48 = (2 : Int)) → Q false))) ∧ (r128 = false → Q false)))) ∧ (r122 = false → Q false)))) ∧ (¬ (r101 = (0 : Int)) → Q false))) ∧ (¬ (r92 = (0 : Int)) → Q false))) ∧ (¬ (r79 = (0 : Int)) → Q false))) ∧ (¬ (r75 = (0 : Int)) → Q false))) ∧ (¬ (r53 = (0 : Int)) → Q false))) ∧ (¬ (r49 = (0 : Int)) → Q false))) ∧ (¬ (r36 = (0 : Int)) → Q false))))))))
theorem ok_awake {w : World} {Q : Bool → Prop}   (hv : V_awake  Q) :
   Calls Try.prog 15 #[] w fun e w' => ∃ v Qr, e = .returned v ∧ w.grownBy w' none ∧ Rows w.heap.size none w' Qr ∧ News w.heap.size Qr ∧ ∃ (r0 : Bool), v = .bool r0 ∧ Qr = [] ∧ Q r0 := by
 refine calls_swap <| calls_of_W (vs := []) [0] XF15 rfl rfl rfl rfl ?_; have hS := St.start w; unfold V_awake at hv; refine W.seq <| W.region <| WL.assign rfl rfl <| WL.done <| W.seq <| W.region <| WL.build (cells := #[.int .i64 (2 : Int), .int .i64 (1 : Int), .slice none 0 0]) XB24 rfl rfl rfl <| SL.alloc (cs := [.int .i64 (0 : Int), .int .i64 (0 : Int), .slice none 0 0]) hS XE24 rfl rfl ?_; intro g11 w12 hS; refine SL.storeV (cs := [.int .i64 (2 : Int), .int .i64 (1 : Int), .slice none 0 0]) 0 hS rfl XE24 rfl rfl rfl rfl rfl ?_; intro w13 hS; refine WL.done <| W.seq <| W.region <| WL.build (cells := #[.int .i64 (5 : Int), .int .i64 (1 : Int), .slice none 0 0]) XB24 rfl rfl rfl <| SL.alloc (cs := [.int .i64 (0 : Int), .int .i64 (0 : Int), .slice none 0 0]) hS XE24 rfl rfl ?_; intro g14 w15 hS; refine SL.storeV (cs := [.int .i64 (5 : Int), .int .i64 (1 : Int), .slice none 0 0]) 0 hS rfl XE24 rfl rfl rfl rfl rfl ?_; intro w16 hS; refine WL.done <| W.seq <| W.region <| SL.lit1 (vs := is ([(1 : Int), (1 : Int), (0 : Int)] : List Int)) hS XU22 XE3 rfl rfl rfl rfl (is_one _) rfl ?_; intro A17 w18 hS; refine SL.lit1 (vs := is ([(0 : Int), (1 : Int), (1 : Int)] : List Int)) hS XU22 XE3 rfl rfl rfl rfl (is_one _) rfl ?_; intro A20 w21 hS; refine SL.lit1 (vs := is ([(1 : Int), (0 : Int), (1 : Int)] : List Int)) hS XU22 XE3 rfl rfl rfl rfl (is_one _) rfl ?_; intro A23 w24 hS; refine SL.lit1 (vs := [.slice A17 3 3, .slice A20 3 3, .slice A23 3 3]) hS XU25 XE22 rfl rfl rfl rfl (by simp [Value.oneCell']) rfl ?_; intro A26 w27 hS; refine WL.build (cells := #[.int .i64 (3 : Int), .slice A26 3 3]) XB27 rfl rfl rfl <| SL.alloc (cs := [.int .i64 (0 : Int), .slice none 0 0]) hS XE27 rfl rfl ?_; intro g29 w30 hS; refine SL.storeV (cs := [.int .i64 (3 : Int), .slice A26 3 3]) 0 hS rfl XE27 rfl rfl rfl rfl rfl ?_; intro w31 hS; refine WL.done <| W.seq <| W.region <| WL.loadV (cs := [.int .i64 (2 : Int), .int .i64 (1 : Int), .slice none 0 0]) XE24 XG24 rfl rfl (Own.vcells (hS.own (i := 6) rfl)) rfl <| WL.loadV (cs := [.int .i64 (3 : Int), .slice A26 3 3]) XE27 XG27 rfl rfl (Own.vcells (hS.own (i := 0) rfl)) rfl <| SL.call hS (ok_Canonical (Rd.nilL w31) (⟨_, _, (hS.rd (i := 1) rfl), ⟨⟨_, _, _, rfl, (Rd.is_m (hS.rd (i := 4) rfl))⟩, ⟨_, _, _, rfl, (Rd.is_m (hS.rd (i := 3) rfl))⟩, ⟨_, _, _, rfl, (Rd.is_m (hS.rd (i := 2) rfl))⟩, trivial⟩⟩ : Rl _ _ _ _ ([([(1 : Int), (1 : Int), (0 : Int)] : List Int), ([(0 : Int), (1 : Int), (1 : Int)] : List Int), ([(1 : Int), (0 : Int), (1 : Int)] : List Int)] : List (List Int))) hv) XF17 rfl XN17 rfl rfl ?_; rintro _ _ w32 ⟨c33, x34, x35, r36, A37, k38, hs39, A41, k42, rfl, rfl, hv⟩ hGw32 hS; have hS := hS.n2; refine WL.move rfl rfl <| WL.extract rfl rfl rfl <| WL.extract rfl rfl rfl <| WL.extract rfl rfl rfl <| SL.alloc (cs := [.int .i64 (0 : Int), .slice none 0 0]) hS XE27 rfl rfl ?_; intro g44 w45 hS; refine SL.storeV (cs := [.int .i64 c33, .slice A37 x34.length k38]) 0 hS rfl XE27 rfl rfl rfl rfl rfl ?_; intro w46 hS; refine WL.assign rfl rfl <| WL.assign rfl rfl <| WL.done <| W.seq <| W.region <| WL.loadV (cs := [.int .i64 (2 : Int), .int .i64 (1 : Int), .slice none 0 0]) XE24 XG24 rfl rfl (Own.vcells (hS.own (i := 9) rfl)) rfl <| WL.loadV (cs := [.int .i64 (3 : Int), .slice A26 3 3]) XE27 XG27 rfl rfl (Own.vcells (hS.own (i := 3) rfl)) rfl <| SL.call hS (ok_Rank (Rd.nilL w46) (⟨_, _, (hS.rd (i := 4) rfl), ⟨⟨_, _, _, rfl, (Rd.is_m (hS.rd (i := 7) rfl))⟩, ⟨_, _, _, rfl, (Rd.is_m (hS.rd (i := 6) rfl))⟩, ⟨_, _, _, rfl, (Rd.is_m (hS.rd (i := 5) rfl))⟩, trivial⟩⟩ : Rl _ _ _ _ ([([(1 : Int), (1 : Int), (0 : Int)] : List Int), ([(0 : Int), (1 : Int), (1 : Int)] : List Int), ([(1 : Int), (0 : Int), (1 : Int)] : List Int)] : List (List Int))) hv) XF19 rfl XN19 rfl rfl ?_; rintro _ _ w47 ⟨r48, r49, rfl, rfl, hv⟩ hGw47 hS; have hS := hS.n0; refine WL.move rfl rfl <| WL.extract rfl rfl rfl <| WL.extract rfl rfl rfl <| WL.assign rfl rfl <| WL.assign rfl rfl <| WL.done <| W.seq <| W.region <| WL.loadV (cs := [.int .i64 (2 : Int), .int .i64 (1 : Int), .slice none 0 0]) XE24 XG24 rfl rfl (Own.vcells (hS.own (i := 9) rfl)) rfl <| WL.loadV (cs := [.int .i64 (3 : Int), .slice A26 3 3]) XE27 XG27 rfl rfl (Own.vcells (hS.own (i := 3) rfl)) rfl <| SL.call hS (ok_Kernel (Rd.nilL w47) (⟨_, _, (hS.rd (i := 4) rfl), ⟨⟨_, _, _, rfl, (Rd.is_m (hS.rd (i := 7) rfl))⟩, ⟨_, _, _, rfl, (Rd.is_m (hS.rd (i := 6) rfl))⟩, ⟨_, _, _, rfl, (Rd.is_m (hS.rd (i := 5) rfl))⟩, trivial⟩⟩ : Rl _ _ _ _ ([([(1 : Int), (1 : Int), (0 : Int)] : List Int), ([(0 : Int), (1 : Int), (1 : Int)] : List Int), ([(1 : Int), (0 : Int), (1 : Int)] : List Int)] : List (List Int))) hv) XF33 rfl XN33 rfl rfl ?_; rintro _ _ w50 ⟨c51, x52, r53, A54, k55, hs56, rfl, rfl, hv⟩ hGw50 hS; have hS := hS.n1; refine WL.move rfl rfl <| WL.extract rfl rfl rfl <| WL.extract rfl rfl rfl <| SL.alloc (cs := [.int .i64 (0 : Int), .slice none 0 0]) hS XE27 rfl rfl ?_; intro g58 w59 hS; refine SL.storeV (cs := [.int .i64 c51, .slice A54 x52.length k55]) 0 hS rfl XE27 rfl rfl rfl rfl rfl ?_; intro w60 hS; refine WL.assign rfl rfl <| WL.done <| W.seq <| W.region <| SL.lit1 (vs := is ([(1 : Int), (2 : Int)] : List Int)) hS XU22 XE3 rfl rfl rfl rfl (is_one _) rfl ?_; intro A61 w62 hS; refine SL.lit1 (vs := is ([(3 : Int), (4 : Int)] : List Int)) hS XU22 XE3 rfl rfl rfl rfl (is_one _) rfl ?_; intro A64 w65 hS; refine SL.lit1 (vs := [.slice A61 2 2, .slice A64 2 2]) hS XU25 XE22 rfl rfl rfl rfl (by simp [Value.oneCell']) rfl ?_; intro A67 w68 hS; refine WL.build (cells := #[.int .i64 (2 : Int), .slice A67 2 2]) XB27 rfl rfl rfl <| SL.alloc (cs := [.int .i64 (0 : Int), .slice none 0 0]) hS XE27 rfl rfl ?_; intro g70 w71 hS; refine SL.storeV (cs := [.int .i64 (2 : Int), .slice A67 2 2]) 0 hS rfl XE27 rfl rfl rfl rfl rfl ?_; intro w72 hS; refine WL.done <| W.seq <| W.region <| WL.loadV (cs := [.int .i64 (5 : Int), .int .i64 (1 : Int), .slice none 0 0]) XE24 XG24 rfl rfl (Own.vcells (hS.own (i := 14) rfl)) rfl <| WL.loadV (cs := [.int .i64 (2 : Int), .slice A67 2 2]) XE27 XG27 rfl rfl (Own.vcells (hS.own (i := 0) rfl)) rfl <| SL.call hS (ok_Det (Rd.nilL w72) (⟨_, _, (hS.rd (i := 1) rfl), ⟨⟨_, _, _, rfl, (Rd.is_m (hS.rd (i := 3) rfl))⟩, ⟨_, _, _, rfl, (Rd.is_m (hS.rd (i := 2) rfl))⟩, trivial⟩⟩ : Rl _ _ _ _ ([([(1 : Int), (2 : Int)] : List Int), ([(3 : Int), (4 : Int)] : List Int)] : List (List Int))) hv) XF54 rfl XN54 rfl rfl ?_; rintro _ _ w73 ⟨r74, r75, rfl, rfl, hv⟩ hGw73 hS; have hS := hS.n0; refine WL.move rfl rfl <| WL.extract rfl rfl rfl <| WL.extract rfl rfl rfl <| WL.assign rfl rfl <| WL.assign rfl rfl <| WL.done <| W.seq <| W.region <| WL.loadV (cs := [.int .i64 (5 : Int), .int .i64 (1 : Int), .slice none 0 0]) XE24 XG24 rfl rfl (Own.vcells (hS.own (i := 14) rfl)) rfl <| WL.loadV (cs := [.int .i64 (2 : Int), .slice A67 2 2]) XE27 XG27 rfl rfl (Own.vcells (hS.own (i := 0) rfl)) rfl <| SL.call hS (ok_Inverse (Rd.nilL w73) (⟨_, _, (hS.rd (i := 1) rfl), ⟨⟨_, _, _, rfl, (Rd.is_m (hS.rd (i := 3) rfl))⟩, ⟨_, _, _, rfl, (Rd.is_m (hS.rd (i := 2) rfl))⟩, trivial⟩⟩ : Rl _ _ _ _ ([([(1 : Int), (2 : Int)] : List Int), ([(3 : Int), (4 : Int)] : List Int)] : List (List Int))) hv) XF32 rfl XN32 rfl rfl ?_; rintro _ _ w76 ⟨c77, x78, r79, A80, k81, hs82, rfl, rfl, hv⟩ hGw76 hS; have hS := hS.n1; refine WL.move rfl rfl <| WL.extract rfl rfl rfl <| WL.extract rfl rfl rfl <| SL.alloc (cs := [.int .i64 (0 : Int), .slice none 0 0]) hS XE27 rfl rfl ?_; intro g84 w85 hS; refine SL.storeV (cs := [.int .i64 c77, .slice A80 x78.length k81]) 0 hS rfl XE27 rfl rfl rfl rfl rfl ?_; intro w86 hS; refine WL.assign rfl rfl <| WL.done <| W.seq <| W.region <| WL.loadV (cs := [.int .i64 (5 : Int), .int .i64 (1 : Int), .slice none 0 0]) XE24 XG24 rfl rfl (Own.vcells (hS.own (i := 16) rfl)) rfl <| SL.lit1 (vs := is ([(1 : Int), (1 : Int)] : List Int)) hS XU22 XE3 rfl rfl rfl rfl (is_one _) rfl ?_; intro A87 w88 hS; refine WL.loadV (cs := [.int .i64 (2 : Int), .slice A67 2 2]) XE27 XG27 rfl rfl (Own.vcells (hS.own (i := 3) rfl)) rfl <| SL.call hS (ok_Vec (Rd.nilL w88) (hS.rd (i := 0) rfl) (⟨_, _, (hS.rd (i := 4) rfl), ⟨⟨_, _, _, rfl, (Rd.is_m (hS.rd (i := 6) rfl))⟩, ⟨_, _, _, rfl, (Rd.is_m (hS.rd (i := 5) rfl))⟩, trivial⟩⟩ : Rl _ _ _ _ ([([(1 : Int), (2 : Int)] : List Int), ([(3 : Int), (4 : Int)] : List Int)] : List (List Int))) hv) XF49 rfl XN49 rfl rfl ?_; rintro _ _ w90 ⟨x91, r92, A93, k94, rfl, rfl, hv⟩ hGw90 hS; have hS := hS.n1; refine WL.move rfl rfl <| WL.extract rfl rfl rfl <| WL.extract rfl rfl rfl <| WL.assign rfl rfl <| WL.assign rfl rfl <| WL.done <| W.seq <| W.region <| WL.loadV (cs := [.int .i64 (5 : Int), .int .i64 (1 : Int), .slice none 0 0]) XE24 XG24 rfl rfl (Own.vcells (hS.own (i := 18) rfl)) rfl <| WL.loadV (cs := [.int .i64 (2 : Int), .slice A67 2 2]) XE27 XG27 rfl rfl (Own.vcells (hS.own (i := 4) rfl)) rfl <| SL.lit1 (vs := is ([(3 : Int), (2 : Int)] : List Int)) hS XU22 XE3 rfl rfl rfl rfl (is_one _) rfl ?_; intro A96 w97 hS; refine SL.call hS (ok_Solve (Rd.nilL w97) (⟨_, _, (hS.rd (i := 6) rfl), ⟨⟨_, _, _, rfl, (Rd.is_m (hS.rd (i := 8) rfl))⟩, ⟨_, _, _, rfl, (Rd.is_m (hS.rd (i := 7) rfl))⟩, trivial⟩⟩ : Rl _ _ _ _ ([([(1 : Int), (2 : Int)] : List Int), ([(3 : Int), (4 : Int)] : List Int)] : List (List Int))) (hS.rd (i := 0) rfl) hv) XF36 rfl XN36 rfl rfl ?_; rintro _ _ w99 ⟨x100, r101, A102, k103, rfl, rfl, hv⟩ hGw99 hS; have hS := hS.n1; refine WL.move rfl rfl <| WL.extract rfl rfl rfl <| WL.extract rfl rfl rfl <| WL.assign rfl rfl <| WL.assign rfl rfl <| WL.done <| W.seq <| W.region <| WL.move rfl rfl <| WL.eqlD rfl rfl rfl <| WL.move rfl rfl ?_; by_cases g105 : r36 = (0 : Int)
 ·have hv := hv.1 g105; rw [decide_eq_true g105]; refine WL.take rfl <| WL.move rfl rfl <| WL.take rfl <| WL.eqlD rfl rfl rfl <| WL.pick rfl rfl rfl <| WL.move rfl rfl ?_; by_cases g106 : r49 = (0 : Int)
  ·have hv := hv.1 g106; rw [decide_eq_true g106]; refine WL.take rfl <| WL.move rfl rfl <| WL.take rfl <| WL.eqlD rfl rfl rfl <| WL.pick rfl rfl rfl <| WL.move rfl rfl ?_; by_cases g107 : r53 = (0 : Int)
   ·have hv := hv.1 g107; rw [decide_eq_true g107]; refine WL.take rfl <| WL.move rfl rfl <| WL.take rfl <| WL.eqlD rfl rfl rfl <| WL.pick rfl rfl rfl <| WL.move rfl rfl ?_; by_cases g108 : r75 = (0 : Int)
    ·have hv := hv.1 g108; rw [decide_eq_true g108]; refine WL.take rfl <| WL.move rfl rfl <| WL.take rfl <| WL.eqlD rfl rfl rfl <| WL.pick rfl rfl rfl <| WL.move rfl rfl ?_; by_cases g109 : r79 = (0 : Int)
     ·have hv := hv.1 g109; rw [decide_eq_true g109]; refine WL.take rfl <| WL.move rfl rfl <| WL.take rfl <| WL.eqlD rfl rfl rfl <| WL.pick rfl rfl rfl <| WL.move rfl rfl ?_; by_cases g110 : r92 = (0 : Int)
      ·have hv := hv.1 g110; rw [decide_eq_true g110]; refine WL.take rfl <| WL.move rfl rfl <| WL.take rfl <| WL.eqlD rfl rfl rfl <| WL.pick rfl rfl rfl <| WL.assign rfl rfl <| WL.done <| W.seq <| W.region <| WL.move rfl rfl <| WL.move rfl rfl ?_; by_cases g111 : r101 = (0 : Int)
       ·have hv := hv.1 g111; rw [decide_eq_true g111]; refine WL.take rfl <| WL.loadV (cs := [.int .i64 c33, .slice A37 x34.length k38]) XE27 XG27 rfl rfl (Own.vcells (hS.own (i := 12) rfl)) rfl <| WL.take rfl <| SL.lit1 (vs := is ([(1 : Int), (0 : Int), (1 : Int)] : List Int)) hS XU22 XE3 rfl rfl rfl rfl (is_one _) rfl ?_; intro A112 w113 hS; refine WL.take rfl <| SL.lit1 (vs := is ([(0 : Int), (1 : Int), (1 : Int)] : List Int)) hS XU22 XE3 rfl rfl rfl rfl (is_one _) rfl ?_; intro A115 w116 hS; refine WL.take rfl <| SL.lit1 (vs := [.slice A112 3 3, .slice A115 3 3]) hS XU25 XE22 rfl rfl rfl rfl (by simp [Value.oneCell']) rfl ?_; intro A118 w119 hS; refine WL.take rfl <| WL.build (cells := #[.int .i64 (3 : Int), .slice A118 2 2]) XB27 rfl rfl rfl <| WL.take rfl <| SL.call hS (ok_rSame (hS.rl (i := 16) rfl) (⟨_, _, (hS.rd (i := 0) rfl), ⟨⟨_, _, _, rfl, (Rd.is_m (hS.rd (i := 2) rfl))⟩, ⟨_, _, _, rfl, (Rd.is_m (hS.rd (i := 1) rfl))⟩, trivial⟩⟩ : Rl _ _ _ _ ([([(1 : Int), (0 : Int), (1 : Int)] : List Int), ([(0 : Int), (1 : Int), (1 : Int)] : List Int)] : List (List Int))) hv) XF20 rfl XN20 rfl rfl ?_; rintro _ _ w121 ⟨r122, rfl, rfl, hv⟩ hGw121 hS; have hS := hS.n0; refine WL.pick rfl rfl rfl <| WL.move rfl rfl ?_; cases g123 : r122
        ·have hv := hv.2 g123; refine WL.pass rfl rfl rfl <| WL.pass rfl rfl rfl <| WL.pass rfl rfl rfl <| WL.pick rfl rfl rfl <| WL.move rfl rfl <| WL.pass rfl rfl rfl <| WL.pass rfl rfl rfl <| WL.pick rfl rfl rfl <| WL.move rfl rfl <| WL.pass rfl rfl rfl <| WL.pass rfl rfl rfl <| WL.pass rfl rfl rfl <| WL.pass rfl rfl rfl <| WL.pass rfl rfl rfl <| WL.pick rfl rfl rfl <| WL.move rfl rfl <| WL.pass rfl rfl rfl <| WL.pass rfl rfl rfl <| WL.pick rfl rfl rfl <| WL.move rfl rfl <| WL.pass rfl rfl rfl <| WL.pass rfl rfl rfl <| WL.pass rfl rfl rfl <| WL.pass rfl rfl rfl <| WL.pass rfl rfl rfl <| WL.pass rfl rfl rfl <| WL.pick rfl rfl rfl <| WL.move rfl rfl <| WL.pass rfl rfl rfl <| WL.pass rfl rfl rfl <| WL.pass rfl rfl rfl <| WL.pick rfl rfl rfl <| WL.move rfl rfl <| WL.pass rfl rfl rfl <| WL.pass rfl rfl rfl <| WL.pass rfl rfl rfl <| WL.pick rfl rfl rfl <| WL.move rfl rfl <| WL.pass rfl rfl rfl <| WL.pass rfl rfl rfl <| WL.pass rfl rfl rfl <| WL.pass rfl rfl rfl <| WL.pick rfl rfl rfl <| WL.move rfl rfl <| WL.pass rfl rfl rfl <| WL.pass rfl rfl rfl <| WL.pass rfl rfl rfl <| WL.pass rfl rfl rfl <| WL.pick rfl rfl rfl <| WL.assign rfl rfl <| WL.done <| W.ret <| ⟨_, rfl, Fin.nil ?_⟩
         exact ⟨_, hS.ext, (hS.pick [] rfl).rows, News.of (hS.pick [] rfl).rows rfl, ⟨false, rfl, rfl, hv⟩⟩
        have hv := hv.1 g123; refine WL.take rfl <| WL.move rfl rfl <| WL.take rfl <| SL.lit1 (vs := is ([(0 : Int), (1 : Int)] : List Int)) hS XU22 XE3 rfl rfl rfl rfl (is_one _) rfl ?_; intro A124 w125 hS; refine WL.take rfl <| SL.call hS (ok_rSameInts (hS.rd (i := 18) rfl) (hS.rd (i := 0) rfl) hv) XF21 rfl XN21 rfl rfl ?_; rintro _ _ w127 ⟨r128, rfl, rfl, hv⟩ hGw127 hS; have hS := hS.n0; refine WL.pick rfl rfl rfl <| WL.move rfl rfl ?_; cases g129 : r128
        ·have hv := hv.2 g129; refine WL.pass rfl rfl rfl <| WL.pass rfl rfl rfl <| WL.pick rfl rfl rfl <| WL.move rfl rfl <| WL.pass rfl rfl rfl <| WL.pass rfl rfl rfl <| WL.pass rfl rfl rfl <| WL.pass rfl rfl rfl <| WL.pass rfl rfl rfl <| WL.pick rfl rfl rfl <| WL.move rfl rfl <| WL.pass rfl rfl rfl <| WL.pass rfl rfl rfl <| WL.pick rfl rfl rfl <| WL.move rfl rfl <| WL.pass rfl rfl rfl <| WL.pass rfl rfl rfl <| WL.pass rfl rfl rfl <| WL.pass rfl rfl rfl <| WL.pass rfl rfl rfl <| WL.pass rfl rfl rfl <| WL.pick rfl rfl rfl <| WL.move rfl rfl <| WL.pass rfl rfl rfl <| WL.pass rfl rfl rfl <| WL.pass rfl rfl rfl <| WL.pick rfl rfl rfl <| WL.move rfl rfl <| WL.pass rfl rfl rfl <| WL.pass rfl rfl rfl <| WL.pass rfl rfl rfl <| WL.pick rfl rfl rfl <| WL.move rfl rfl <| WL.pass rfl rfl rfl <| WL.pass rfl rfl rfl <| WL.pass rfl rfl rfl <| WL.pass rfl rfl rfl <| WL.pick rfl rfl rfl <| WL.move rfl rfl <| WL.pass rfl rfl rfl <| WL.pass rfl rfl rfl <| WL.pass rfl rfl rfl <| WL.pass rfl rfl rfl <| WL.pick rfl rfl rfl <| WL.assign rfl rfl <| WL.done <| W.ret <| ⟨_, rfl, Fin.nil ?_⟩
         exact ⟨_, hS.ext, (hS.pick [] rfl).rows, News.of (hS.pick [] rfl).rows rfl, ⟨false, rfl, rfl, hv⟩⟩
        have hv := hv.1 g129; refine WL.take rfl <| WL.move rfl rfl <| WL.take rfl <| WL.eqlD rfl rfl rfl <| WL.pick rfl rfl rfl <| WL.move rfl rfl ?_; by_cases g130 : r48 = (2 : Int)
        ·have hv := hv.1 g130; rw [decide_eq_true g130]; refine WL.take rfl <| WL.loadV (cs := [.int .i64 c51, .slice A54 x52.length k55]) XE27 XG27 rfl rfl (Own.vcells (hS.own (i := 14) rfl)) rfl <| WL.take rfl <| SL.lit1 (vs := is ([(1 : Int), (1 : Int), (1 : Int)] : List Int)) hS XU22 XE3 rfl rfl rfl rfl (is_one _) rfl ?_; intro A131 w132 hS; refine WL.take rfl <| SL.lit1 (vs := [.slice A131 3 3]) hS XU25 XE22 rfl rfl rfl rfl (by simp [Value.oneCell']) rfl ?_; intro A134 w135 hS; refine WL.take rfl <| WL.build (cells := #[.int .i64 (3 : Int), .slice A134 1 1]) XB27 rfl rfl rfl <| WL.take rfl <| SL.call hS (ok_rSame (hS.rl (i := 17) rfl) (⟨_, _, (hS.rd (i := 0) rfl), ⟨⟨_, _, _, rfl, (Rd.is_m (hS.rd (i := 1) rfl))⟩, trivial⟩⟩ : Rl _ _ _ _ ([([(1 : Int), (1 : Int), (1 : Int)] : List Int)] : List (List Int))) hv) XF20 rfl XN20 rfl rfl ?_; rintro _ _ w137 ⟨r138, rfl, rfl, hv⟩ hGw137 hS; have hS := hS.n0; refine WL.pick rfl rfl rfl <| WL.move rfl rfl ?_; cases g139 : r138
         ·have hv := hv.2 g139; refine WL.pass rfl rfl rfl <| WL.pass rfl rfl rfl <| WL.pick rfl rfl rfl <| WL.move rfl rfl <| WL.pass rfl rfl rfl <| WL.pass rfl rfl rfl <| WL.pass rfl rfl rfl <| WL.pass rfl rfl rfl <| WL.pass rfl rfl rfl <| WL.pass rfl rfl rfl <| WL.pick rfl rfl rfl <| WL.move rfl rfl <| WL.pass rfl rfl rfl <| WL.pass rfl rfl rfl <| WL.pass rfl rfl rfl <| WL.pick rfl rfl rfl <| WL.move rfl rfl <| WL.pass rfl rfl rfl <| WL.pass rfl rfl rfl <| WL.pass rfl rfl rfl <| WL.pick rfl rfl rfl <| WL.move rfl rfl <| WL.pass rfl rfl rfl <| WL.pass rfl rfl rfl <| WL.pass rfl rfl rfl <| WL.pass rfl rfl rfl <| WL.pick rfl rfl rfl <| WL.move rfl rfl <| WL.pass rfl rfl rfl <| WL.pass rfl rfl rfl <| WL.pass rfl rfl rfl <| WL.pass rfl rfl rfl <| WL.pick rfl rfl rfl <| WL.assign rfl rfl <| WL.done <| W.ret <| ⟨_, rfl, Fin.nil ?_⟩
          exact ⟨_, hS.ext, (hS.pick [] rfl).rows, News.of (hS.pick [] rfl).rows rfl, ⟨false, rfl, rfl, hv⟩⟩
         have hv := hv.1 g139; refine WL.take rfl <| WL.move rfl rfl <| WL.take rfl <| WL.eqlD rfl rfl rfl <| WL.pick rfl rfl rfl <| WL.move rfl rfl ?_; by_cases g140 : r74 = (3 : Int)
         ·have hv := hv.1 g140; rw [decide_eq_true g140]; refine WL.take rfl <| WL.loadV (cs := [.int .i64 c77, .slice A80 x78.length k81]) XE27 XG27 rfl rfl (Own.vcells (hS.own (i := 10) rfl)) rfl <| WL.take rfl <| SL.lit1 (vs := is ([(3 : Int), (1 : Int)] : List Int)) hS XU22 XE3 rfl rfl rfl rfl (is_one _) rfl ?_; intro A141 w142 hS; refine WL.take rfl <| SL.lit1 (vs := is ([(4 : Int), (2 : Int)] : List Int)) hS XU22 XE3 rfl rfl rfl rfl (is_one _) rfl ?_; intro A144 w145 hS; refine WL.take rfl <| SL.lit1 (vs := [.slice A141 2 2, .slice A144 2 2]) hS XU25 XE22 rfl rfl rfl rfl (by simp [Value.oneCell']) rfl ?_; intro A147 w148 hS; refine WL.take rfl <| WL.build (cells := #[.int .i64 (2 : Int), .slice A147 2 2]) XB27 rfl rfl rfl <| WL.take rfl <| SL.call hS (ok_rSame (hS.rl (i := 14) rfl) (⟨_, _, (hS.rd (i := 0) rfl), ⟨⟨_, _, _, rfl, (Rd.is_m (hS.rd (i := 2) rfl))⟩, ⟨_, _, _, rfl, (Rd.is_m (hS.rd (i := 1) rfl))⟩, trivial⟩⟩ : Rl _ _ _ _ ([([(3 : Int), (1 : Int)] : List Int), ([(4 : Int), (2 : Int)] : List Int)] : List (List Int))) hv) XF20 rfl XN20 rfl rfl ?_; rintro _ _ w150 ⟨r151, rfl, rfl, hv⟩ hGw150 hS; have hS := hS.n0; refine WL.pick rfl rfl rfl <| WL.move rfl rfl ?_; cases g152 : r151
          ·have hv := hv.2 g152; refine WL.pass rfl rfl rfl <| WL.pass rfl rfl rfl <| WL.pass rfl rfl rfl <| WL.pick rfl rfl rfl <| WL.move rfl rfl <| WL.pass rfl rfl rfl <| WL.pass rfl rfl rfl <| WL.pass rfl rfl rfl <| WL.pick rfl rfl rfl <| WL.move rfl rfl <| WL.pass rfl rfl rfl <| WL.pass rfl rfl rfl <| WL.pass rfl rfl rfl <| WL.pass rfl rfl rfl <| WL.pick rfl rfl rfl <| WL.move rfl rfl <| WL.pass rfl rfl rfl <| WL.pass rfl rfl rfl <| WL.pass rfl rfl rfl <| WL.pass rfl rfl rfl <| WL.pick rfl rfl rfl <| WL.assign rfl rfl <| WL.done <| W.ret <| ⟨_, rfl, Fin.nil ?_⟩
           exact ⟨_, hS.ext, (hS.pick [] rfl).rows, News.of (hS.pick [] rfl).rows rfl, ⟨false, rfl, rfl, hv⟩⟩
          have hv := hv.1 g152; refine WL.take rfl <| WL.move rfl rfl <| WL.take rfl <| SL.lit1 (vs := is ([(4 : Int), (1 : Int)] : List Int)) hS XU22 XE3 rfl rfl rfl rfl (is_one _) rfl ?_; intro A153 w154 hS; refine WL.take rfl <| SL.call hS (ok_rSameInts (hS.rd (i := 12) rfl) (hS.rd (i := 0) rfl) hv) XF21 rfl XN21 rfl rfl ?_; rintro _ _ w156 ⟨r157, rfl, rfl, hv⟩ hGw156 hS; have hS := hS.n0; refine WL.pick rfl rfl rfl <| WL.move rfl rfl ?_; cases g158 : r157
          ·have hv := hv.2 g158; refine WL.pass rfl rfl rfl <| WL.pass rfl rfl rfl <| WL.pass rfl rfl rfl <| WL.pick rfl rfl rfl <| WL.move rfl rfl <| WL.pass rfl rfl rfl <| WL.pass rfl rfl rfl <| WL.pass rfl rfl rfl <| WL.pass rfl rfl rfl <| WL.pick rfl rfl rfl <| WL.move rfl rfl <| WL.pass rfl rfl rfl <| WL.pass rfl rfl rfl <| WL.pass rfl rfl rfl <| WL.pass rfl rfl rfl <| WL.pick rfl rfl rfl <| WL.assign rfl rfl <| WL.done <| W.ret <| ⟨_, rfl, Fin.nil ?_⟩
           exact ⟨_, hS.ext, (hS.pick [] rfl).rows, News.of (hS.pick [] rfl).rows rfl, ⟨false, rfl, rfl, hv⟩⟩
          have hv := hv.1 g158; refine WL.take rfl <| WL.move rfl rfl <| WL.take rfl <| SL.lit1 (vs := is ([(1 : Int), (1 : Int)] : List Int)) hS XU22 XE3 rfl rfl rfl rfl (is_one _) rfl ?_; intro A159 w160 hS; refine WL.take rfl <| SL.call hS (ok_rSameInts (hS.rd (i := 11) rfl) (hS.rd (i := 0) rfl) hv) XF21 rfl XN21 rfl rfl ?_; rintro _ _ w162 ⟨r163, rfl, rfl, hv⟩ hGw162 hS; have hS := hS.n0; refine WL.pick rfl rfl rfl <| WL.move rfl rfl ?_; cases g164 : r163
          ·have hv := hv.2 g164; refine WL.pass rfl rfl rfl <| WL.pass rfl rfl rfl <| WL.pass rfl rfl rfl <| WL.pass rfl rfl rfl <| WL.pick rfl rfl rfl <| WL.move rfl rfl <| WL.pass rfl rfl rfl <| WL.pass rfl rfl rfl <| WL.pass rfl rfl rfl <| WL.pass rfl rfl rfl <| WL.pick rfl rfl rfl <| WL.assign rfl rfl <| WL.done <| W.ret <| ⟨_, rfl, Fin.nil ?_⟩
           exact ⟨_, hS.ext, (hS.pick [] rfl).rows, News.of (hS.pick [] rfl).rows rfl, ⟨false, rfl, rfl, hv⟩⟩
          have hv := hv.1 g164; refine WL.take rfl <| WL.loadV (cs := [.int .i64 (5 : Int), .int .i64 (1 : Int), .slice none 0 0]) XE24 XG24 rfl rfl (Own.vcells (hS.own (i := 31) rfl)) rfl <| WL.take rfl <| WL.loadV (cs := [.int .i64 (2 : Int), .slice A67 2 2]) XE27 XG27 rfl rfl (Own.vcells (hS.own (i := 17) rfl)) rfl <| WL.take rfl <| SL.call hS (ok_mCheck (Rd.nilL w162) (⟨_, _, (hS.rd (i := 18) rfl), ⟨⟨_, _, _, rfl, (Rd.is_m (hS.rd (i := 20) rfl))⟩, ⟨_, _, _, rfl, (Rd.is_m (hS.rd (i := 19) rfl))⟩, trivial⟩⟩ : Rl _ _ _ _ ([([(1 : Int), (2 : Int)] : List Int), ([(3 : Int), (4 : Int)] : List Int)] : List (List Int))) hv) XF22 rfl XN22 rfl rfl ?_; rintro _ _ w165 ⟨r166, rfl, rfl, hv⟩ hGw165 hS; have hS := hS.n0; refine WL.take rfl <| WL.eqlD rfl rfl rfl <| WL.pick rfl rfl rfl <| WL.move rfl rfl ?_; by_cases g167 : r166 = (0 : Int)
          ·have hv := hv.1 g167; rw [decide_eq_true g167]; refine WL.take rfl <| WL.loadV (cs := [.int .i64 (2 : Int), .int .i64 (1 : Int), .slice none 0 0]) XE24 XG24 rfl rfl (Own.vcells (hS.own (i := 32) rfl)) rfl <| WL.take rfl <| WL.loadV (cs := [.int .i64 (2 : Int), .slice A67 2 2]) XE27 XG27 rfl rfl (Own.vcells (hS.own (i := 17) rfl)) rfl <| WL.take rfl <| SL.call hS (ok_mCheck (Rd.nilL w165) (⟨_, _, (hS.rd (i := 18) rfl), ⟨⟨_, _, _, rfl, (Rd.is_m (hS.rd (i := 20) rfl))⟩, ⟨_, _, _, rfl, (Rd.is_m (hS.rd (i := 19) rfl))⟩, trivial⟩⟩ : Rl _ _ _ _ ([([(1 : Int), (2 : Int)] : List Int), ([(3 : Int), (4 : Int)] : List Int)] : List (List Int))) hv) XF22 rfl XN22 rfl rfl ?_; rintro _ _ w168 ⟨r169, rfl, rfl, hv⟩ hGw168 hS; have hS := hS.n0; refine WL.take rfl <| WL.eqlD rfl rfl rfl <| WL.pick rfl rfl rfl <| WL.assign rfl rfl <| WL.done <| W.ret <| ⟨_, rfl, Fin.nil ?_⟩
           exact ⟨_, hS.ext, (hS.pick [] rfl).rows, News.of (hS.pick [] rfl).rows rfl, ⟨(decide (r169 = (2 : Int))), rfl, rfl, hv⟩⟩
          have hv := hv.2 g167; rw [decide_eq_false g167]; refine WL.pass rfl rfl rfl <| WL.pass rfl rfl rfl <| WL.pass rfl rfl rfl <| WL.pass rfl rfl rfl <| WL.pick rfl rfl rfl <| WL.assign rfl rfl <| WL.done <| W.ret <| ⟨_, rfl, Fin.nil ?_⟩
          exact ⟨_, hS.ext, (hS.pick [] rfl).rows, News.of (hS.pick [] rfl).rows rfl, ⟨false, rfl, rfl, hv⟩⟩
         have hv := hv.2 g140; rw [decide_eq_false g140]; refine WL.pass rfl rfl rfl <| WL.pass rfl rfl rfl <| WL.pass rfl rfl rfl <| WL.pass rfl rfl rfl <| WL.pass rfl rfl rfl <| WL.pass rfl rfl rfl <| WL.pick rfl rfl rfl <| WL.move rfl rfl <| WL.pass rfl rfl rfl <| WL.pass rfl rfl rfl <| WL.pass rfl rfl rfl <| WL.pick rfl rfl rfl <| WL.move rfl rfl <| WL.pass rfl rfl rfl <| WL.pass rfl rfl rfl <| WL.pass rfl rfl rfl <| WL.pick rfl rfl rfl <| WL.move rfl rfl <| WL.pass rfl rfl rfl <| WL.pass rfl rfl rfl <| WL.pass rfl rfl rfl <| WL.pass rfl rfl rfl <| WL.pick rfl rfl rfl <| WL.move rfl rfl <| WL.pass rfl rfl rfl <| WL.pass rfl rfl rfl <| WL.pass rfl rfl rfl <| WL.pass rfl rfl rfl <| WL.pick rfl rfl rfl <| WL.assign rfl rfl <| WL.done <| W.ret <| ⟨_, rfl, Fin.nil ?_⟩
         exact ⟨_, hS.ext, (hS.pick [] rfl).rows, News.of (hS.pick [] rfl).rows rfl, ⟨false, rfl, rfl, hv⟩⟩
        have hv := hv.2 g130; rw [decide_eq_false g130]; refine WL.pass rfl rfl rfl <| WL.pass rfl rfl rfl <| WL.pass rfl rfl rfl <| WL.pass rfl rfl rfl <| WL.pass rfl rfl rfl <| WL.pick rfl rfl rfl <| WL.move rfl rfl <| WL.pass rfl rfl rfl <| WL.pass rfl rfl rfl <| WL.pick rfl rfl rfl <| WL.move rfl rfl <| WL.pass rfl rfl rfl <| WL.pass rfl rfl rfl <| WL.pass rfl rfl rfl <| WL.pass rfl rfl rfl <| WL.pass rfl rfl rfl <| WL.pass rfl rfl rfl <| WL.pick rfl rfl rfl <| WL.move rfl rfl <| WL.pass rfl rfl rfl <| WL.pass rfl rfl rfl <| WL.pass rfl rfl rfl <| WL.pick rfl rfl rfl <| WL.move rfl rfl <| WL.pass rfl rfl rfl <| WL.pass rfl rfl rfl <| WL.pass rfl rfl rfl <| WL.pick rfl rfl rfl <| WL.move rfl rfl <| WL.pass rfl rfl rfl <| WL.pass rfl rfl rfl <| WL.pass rfl rfl rfl <| WL.pass rfl rfl rfl <| WL.pick rfl rfl rfl <| WL.move rfl rfl <| WL.pass rfl rfl rfl <| WL.pass rfl rfl rfl <| WL.pass rfl rfl rfl <| WL.pass rfl rfl rfl <| WL.pick rfl rfl rfl <| WL.assign rfl rfl <| WL.done <| W.ret <| ⟨_, rfl, Fin.nil ?_⟩
        exact ⟨_, hS.ext, (hS.pick [] rfl).rows, News.of (hS.pick [] rfl).rows rfl, ⟨false, rfl, rfl, hv⟩⟩
       have hv := hv.2 g111; rw [decide_eq_false g111]; refine WL.pass rfl rfl rfl <| WL.pass rfl rfl rfl <| WL.pass rfl rfl rfl <| WL.pass rfl rfl rfl <| WL.pass rfl rfl rfl <| WL.pass rfl rfl rfl <| WL.pick rfl rfl rfl <| WL.move rfl rfl <| WL.pass rfl rfl rfl <| WL.pass rfl rfl rfl <| WL.pass rfl rfl rfl <| WL.pick rfl rfl rfl <| WL.move rfl rfl <| WL.pass rfl rfl rfl <| WL.pass rfl rfl rfl <| WL.pick rfl rfl rfl <| WL.move rfl rfl <| WL.pass rfl rfl rfl <| WL.pass rfl rfl rfl <| WL.pass rfl rfl rfl <| WL.pass rfl rfl rfl <| WL.pass rfl rfl rfl <| WL.pick rfl rfl rfl <| WL.move rfl rfl <| WL.pass rfl rfl rfl <| WL.pass rfl rfl rfl <| WL.pick rfl rfl rfl <| WL.move rfl rfl <| WL.pass rfl rfl rfl <| WL.pass rfl rfl rfl <| WL.pass rfl rfl rfl <| WL.pass rfl rfl rfl <| WL.pass rfl rfl rfl <| WL.pass rfl rfl rfl <| WL.pick rfl rfl rfl <| WL.move rfl rfl <| WL.pass rfl rfl rfl <| WL.pass rfl rfl rfl <| WL.pass rfl rfl rfl <| WL.pick rfl rfl rfl <| WL.move rfl rfl <| WL.pass rfl rfl rfl <| WL.pass rfl rfl rfl <| WL.pass rfl rfl rfl <| WL.pick rfl rfl rfl <| WL.move rfl rfl <| WL.pass rfl rfl rfl <| WL.pass rfl rfl rfl <| WL.pass rfl rfl rfl <| WL.pass rfl rfl rfl <| WL.pick rfl rfl rfl <| WL.move rfl rfl <| WL.pass rfl rfl rfl <| WL.pass rfl rfl rfl <| WL.pass rfl rfl rfl <| WL.pass rfl rfl rfl <| WL.pick rfl rfl rfl <| WL.assign rfl rfl <| WL.done <| W.ret <| ⟨_, rfl, Fin.nil ?_⟩
       exact ⟨_, hS.ext, (hS.pick [] rfl).rows, News.of (hS.pick [] rfl).rows rfl, ⟨false, rfl, rfl, hv⟩⟩
      have hv := hv.2 g110; rw [decide_eq_false g110]; refine WL.pass rfl rfl rfl <| WL.pass rfl rfl rfl <| WL.pick rfl rfl rfl <| WL.assign rfl rfl <| WL.done <| W.seq <| W.region <| WL.move rfl rfl <| WL.move rfl rfl <| WL.pass rfl rfl rfl <| WL.pass rfl rfl rfl <| WL.pass rfl rfl rfl <| WL.pass rfl rfl rfl <| WL.pass rfl rfl rfl <| WL.pass rfl rfl rfl <| WL.pick rfl rfl rfl <| WL.move rfl rfl <| WL.pass rfl rfl rfl <| WL.pass rfl rfl rfl <| WL.pass rfl rfl rfl <| WL.pick rfl rfl rfl <| WL.move rfl rfl <| WL.pass rfl rfl rfl <| WL.pass rfl rfl rfl <| WL.pick rfl rfl rfl <| WL.move rfl rfl <| WL.pass rfl rfl rfl <| WL.pass rfl rfl rfl <| WL.pass rfl rfl rfl <| WL.pass rfl rfl rfl <| WL.pass rfl rfl rfl <| WL.pick rfl rfl rfl <| WL.move rfl rfl <| WL.pass rfl rfl rfl <| WL.pass rfl rfl rfl <| WL.pick rfl rfl rfl <| WL.move rfl rfl <| WL.pass rfl rfl rfl <| WL.pass rfl rfl rfl <| WL.pass rfl rfl rfl <| WL.pass rfl rfl rfl <| WL.pass rfl rfl rfl <| WL.pass rfl rfl rfl <| WL.pick rfl rfl rfl <| WL.move rfl rfl <| WL.pass rfl rfl rfl <| WL.pass rfl rfl rfl <| WL.pass rfl rfl rfl <| WL.pick rfl rfl rfl <| WL.move rfl rfl <| WL.pass rfl rfl rfl <| WL.pass rfl rfl rfl <| WL.pass rfl rfl rfl <| WL.pick rfl rfl rfl <| WL.move rfl rfl <| WL.pass rfl rfl rfl <| WL.pass rfl rfl rfl <| WL.pass rfl rfl rfl <| WL.pass rfl rfl rfl <| WL.pick rfl rfl rfl <| WL.move rfl rfl <| WL.pass rfl rfl rfl <| WL.pass rfl rfl rfl <| WL.pass rfl rfl rfl <| WL.pass rfl rfl rfl <| WL.pick rfl rfl rfl <| WL.assign rfl rfl <| WL.done <| W.ret <| ⟨_, rfl, Fin.nil ?_⟩
      exact ⟨_, hS.ext, (hS.pick [] rfl).rows, News.of (hS.pick [] rfl).rows rfl, ⟨false, rfl, rfl, hv⟩⟩
     have hv := hv.2 g109; rw [decide_eq_false g109]; refine WL.pass rfl rfl rfl <| WL.pass rfl rfl rfl <| WL.pick rfl rfl rfl <| WL.move rfl rfl <| WL.pass rfl rfl rfl <| WL.pass rfl rfl rfl <| WL.pick rfl rfl rfl <| WL.assign rfl rfl <| WL.done <| W.seq <| W.region <| WL.move rfl rfl <| WL.move rfl rfl <| WL.pass rfl rfl rfl <| WL.pass rfl rfl rfl <| WL.pass rfl rfl rfl <| WL.pass rfl rfl rfl <| WL.pass rfl rfl rfl <| WL.pass rfl rfl rfl <| WL.pick rfl rfl rfl <| WL.move rfl rfl <| WL.pass rfl rfl rfl <| WL.pass rfl rfl rfl <| WL.pass rfl rfl rfl <| WL.pick rfl rfl rfl <| WL.move rfl rfl <| WL.pass rfl rfl rfl <| WL.pass rfl rfl rfl <| WL.pick rfl rfl rfl <| WL.move rfl rfl <| WL.pass rfl rfl rfl <| WL.pass rfl rfl rfl <| WL.pass rfl rfl rfl <| WL.pass rfl rfl rfl <| WL.pass rfl rfl rfl <| WL.pick rfl rfl rfl <| WL.move rfl rfl <| WL.pass rfl rfl rfl <| WL.pass rfl rfl rfl <| WL.pick rfl rfl rfl <| WL.move rfl rfl <| WL.pass rfl rfl rfl <| WL.pass rfl rfl rfl <| WL.pass rfl rfl rfl <| WL.pass rfl rfl rfl <| WL.pass rfl rfl rfl <| WL.pass rfl rfl rfl <| WL.pick rfl rfl rfl <| WL.move rfl rfl <| WL.pass rfl rfl rfl <| WL.pass rfl rfl rfl <| WL.pass rfl rfl rfl <| WL.pick rfl rfl rfl <| WL.move rfl rfl <| WL.pass rfl rfl rfl <| WL.pass rfl rfl rfl <| WL.pass rfl rfl rfl <| WL.pick rfl rfl rfl <| WL.move rfl rfl <| WL.pass rfl rfl rfl <| WL.pass rfl rfl rfl <| WL.pass rfl rfl rfl <| WL.pass rfl rfl rfl <| WL.pick rfl rfl rfl <| WL.move rfl rfl <| WL.pass rfl rfl rfl <| WL.pass rfl rfl rfl <| WL.pass rfl rfl rfl <| WL.pass rfl rfl rfl <| WL.pick rfl rfl rfl <| WL.assign rfl rfl <| WL.done <| W.ret <| ⟨_, rfl, Fin.nil ?_⟩
     exact ⟨_, hS.ext, (hS.pick [] rfl).rows, News.of (hS.pick [] rfl).rows rfl, ⟨false, rfl, rfl, hv⟩⟩
    have hv := hv.2 g108; rw [decide_eq_false g108]; refine WL.pass rfl rfl rfl <| WL.pass rfl rfl rfl <| WL.pick rfl rfl rfl <| WL.move rfl rfl <| WL.pass rfl rfl rfl <| WL.pass rfl rfl rfl <| WL.pick rfl rfl rfl <| WL.move rfl rfl <| WL.pass rfl rfl rfl <| WL.pass rfl rfl rfl <| WL.pick rfl rfl rfl <| WL.assign rfl rfl <| WL.done <| W.seq <| W.region <| WL.move rfl rfl <| WL.move rfl rfl <| WL.pass rfl rfl rfl <| WL.pass rfl rfl rfl <| WL.pass rfl rfl rfl <| WL.pass rfl rfl rfl <| WL.pass rfl rfl rfl <| WL.pass rfl rfl rfl <| WL.pick rfl rfl rfl <| WL.move rfl rfl <| WL.pass rfl rfl rfl <| WL.pass rfl rfl rfl <| WL.pass rfl rfl rfl <| WL.pick rfl rfl rfl <| WL.move rfl rfl <| WL.pass rfl rfl rfl <| WL.pass rfl rfl rfl <| WL.pick rfl rfl rfl <| WL.move rfl rfl <| WL.pass rfl rfl rfl <| WL.pass rfl rfl rfl <| WL.pass rfl rfl rfl <| WL.pass rfl rfl rfl <| WL.pass rfl rfl rfl <| WL.pick rfl rfl rfl <| WL.move rfl rfl <| WL.pass rfl rfl rfl <| WL.pass rfl rfl rfl <| WL.pick rfl rfl rfl <| WL.move rfl rfl <| WL.pass rfl rfl rfl <| WL.pass rfl rfl rfl <| WL.pass rfl rfl rfl <| WL.pass rfl rfl rfl <| WL.pass rfl rfl rfl <| WL.pass rfl rfl rfl <| WL.pick rfl rfl rfl <| WL.move rfl rfl <| WL.pass rfl rfl rfl <| WL.pass rfl rfl rfl <| WL.pass rfl rfl rfl <| WL.pick rfl rfl rfl <| WL.move rfl rfl <| WL.pass rfl rfl rfl <| WL.pass rfl rfl rfl <| WL.pass rfl rfl rfl <| WL.pick rfl rfl rfl <| WL.move rfl rfl <| WL.pass rfl rfl rfl <| WL.pass rfl rfl rfl <| WL.pass rfl rfl rfl <| WL.pass rfl rfl rfl <| WL.pick rfl rfl rfl <| WL.move rfl rfl <| WL.pass rfl rfl rfl <| WL.pass rfl rfl rfl <| WL.pass rfl rfl rfl <| WL.pass rfl rfl rfl <| WL.pick rfl rfl rfl <| WL.assign rfl rfl <| WL.done <| W.ret <| ⟨_, rfl, Fin.nil ?_⟩
    exact ⟨_, hS.ext, (hS.pick [] rfl).rows, News.of (hS.pick [] rfl).rows rfl, ⟨false, rfl, rfl, hv⟩⟩
   have hv := hv.2 g107; rw [decide_eq_false g107]; refine WL.pass rfl rfl rfl <| WL.pass rfl rfl rfl <| WL.pick rfl rfl rfl <| WL.move rfl rfl <| WL.pass rfl rfl rfl <| WL.pass rfl rfl rfl <| WL.pick rfl rfl rfl <| WL.move rfl rfl <| WL.pass rfl rfl rfl <| WL.pass rfl rfl rfl <| WL.pick rfl rfl rfl <| WL.move rfl rfl <| WL.pass rfl rfl rfl <| WL.pass rfl rfl rfl <| WL.pick rfl rfl rfl <| WL.assign rfl rfl <| WL.done <| W.seq <| W.region <| WL.move rfl rfl <| WL.move rfl rfl <| WL.pass rfl rfl rfl <| WL.pass rfl rfl rfl <| WL.pass rfl rfl rfl <| WL.pass rfl rfl rfl <| WL.pass rfl rfl rfl <| WL.pass rfl rfl rfl <| WL.pick rfl rfl rfl <| WL.move rfl rfl <| WL.pass rfl rfl rfl <| WL.pass rfl rfl rfl <| WL.pass rfl rfl rfl <| WL.pick rfl rfl rfl <| WL.move rfl rfl <| WL.pass rfl rfl rfl <| WL.pass rfl rfl rfl <| WL.pick rfl rfl rfl <| WL.move rfl rfl <| WL.pass rfl rfl rfl <| WL.pass rfl rfl rfl <| WL.pass rfl rfl rfl <| WL.pass rfl rfl rfl <| WL.pass rfl rfl rfl <| WL.pick rfl rfl rfl <| WL.move rfl rfl <| WL.pass rfl rfl rfl <| WL.pass rfl rfl rfl <| WL.pick rfl rfl rfl <| WL.move rfl rfl <| WL.pass rfl rfl rfl <| WL.pass rfl rfl rfl <| WL.pass rfl rfl rfl <| WL.pass rfl rfl rfl <| WL.pass rfl rfl rfl <| WL.pass rfl rfl rfl <| WL.pick rfl rfl rfl <| WL.move rfl rfl <| WL.pass rfl rfl rfl <| WL.pass rfl rfl rfl <| WL.pass rfl rfl rfl <| WL.pick rfl rfl rfl <| WL.move rfl rfl <| WL.pass rfl rfl rfl <| WL.pass rfl rfl rfl <| WL.pass rfl rfl rfl <| WL.pick rfl rfl rfl <| WL.move rfl rfl <| WL.pass rfl rfl rfl <| WL.pass rfl rfl rfl <| WL.pass rfl rfl rfl <| WL.pass rfl rfl rfl <| WL.pick rfl rfl rfl <| WL.move rfl rfl <| WL.pass rfl rfl rfl <| WL.pass rfl rfl rfl <| WL.pass rfl rfl rfl <| WL.pass rfl rfl rfl <| WL.pick rfl rfl rfl <| WL.assign rfl rfl <| WL.done <| W.ret <| ⟨_, rfl, Fin.nil ?_⟩
   exact ⟨_, hS.ext, (hS.pick [] rfl).rows, News.of (hS.pick [] rfl).rows rfl, ⟨false, rfl, rfl, hv⟩⟩
  have hv := hv.2 g106; rw [decide_eq_false g106]; refine WL.pass rfl rfl rfl <| WL.pass rfl rfl rfl <| WL.pick rfl rfl rfl <| WL.move rfl rfl <| WL.pass rfl rfl rfl <| WL.pass rfl rfl rfl <| WL.pick rfl rfl rfl <| WL.move rfl rfl <| WL.pass rfl rfl rfl <| WL.pass rfl rfl rfl <| WL.pick rfl rfl rfl <| WL.move rfl rfl <| WL.pass rfl rfl rfl <| WL.pass rfl rfl rfl <| WL.pick rfl rfl rfl <| WL.move rfl rfl <| WL.pass rfl rfl rfl <| WL.pass rfl rfl rfl <| WL.pick rfl rfl rfl <| WL.assign rfl rfl <| WL.done <| W.seq <| W.region <| WL.move rfl rfl <| WL.move rfl rfl <| WL.pass rfl rfl rfl <| WL.pass rfl rfl rfl <| WL.pass rfl rfl rfl <| WL.pass rfl rfl rfl <| WL.pass rfl rfl rfl <| WL.pass rfl rfl rfl <| WL.pick rfl rfl rfl <| WL.move rfl rfl <| WL.pass rfl rfl rfl <| WL.pass rfl rfl rfl <| WL.pass rfl rfl rfl <| WL.pick rfl rfl rfl <| WL.move rfl rfl <| WL.pass rfl rfl rfl <| WL.pass rfl rfl rfl <| WL.pick rfl rfl rfl <| WL.move rfl rfl <| WL.pass rfl rfl rfl <| WL.pass rfl rfl rfl <| WL.pass rfl rfl rfl <| WL.pass rfl rfl rfl <| WL.pass rfl rfl rfl <| WL.pick rfl rfl rfl <| WL.move rfl rfl <| WL.pass rfl rfl rfl <| WL.pass rfl rfl rfl <| WL.pick rfl rfl rfl <| WL.move rfl rfl <| WL.pass rfl rfl rfl <| WL.pass rfl rfl rfl <| WL.pass rfl rfl rfl <| WL.pass rfl rfl rfl <| WL.pass rfl rfl rfl <| WL.pass rfl rfl rfl <| WL.pick rfl rfl rfl <| WL.move rfl rfl <| WL.pass rfl rfl rfl <| WL.pass rfl rfl rfl <| WL.pass rfl rfl rfl <| WL.pick rfl rfl rfl <| WL.move rfl rfl <| WL.pass rfl rfl rfl <| WL.pass rfl rfl rfl <| WL.pass rfl rfl rfl <| WL.pick rfl rfl rfl <| WL.move rfl rfl <| WL.pass rfl rfl rfl <| WL.pass rfl rfl rfl <| WL.pass rfl rfl rfl <| WL.pass rfl rfl rfl <| WL.pick rfl rfl rfl <| WL.move rfl rfl <| WL.pass rfl rfl rfl <| WL.pass rfl rfl rfl <| WL.pass rfl rfl rfl <| WL.pass rfl rfl rfl <| WL.pick rfl rfl rfl <| WL.assign rfl rfl <| WL.done <| W.ret <| ⟨_, rfl, Fin.nil ?_⟩
  exact ⟨_, hS.ext, (hS.pick [] rfl).rows, News.of (hS.pick [] rfl).rows rfl, ⟨false, rfl, rfl, hv⟩⟩
 have hv := hv.2 g105; rw [decide_eq_false g105]; refine WL.pass rfl rfl rfl <| WL.pass rfl rfl rfl <| WL.pick rfl rfl rfl <| WL.move rfl rfl <| WL.pass rfl rfl rfl <| WL.pass rfl rfl rfl <| WL.pick rfl rfl rfl <| WL.move rfl rfl <| WL.pass rfl rfl rfl <| WL.pass rfl rfl rfl <| WL.pick rfl rfl rfl <| WL.move rfl rfl <| WL.pass rfl rfl rfl <| WL.pass rfl rfl rfl <| WL.pick rfl rfl rfl <| WL.move rfl rfl <| WL.pass rfl rfl rfl <| WL.pass rfl rfl rfl <| WL.pick rfl rfl rfl <| WL.move rfl rfl <| WL.pass rfl rfl rfl <| WL.pass rfl rfl rfl <| WL.pick rfl rfl rfl <| WL.assign rfl rfl <| WL.done <| W.seq <| W.region <| WL.move rfl rfl <| WL.move rfl rfl <| WL.pass rfl rfl rfl <| WL.pass rfl rfl rfl <| WL.pass rfl rfl rfl <| WL.pass rfl rfl rfl <| WL.pass rfl rfl rfl <| WL.pass rfl rfl rfl <| WL.pick rfl rfl rfl <| WL.move rfl rfl <| WL.pass rfl rfl rfl <| WL.pass rfl rfl rfl <| WL.pass rfl rfl rfl <| WL.pick rfl rfl rfl <| WL.move rfl rfl <| WL.pass rfl rfl rfl <| WL.pass rfl rfl rfl <| WL.pick rfl rfl rfl <| WL.move rfl rfl <| WL.pass rfl rfl rfl <| WL.pass rfl rfl rfl <| WL.pass rfl rfl rfl <| WL.pass rfl rfl rfl <| WL.pass rfl rfl rfl <| WL.pick rfl rfl rfl <| WL.move rfl rfl <| WL.pass rfl rfl rfl <| WL.pass rfl rfl rfl <| WL.pick rfl rfl rfl <| WL.move rfl rfl <| WL.pass rfl rfl rfl <| WL.pass rfl rfl rfl <| WL.pass rfl rfl rfl <| WL.pass rfl rfl rfl <| WL.pass rfl rfl rfl <| WL.pass rfl rfl rfl <| WL.pick rfl rfl rfl <| WL.move rfl rfl <| WL.pass rfl rfl rfl <| WL.pass rfl rfl rfl <| WL.pass rfl rfl rfl <| WL.pick rfl rfl rfl <| WL.move rfl rfl <| WL.pass rfl rfl rfl <| WL.pass rfl rfl rfl <| WL.pass rfl rfl rfl <| WL.pick rfl rfl rfl <| WL.move rfl rfl <| WL.pass rfl rfl rfl <| WL.pass rfl rfl rfl <| WL.pass rfl rfl rfl <| WL.pass rfl rfl rfl <| WL.pick rfl rfl rfl <| WL.move rfl rfl <| WL.pass rfl rfl rfl <| WL.pass rfl rfl rfl <| WL.pass rfl rfl rfl <| WL.pass rfl rfl rfl <| WL.pick rfl rfl rfl <| WL.assign rfl rfl <| WL.done <| W.ret <| ⟨_, rfl, Fin.nil ?_⟩
 exact ⟨_, hS.ext, (hS.pick [] rfl).rows, News.of (hS.pick [] rfl).rows rfl, ⟨false, rfl, rfl, hv⟩⟩
end Go.Proofs.Ytiboieijhehjnaa
set_option linter.unusedSimpArgs false
set_option linter.unusedVariables false
set_option maxRecDepth 4000
set_option maxHeartbeats 4000000
namespace Go.Proofs.Ytiboieijhehjnaa
open Go.RowKit
def V_LPicks (Pf : Int) (Mf : Int) (mf : List Int) (Cm : Int) (m : List (List Int)) (l : List Int) (Q : Bool → Prop) : Prop :=
  V_awake  (fun r16 => (((!r16) = true) → (V_awake  (fun r19 => Q r19))) ∧ ((!r16) = false → (V_rFew Cm m (300 : Int) (fun r21 => (((!r21) = true) → (V_awake  (fun r24 => Q r24))) ∧ ((!r21) = false → ((((300 : Int) < ((l.length : Nat) : Int)) → (V_awake  (fun r27 => Q r27))) ∧ (¬ ((300 : Int) < ((l.length : Nat) : Int)) → (V_Columns Pf Mf mf Cm m l (fun q => match q with | (c29, x30, r31) => V_rColumns Pf Mf mf Cm m l (fun q => match q with | (c40, x41, r42) => V_Vec Pf Mf mf l Cm m (fun q => match q with | (x51, r52) => V_rVec Pf Mf mf l Cm m (fun q => match q with | (x57, r58) => ((r31 ≠ r42) → Q false) ∧ (¬ (r31 ≠ r42) → (V_rSame c29 x30 c40 x41 (fun r64 => (((!r64) = true) → Q false) ∧ ((!r64) = false → (((r52 ≠ r58) → Q false) ∧ (¬ (r52 ≠ r58) → (V_rSameInts x51 x57 (fun r68 => (((!r68) = true) → Q false) ∧ ((!r68) = false → (((((l.length : Nat) : Int) = (0 : Int)) → Q true) ∧ (¬ (((l.length : Nat) : Int) = (0 : Int)) → ((0 ≤ (0 : Int) ∧ (0 : Int) < (l.length : Nat)) ∧ (V_Identity (gi l (0 : Int)) (fun q => match q with | (c73, x74, r75) => (0 ≤ (0 : Int) ∧ (0 : Int) < (l.length : Nat)) ∧ (V_rIdentity (gi l (0 : Int)) (fun q => match q with | (c83, x84, r85) => ((r75 = r85) → (V_rSame c73 x74 c83 x84 (fun r93 => Q r93))) ∧ (¬ (r75 = r85) → Q false)))))))))))))))))))))))))))))
theorem ok_LPicks {w : World} {Q : Bool → Prop} {Pf : Int} {Mf : Int} {mf : List Int} {Cm : Int} {m : List (List Int)} {l : List Int} {Bf : Nat} {Af : Option Addr} {nf kf : Nat} (hf : Rd Bf w 1 Af nf kf (is mf)) {Am : Option Addr} {nm km : Nat} (hm : Rl w Am nm km m) {Bl : Nat} {Al : Option Addr} {nl kl : Nat} (hl : Rd Bl w 1 Al nl kl (is l)) (hv : V_LPicks Pf Mf mf Cm m l Q) :
   Calls Try.prog 11 #[.agg #[.int .i64 Pf, .int .i64 Mf, .slice Af nf kf], .agg #[.int .i64 Cm, .slice Am nm km], .slice Al nl kl] w fun e w' => ∃ v Qr, e = .returned v ∧ w.grownBy w' none ∧ Rows w.heap.size none w' Qr ∧ News w.heap.size Qr ∧ ∃ (r0 : Bool), v = .bool r0 ∧ Qr = [] ∧ Q r0 := by
 have hnf := hf.ilen; subst hnf; have hnm := hm.len; subst hnm; obtain ⟨hsm, hHm⟩ := hm.heads; have hnl := hl.ilen; subst hnl; refine calls_swap <| calls_of_W (vs := [.agg #[.int .i64 Pf, .int .i64 Mf, .slice Af mf.length kf], .agg #[.int .i64 Cm, .slice Am m.length km], .slice Al l.length kl]) [6] XF11 rfl rfl rfl rfl ?_; have hS := St.start w; unfold V_LPicks at hv; refine W.seq <| W.region <| SL.box (z := 3) (cs := [.int .i64 Pf, .int .i64 Mf, .slice Af mf.length kf]) hS rfl rfl rfl rfl ?_; intro g11 w12 hS; refine SL.box (z := 2) (cs := [.int .i64 Cm, .slice Am m.length km]) hS rfl rfl rfl rfl ?_; intro g13 w14 hS; refine WL.assign rfl rfl <| WL.done <| W.seq <| W.seq <| W.region <| SL.call hS (ok_awake  hv) XF15 rfl XN15 rfl rfl ?_; rintro _ _ w15 ⟨r16, rfl, rfl, hv⟩ hGw15 hS; have hS := hS.n0; refine WL.not rfl rfl <| WL.move rfl rfl ?_; rcases g17 : (!r16) with _ | _
 ·have hv := hv.2 g17; refine WL.take rfl <| WL.loadV (cs := [.int .i64 Cm, .slice Am m.length km]) XE27 XG27 rfl rfl (Own.vcells (hS.own (i := 0) rfl)) rfl <| WL.take rfl <| SL.call hS (ok_rFew (RlH.rl (RlH.ext hHm hS.ext)) hv) XF16 rfl XN16 rfl rfl ?_; rintro _ _ w20 ⟨r21, rfl, rfl, hv⟩ hGw20 hS; have hS := hS.n0; refine WL.take rfl <| WL.not rfl rfl <| WL.pick rfl rfl rfl <| WL.move rfl rfl ?_; rcases g22 : (!r21) with _ | _
  ·have hv := hv.2 g22; refine WL.take rfl <| WL.move rfl rfl <| WL.take rfl <| WL.len XU22 rfl rfl <| WL.take rfl <| WL.gtrD rfl rfl rfl <| WL.pick rfl rfl rfl <| WL.done <| W.cond2 rfl (fun c25 => ?_) (fun c25 => ?_)
   ·have hv := hv.1 (of_decide_eq_true c25); refine W.seq <| W.region <| SL.call hS (ok_awake  hv) XF15 rfl XN15 rfl rfl ?_; rintro _ _ w26 ⟨r27, rfl, rfl, hv⟩ hGw26 hS; have hS := hS.n0; refine WL.assign rfl rfl <| WL.done <| W.ret <| ⟨_, rfl, Fin.nil ?_⟩
    exact ⟨_, hS.ext, (hS.pick [] rfl).rows, News.of (hS.pick [] rfl).rows rfl, ⟨r27, rfl, rfl, hv⟩⟩
   have hv := hv.2 (of_decide_eq_false c25); refine W.skip <| W.seq <| W.region <| WL.loadV (cs := [.int .i64 Pf, .int .i64 Mf, .slice Af mf.length kf]) XE24 XG24 rfl rfl (Own.vcells (hS.own (i := 1) rfl)) rfl <| WL.loadV (cs := [.int .i64 Cm, .slice Am m.length km]) XE27 XG27 rfl rfl (Own.vcells (hS.own (i := 0) rfl)) rfl <| WL.move rfl rfl <| SL.call hS (ok_Columns (hS.ro hf) (RlH.rl (RlH.ext hHm hS.ext)) (hS.ro hl) hv) XF47 rfl XN47 rfl rfl ?_; rintro _ _ w28 ⟨c29, x30, r31, A32, k33, hs34, rfl, rfl, hv⟩ hGw28 hS; have hS := hS.n1; refine WL.move rfl rfl <| WL.extract rfl rfl rfl <| WL.extract rfl rfl rfl <| SL.alloc (cs := [.int .i64 (0 : Int), .slice none 0 0]) hS XE27 rfl rfl ?_; intro g36 w37 hS; refine SL.storeV (cs := [.int .i64 c29, .slice A32 x30.length k33]) 0 hS rfl XE27 rfl rfl rfl rfl rfl ?_; intro w38 hS; refine WL.assign rfl rfl <| WL.done <| W.seq <| W.region <| WL.loadV (cs := [.int .i64 Pf, .int .i64 Mf, .slice Af mf.length kf]) XE24 XG24 rfl rfl (Own.vcells (hS.own (i := 3) rfl)) rfl <| WL.loadV (cs := [.int .i64 Cm, .slice Am m.length km]) XE27 XG27 rfl rfl (Own.vcells (hS.own (i := 2) rfl)) rfl <| WL.move rfl rfl <| SL.call hS (ok_rColumns (hS.ro hf) (RlH.rl (RlH.ext hHm hS.ext)) (hS.ro hl) hv) XF48 rfl XN48 rfl rfl ?_; rintro _ _ w39 ⟨c40, x41, r42, A43, k44, hs45, rfl, rfl, hv⟩ hGw39 hS; have hS := hS.n1; refine WL.move rfl rfl <| WL.extract rfl rfl rfl <| WL.extract rfl rfl rfl <| SL.alloc (cs := [.int .i64 (0 : Int), .slice none 0 0]) hS XE27 rfl rfl ?_; intro g47 w48 hS; refine SL.storeV (cs := [.int .i64 c40, .slice A43 x41.length k44]) 0 hS rfl XE27 rfl rfl rfl rfl rfl ?_; intro w49 hS; refine WL.assign rfl rfl <| WL.done <| W.seq <| W.region <| WL.loadV (cs := [.int .i64 Pf, .int .i64 Mf, .slice Af mf.length kf]) XE24 XG24 rfl rfl (Own.vcells (hS.own (i := 5) rfl)) rfl <| WL.move rfl rfl <| WL.loadV (cs := [.int .i64 Cm, .slice Am m.length km]) XE27 XG27 rfl rfl (Own.vcells (hS.own (i := 4) rfl)) rfl <| SL.call hS (ok_Vec (hS.ro hf) (hS.ro hl) (RlH.rl (RlH.ext hHm hS.ext)) hv) XF49 rfl XN49 rfl rfl ?_; rintro _ _ w50 ⟨x51, r52, A53, k54, rfl, rfl, hv⟩ hGw50 hS; have hS := hS.n1; refine WL.move rfl rfl <| WL.extract rfl rfl rfl <| WL.extract rfl rfl rfl <| WL.assign rfl rfl <| WL.assign rfl rfl <| WL.done <| W.seq <| W.region <| WL.loadV (cs := [.int .i64 Pf, .int .i64 Mf, .slice Af mf.length kf]) XE24 XG24 rfl rfl (Own.vcells (hS.own (i := 6) rfl)) rfl <| WL.move rfl rfl <| WL.loadV (cs := [.int .i64 Cm, .slice Am m.length km]) XE27 XG27 rfl rfl (Own.vcells (hS.own (i := 5) rfl)) rfl <| SL.call hS (ok_rVec (hS.ro hf) (hS.ro hl) (RlH.rl (RlH.ext hHm hS.ext)) hv) XF50 rfl XN50 rfl rfl ?_; rintro _ _ w56 ⟨x57, r58, A59, k60, rfl, rfl, hv⟩ hGw56 hS; have hS := hS.n1; refine WL.move rfl rfl <| WL.extract rfl rfl rfl <| WL.extract rfl rfl rfl <| WL.assign rfl rfl <| WL.assign rfl rfl <| WL.done <| W.seq <| W.seq <| W.region <| WL.move rfl rfl <| WL.move rfl rfl <| WL.neqD rfl rfl rfl <| WL.move rfl rfl ?_; by_cases g62 : r31 ≠ r42
   ·have hv := hv.1 g62; rw [decide_eq_true g62]; refine WL.pass rfl rfl rfl <| WL.pass rfl rfl rfl <| WL.pass rfl rfl rfl <| WL.pass rfl rfl rfl <| WL.pick rfl rfl rfl <| WL.move rfl rfl <| WL.pass rfl rfl rfl <| WL.pass rfl rfl rfl <| WL.pass rfl rfl rfl <| WL.pick rfl rfl rfl <| WL.move rfl rfl <| WL.pass rfl rfl rfl <| WL.pass rfl rfl rfl <| WL.pass rfl rfl rfl <| WL.pass rfl rfl rfl <| WL.pick rfl rfl rfl <| WL.done <| W.condT rfl <| W.seq <| W.region <| WL.assign rfl rfl <| WL.done <| W.ret <| ⟨_, rfl, Fin.nil ?_⟩
    exact ⟨_, hS.ext, (hS.pick [] rfl).rows, News.of (hS.pick [] rfl).rows rfl, ⟨false, rfl, rfl, hv⟩⟩
   have hv := hv.2 g62; rw [decide_eq_false g62]; refine WL.take rfl <| WL.loadV (cs := [.int .i64 c29, .slice A32 x30.length k33]) XE27 XG27 rfl rfl (Own.vcells (hS.own (i := 4) rfl)) rfl <| WL.take rfl <| WL.loadV (cs := [.int .i64 c40, .slice A43 x41.length k44]) XE27 XG27 rfl rfl (Own.vcells (hS.own (i := 2) rfl)) rfl <| WL.take rfl <| SL.call hS (ok_rSame (hS.rl (i := 5) rfl) (hS.rl (i := 3) rfl) hv) XF20 rfl XN20 rfl rfl ?_; rintro _ _ w63 ⟨r64, rfl, rfl, hv⟩ hGw63 hS; have hS := hS.n0; refine WL.take rfl <| WL.not rfl rfl <| WL.pick rfl rfl rfl <| WL.move rfl rfl ?_; rcases g65 : (!r64) with _ | _
   ·have hv := hv.2 g65; refine WL.take rfl <| WL.move rfl rfl <| WL.take rfl <| WL.move rfl rfl <| WL.take rfl <| WL.neqD rfl rfl rfl <| WL.pick rfl rfl rfl <| WL.move rfl rfl ?_; by_cases g66 : r52 ≠ r58
    ·have hv := hv.1 g66; rw [decide_eq_true g66]; refine WL.pass rfl rfl rfl <| WL.pass rfl rfl rfl <| WL.pass rfl rfl rfl <| WL.pass rfl rfl rfl <| WL.pick rfl rfl rfl <| WL.done <| W.condT rfl <| W.seq <| W.region <| WL.assign rfl rfl <| WL.done <| W.ret <| ⟨_, rfl, Fin.nil ?_⟩
     exact ⟨_, hS.ext, (hS.pick [] rfl).rows, News.of (hS.pick [] rfl).rows rfl, ⟨false, rfl, rfl, hv⟩⟩
    have hv := hv.2 g66; rw [decide_eq_false g66]; refine WL.take rfl <| WL.move rfl rfl <| WL.take rfl <| WL.move rfl rfl <| WL.take rfl <| SL.call hS (ok_rSameInts (hS.rd (i := 1) rfl) (hS.rd (i := 0) rfl) hv) XF21 rfl XN21 rfl rfl ?_; rintro _ _ w67 ⟨r68, rfl, rfl, hv⟩ hGw67 hS; have hS := hS.n0; refine WL.take rfl <| WL.not rfl rfl <| WL.pick rfl rfl rfl <| WL.done <| W.cond2 rfl (fun c69 => ?_) (fun c69 => ?_)
    ·have hv := hv.1 (c69); refine W.seq <| W.region <| WL.assign rfl rfl <| WL.done <| W.ret <| ⟨_, rfl, Fin.nil ?_⟩
     exact ⟨_, hS.ext, (hS.pick [] rfl).rows, News.of (hS.pick [] rfl).rows rfl, ⟨false, rfl, rfl, hv⟩⟩
    have hv := hv.2 (c69); refine W.skip <| W.seq <| W.seq <| W.region <| WL.move rfl rfl <| WL.len XU22 rfl rfl <| WL.eqlD rfl rfl rfl <| WL.done <| W.cond2 rfl (fun c70 => ?_) (fun c70 => ?_)
    ·have hv := hv.1 (of_decide_eq_true c70); refine W.seq <| W.region <| WL.assign rfl rfl <| WL.done <| W.ret <| ⟨_, rfl, Fin.nil ?_⟩
     exact ⟨_, hS.ext, (hS.pick [] rfl).rows, News.of (hS.pick [] rfl).rows rfl, ⟨true, rfl, rfl, hv⟩⟩
    have hv := hv.2 (of_decide_eq_false c70); refine W.skip <| W.seq <| W.region <| WL.move rfl rfl ?_; obtain ⟨o71, hv⟩ := hv; refine SL.index XU22 XE3 (hS.ro hl) rfl rfl o71 rfl <| WL.load XU3 rfl rfl (Rd.gi (hS.ro hl) o71) rfl <| SL.call hS (ok_Identity  hv) XF51 rfl XN51 rfl rfl ?_; rintro _ _ w72 ⟨c73, x74, r75, A76, k77, hs78, rfl, rfl, hv⟩ hGw72 hS; have hS := hS.n1; refine WL.move rfl rfl <| WL.extract rfl rfl rfl <| WL.extract rfl rfl rfl <| SL.storeV (cs := [.int .i64 c73, .slice A76 x74.length k77]) 5 hS rfl XE27 rfl rfl rfl rfl rfl ?_; intro w80 hS; refine WL.assign rfl rfl <| WL.done <| W.seq <| W.region <| WL.move rfl rfl ?_; obtain ⟨o81, hv⟩ := hv; refine SL.index XU22 XE3 (hS.ro hl) rfl rfl o81 rfl <| WL.load XU3 rfl rfl (Rd.gi (hS.ro hl) o81) rfl <| SL.call hS (ok_rIdentity  hv) XF52 rfl XN52 rfl rfl ?_; rintro _ _ w82 ⟨c83, x84, r85, A86, k87, hs88, rfl, rfl, hv⟩ hGw82 hS; have hS := hS.n1; refine WL.move rfl rfl <| WL.extract rfl rfl rfl <| WL.extract rfl rfl rfl <| SL.storeV (cs := [.int .i64 c83, .slice A86 x84.length k87]) 4 hS rfl XE27 rfl rfl rfl rfl rfl ?_; intro w90 hS; refine WL.assign rfl rfl <| WL.done <| W.seq <| W.region <| WL.move rfl rfl <| WL.move rfl rfl <| WL.eqlD rfl rfl rfl <| WL.move rfl rfl ?_; by_cases g91 : r75 = r85
    ·have hv := hv.1 g91; rw [decide_eq_true g91]; refine WL.take rfl <| WL.loadV (cs := [.int .i64 c73, .slice A76 x74.length k77]) XE27 XG27 rfl rfl (Own.vcells (hS.own (i := 6) rfl)) rfl <| WL.take rfl <| WL.loadV (cs := [.int .i64 c83, .slice A86 x84.length k87]) XE27 XG27 rfl rfl (Own.vcells (hS.own (i := 4) rfl)) rfl <| WL.take rfl <| SL.call hS (ok_rSame (hS.rl (i := 1) rfl) (hS.rl (i := 0) rfl) hv) XF20 rfl XN20 rfl rfl ?_; rintro _ _ w92 ⟨r93, rfl, rfl, hv⟩ hGw92 hS; have hS := hS.n0; refine WL.pick rfl rfl rfl <| WL.assign rfl rfl <| WL.done <| W.ret <| ⟨_, rfl, Fin.nil ?_⟩
     exact ⟨_, hS.ext, (hS.pick [] rfl).rows, News.of (hS.pick [] rfl).rows rfl, ⟨r93, rfl, rfl, hv⟩⟩
    have hv := hv.2 g91; rw [decide_eq_false g91]; refine WL.pass rfl rfl rfl <| WL.pass rfl rfl rfl <| WL.pass rfl rfl rfl <| WL.pick rfl rfl rfl <| WL.assign rfl rfl <| WL.done <| W.ret <| ⟨_, rfl, Fin.nil ?_⟩
    exact ⟨_, hS.ext, (hS.pick [] rfl).rows, News.of (hS.pick [] rfl).rows rfl, ⟨false, rfl, rfl, hv⟩⟩
   have hv := hv.1 g65; refine WL.pass rfl rfl rfl <| WL.pass rfl rfl rfl <| WL.pass rfl rfl rfl <| WL.pick rfl rfl rfl <| WL.move rfl rfl <| WL.pass rfl rfl rfl <| WL.pass rfl rfl rfl <| WL.pass rfl rfl rfl <| WL.pass rfl rfl rfl <| WL.pick rfl rfl rfl <| WL.done <| W.condT rfl <| W.seq <| W.region <| WL.assign rfl rfl <| WL.done <| W.ret <| ⟨_, rfl, Fin.nil ?_⟩
   exact ⟨_, hS.ext, (hS.pick [] rfl).rows, News.of (hS.pick [] rfl).rows rfl, ⟨false, rfl, rfl, hv⟩⟩
  have hv := hv.1 g22; refine WL.pass rfl rfl rfl <| WL.pass rfl rfl rfl <| WL.pass rfl rfl rfl <| WL.pick rfl rfl rfl <| WL.done <| W.condT rfl <| W.seq <| W.region <| SL.call hS (ok_awake  hv) XF15 rfl XN15 rfl rfl ?_; rintro _ _ w23 ⟨r24, rfl, rfl, hv⟩ hGw23 hS; have hS := hS.n0; refine WL.assign rfl rfl <| WL.done <| W.ret <| ⟨_, rfl, Fin.nil ?_⟩
  exact ⟨_, hS.ext, (hS.pick [] rfl).rows, News.of (hS.pick [] rfl).rows rfl, ⟨r24, rfl, rfl, hv⟩⟩
 have hv := hv.1 g17; refine WL.pass rfl rfl rfl <| WL.pass rfl rfl rfl <| WL.pass rfl rfl rfl <| WL.pick rfl rfl rfl <| WL.move rfl rfl <| WL.pass rfl rfl rfl <| WL.pass rfl rfl rfl <| WL.pass rfl rfl rfl <| WL.pick rfl rfl rfl <| WL.done <| W.condT rfl <| W.seq <| W.region <| SL.call hS (ok_awake  hv) XF15 rfl XN15 rfl rfl ?_; rintro _ _ w18 ⟨r19, rfl, rfl, hv⟩ hGw18 hS; have hS := hS.n0; refine WL.assign rfl rfl <| WL.done <| W.ret <| ⟨_, rfl, Fin.nil ?_⟩
 exact ⟨_, hS.ext, (hS.pick [] rfl).rows, News.of (hS.pick [] rfl).rows rfl, ⟨r19, rfl, rfl, hv⟩⟩
end Go.Proofs.Ytiboieijhehjnaa
set_option linter.unusedVariables false
namespace Go.Proofs.Ytiboieijhehjnaa
abbrev Vec := Nat → Int
def tX (m : Nat) (c : Vec) (v : Vec) : Vec := fun i => if i < m then (if i = 0 then 0 else v (i - 1)) - c i * v (m - 1) else 0
def vadd (u v : Vec) : Vec := fun i => u i + v i
def vsm (a : Int) (v : Vec) : Vec := fun i => a * v i
def vz : Vec := fun _ => 0
def e0 : Vec := fun i => if i = 0 then 1 else 0
def tXn (m : Nat) (c : Vec) : Nat → Vec → Vec
  | 0, v => v
  | n + 1, v => tX m c (tXn m c n v)
def opr (m : Nat) (c b : Vec) : Nat → Vec → Vec
  | 0, _ => vz
  | n + 1, v => vadd (opr m c b n v) (vsm (b n) (tXn m c n v))
def vmul (m : Nat) (c a b : Vec) : Vec := opr m c b m a
section
variable (m : Nat) (c : Vec)
theorem tX_add (u v : Vec) : tX m c (vadd u v) = vadd (tX m c u) (tX m c v) := by
 funext i; simp only [tX, vadd]; split
 ·split <;> grind
 ·rfl
theorem tX_sm (a : Int) (v : Vec) : tX m c (vsm a v) = vsm a (tX m c v) := by
 funext i; simp only [tX, vsm]; split
 ·split <;> grind
 ·grind
theorem tX_z : tX m c vz = vz := by funext i; simp [tX, vz]
theorem vadd_z (u : Vec) : vadd u vz = u := by funext i; simp [vadd, vz]
theorem z_vadd (u : Vec) : vadd vz u = u := by funext i; simp [vadd, vz]
theorem vadd_comm (u v : Vec) : vadd u v = vadd v u := by funext i; simp only [vadd]; omega
theorem vadd_assoc (u v w : Vec) : vadd (vadd u v) w = vadd u (vadd v w) := by funext i; simp only [vadd]; omega
theorem vsm_add (a : Int) (u v : Vec) : vsm a (vadd u v) = vadd (vsm a u) (vsm a v) := by funext i; simp only [vadd, vsm]; grind
theorem vsm_sm (a b : Int) (u : Vec) : vsm a (vsm b u) = vsm (a * b) u := by funext i; simp only [vsm]; grind
theorem vsm_z (a : Int) : vsm a vz = vz := by funext i; simp [vsm, vz]
theorem tXn_add (n : Nat) (u v : Vec) : tXn m c n (vadd u v) = vadd (tXn m c n u) (tXn m c n v) := by
 induction n with
 | zero => rfl
 | succ n ih => simp only [tXn, ih, tX_add]
theorem tXn_sm (n : Nat) (a : Int) (v : Vec) : tXn m c n (vsm a v) = vsm a (tXn m c n v) := by
 induction n with
 | zero => rfl
 | succ n ih => simp only [tXn, ih, tX_sm]
theorem tXn_z (n : Nat) : tXn m c n vz = vz := by
 induction n with
 | zero => rfl
 | succ n ih => simp only [tXn, ih, tX_z]
theorem tXn_succ (n : Nat) (v : Vec) : tXn m c n (tX m c v) = tX m c (tXn m c n v) := by
 induction n with
 | zero => rfl
 | succ n ih => simp only [tXn, ih]
theorem tXn_tXn (n k : Nat) (v : Vec) : tXn m c n (tXn m c k v) = tXn m c (n + k) v := by
 induction n with
 | zero => simp [tXn]
 | succ n ih => rw [Nat.succ_add]; simp only [tXn, ih]
variable (b : Vec)
theorem opr_add (n : Nat) (u v : Vec) : opr m c b n (vadd u v) = vadd (opr m c b n u) (opr m c b n v) := by
 induction n with
 | zero => simp [opr, vadd_z]
 | succ n ih => simp only [opr, ih, tXn_add, vsm_add]; funext i; simp only [vadd]; omega
theorem opr_sm (n : Nat) (a : Int) (v : Vec) : opr m c b n (vsm a v) = vsm a (opr m c b n v) := by
 induction n with
 | zero => simp [opr, vsm_z]
 | succ n ih => simp only [opr, ih, tXn_sm, vsm_add, vsm_sm]; rw [Int.mul_comm (b n) a]
theorem opr_z (n : Nat) : opr m c b n vz = vz := by
 induction n with
 | zero => rfl
 | succ n ih => simp only [opr, ih, tXn_z, vsm_z, vadd_z]
theorem opr_tXn (n k : Nat) (v : Vec) : opr m c b n (tXn m c k v) = tXn m c k (opr m c b n v) := by
 induction n with
 | zero => simp [opr, tXn_z]
 | succ n ih => simp only [opr, ih, tXn_add, tXn_sm, tXn_tXn]; rw [Nat.add_comm n k]
theorem opr_comm (d : Vec) (n k : Nat) (v : Vec) : opr m c b n (opr m c d k v) = opr m c d k (opr m c b n v) := by
 induction n with
 | zero => simp only [opr, opr_z]
 | succ n ih => simp only [opr, ih, opr_add, opr_sm, opr_tXn]
theorem opr_vadd (d : Vec) (n : Nat) (v : Vec) : opr m c (vadd b d) n v = vadd (opr m c b n v) (opr m c d n v) := by
 induction n with
 | zero => simp [opr, vadd_z]
 | succ n ih => simp only [opr, ih]; funext i; simp only [vadd, vsm]; grind
end
def vei (k : Nat) : Vec := fun i => if i = k then 1 else 0
theorem tXn_e0 {m : Nat} {c : Vec} : ∀ {k : Nat}, k < m → tXn m c k e0 = vei k
 | 0, _ => rfl
 | k + 1, h => by
  have ih : tXn m c k e0 = vei k := tXn_e0 (by omega); simp only [tXn, ih]; funext i; simp only [tX, vei]; split
  ·rw [if_neg (show ¬ m - 1 = k by omega)]; by_cases h0 : i = 0
   ·subst h0; simp
   ·simp only [h0, if_false]; by_cases h1 : i = k + 1
    ·subst h1; simp
    ·rw [if_neg (by omega), if_neg h1]; simp
  ·rw [if_neg (by omega)]
theorem opr_e0 {m : Nat} {c a : Vec} : ∀ {n : Nat}, n ≤ m → ∀ i, opr m c a n e0 i = if i < n then a i else 0
  | 0, _, i => by simp [opr, vz]
  | n + 1, h, i => by
    simp only [opr, vadd, vsm]
    rw [opr_e0 (n := n) (by omega) i, tXn_e0 (by omega)]
    simp only [vei]
    by_cases h1 : i = n
    · subst h1; simp
    · by_cases h2 : i < n
      · simp [h2, h1, show i < n + 1 by omega]
      · simp [h2, h1, show ¬ i < n + 1 by omega]
def Sup (m : Nat) (v : Vec) : Prop := ∀ i, m ≤ i → v i = 0
theorem opr_self {m : Nat} {c a : Vec} (h : Sup m a) : opr m c a m e0 = a := by
 funext i; rw [opr_e0 (Nat.le_refl m)]; split
 ·rfl
 ·exact (h i (by omega)).symm
theorem Sup.z {m : Nat} : Sup m vz := fun _ _ => rfl
theorem Sup.tX {m : Nat} {c v : Vec} : Sup m (tX m c v) := fun i h => by simp [Go.Proofs.Ytiboieijhehjnaa.tX, show ¬ i < m by omega]
theorem Sup.add {m : Nat} {u v : Vec} (hu : Sup m u) (hv : Sup m v) : Sup m (vadd u v) := fun i h => by simp [vadd, hu i h, hv i h]
theorem Sup.sm {m : Nat} {a : Int} {v : Vec} (hv : Sup m v) : Sup m (vsm a v) := fun i h => by simp [vsm, hv i h]
theorem Sup.tXn {m : Nat} {c v : Vec} (hv : Sup m v) : ∀ n, Sup m (tXn m c n v)
 | 0 => hv
 | _ + 1 => Sup.tX
theorem Sup.opr {m : Nat} {c b v : Vec} (hv : Sup m v) : ∀ n, Sup m (opr m c b n v)
 | 0 => Sup.z
 | n + 1 => (Sup.opr hv n).add (hv.tXn n).sm
theorem vmul_comm {m : Nat} {c a b : Vec} (ha : Sup m a) (hb : Sup m b) : vmul m c a b = vmul m c b a := by
 unfold vmul
 calc opr m c b m a = opr m c b m (opr m c a m e0) := by rw [opr_self ha]
  _ = opr m c a m (opr m c b m e0) := opr_comm ..
  _ = opr m c a m b := by rw [opr_self hb]
theorem vmul_assoc {m : Nat} {c a b d : Vec} (ha : Sup m a) (hb : Sup m b) (hd : Sup m d) : vmul m c (vmul m c a b) d = vmul m c a (vmul m c b d) := by
 rw [vmul_comm (a := a) (b := vmul m c b d) ha (Sup.opr hb m)]; show opr m c d m (opr m c b m a) = opr m c a m (opr m c d m b); rw [← opr_comm m c d a m m b]; show opr m c d m (vmul m c a b) = opr m c d m (vmul m c b a); rw [vmul_comm ha hb]
theorem vmul_add {m : Nat} {c a b d : Vec} : vmul m c a (vadd b d) = vadd (vmul m c a b) (vmul m c a d) := opr_vadd ..
theorem vmul_one {m : Nat} {c a : Vec} (hm : 0 < m) : vmul m c a e0 = a := by
 have key : ∀ n, 0 < n → opr m c e0 n a = a := by
  intro n
  induction n with
  | zero => intro h; omega
  | succ n ih =>
   intro _; rcases Nat.eq_zero_or_pos n with h | h
   ·subst h; funext i; simp [opr, e0, vadd, vsm, vz, tXn]
   ·simp only [opr, ih h]; funext i; simp [e0, vadd, vsm, show n ≠ 0 by omega]
 exact key m hm
def vcg (p : Int) (u v : Vec) : Prop := ∀ i, u i % p = v i % p
section
variable {p : Int} {m : Nat} {c c' u u' v v' b b' : Vec}
theorem vcg.refl (u : Vec) : vcg p u u := fun _ => rfl
theorem vcg.symm (h : vcg p u v) : vcg p v u := fun i => (h i).symm
theorem vcg.trans {w : Vec} (h : vcg p u v) (k : vcg p v w) : vcg p u w := fun i => (h i).trans (k i)
theorem mul_cg {a a' d d' : Int} (h : a % p = a' % p) (k : d % p = d' % p) : (a * d) % p = (a' * d') % p := by
 rw [Int.mul_emod, h, k, ← Int.mul_emod]
theorem add_cg {a a' d d' : Int} (h : a % p = a' % p) (k : d % p = d' % p) : (a + d) % p = (a' + d') % p := by
 rw [Int.add_emod, h, k, ← Int.add_emod]
theorem sub_cg {a a' d d' : Int} (h : a % p = a' % p) (k : d % p = d' % p) : (a - d) % p = (a' - d') % p := by
 rw [Int.sub_emod, h, k, ← Int.sub_emod]
theorem vcg.add (h : vcg p u u') (k : vcg p v v') : vcg p (vadd u v) (vadd u' v') := fun i => add_cg (h i) (k i)
theorem vcg.sm {a a' : Int} (ha : a % p = a' % p) (h : vcg p u u') : vcg p (vsm a u) (vsm a' u') := fun i => mul_cg ha (h i)
theorem vcg.tX (hc : vcg p c c') (h : vcg p u u') : vcg p (tX m c u) (tX m c' u') := fun i => by
 simp only [Go.Proofs.Ytiboieijhehjnaa.tX]; split
 ·split
  ·exact sub_cg rfl (mul_cg (hc i) (h _))
  ·exact sub_cg (h _) (mul_cg (hc i) (h _))
 ·rfl
theorem vcg.tXn (hc : vcg p c c') (h : vcg p u u') : ∀ n, vcg p (tXn m c n u) (tXn m c' n u')
 | 0 => h
 | n + 1 => vcg.tX hc (vcg.tXn hc h n)
theorem vcg.opr (hc : vcg p c c') (hb : vcg p b b') (h : vcg p u u') : ∀ n, vcg p (opr m c b n u) (opr m c' b' n u')
 | 0 => .refl _
 | n + 1 => (vcg.opr hc hb h n).add (vcg.sm (hb n) (vcg.tXn hc h n))
theorem vcg.mul (hc : vcg p c c') (h : vcg p u u') (hb : vcg p b b') : vcg p (vmul m c u b) (vmul m c' u' b') := vcg.opr hc hb h m
end
end Go.Proofs.Ytiboieijhehjnaa
set_option linter.unusedVariables false
namespace Go.Proofs.Ytiboieijhehjnaa
def dv (p x : Nat) : Vec := fun i => ((x / p ^ i % p : Nat) : Int)
def vl (p : Nat) : Nat → Vec → Int
  | 0, _ => 0
  | n + 1, v => v 0 + (p : Int) * vl p n (fun i => v (i + 1))
def Cn (p n : Nat) (v : Vec) : Prop := ∀ i, i < n → 0 ≤ v i ∧ v i < p
def nm (p m : Nat) (v : Vec) : Nat := (vl p m (fun i => v i % (p : Int))).toNat
theorem dv_succ (p x i : Nat) : dv p x (i + 1) = dv p (x / p) i := by
 simp only [dv]; rw [Nat.pow_succ', ← Nat.div_div_eq_div_mul]
theorem dv_zero (p x : Nat) : dv p x 0 = ((x % p : Nat) : Int) := by simp [dv]
theorem Cn.tl {p n : Nat} {v : Vec} (h : Cn p (n + 1) v) : Cn p n (fun i => v (i + 1)) := fun i hi => h (i + 1) (by omega)
theorem vl_bd {p : Nat} (hp : 0 < p) : ∀ {n : Nat} {v : Vec}, Cn p n v → 0 ≤ vl p n v ∧ vl p n v < ((p ^ n : Nat) : Int)
 | 0, v, _ => by simp [vl]
 | n + 1, v, h => by
  have ih := vl_bd hp h.tl; have h0 := h 0 (by omega); simp only [vl]; have h1 : (p : Int) * vl p n (fun i => v (i + 1)) ≤ p * (((p ^ n : Nat) : Int) - 1) := Int.mul_le_mul_of_nonneg_left (by omega) (by omega); have h2 : 0 ≤ (p : Int) * vl p n (fun i => v (i + 1)) := Int.mul_nonneg (by omega) ih.1; have h3 : ((p ^ (n + 1) : Nat) : Int) = p * ((p ^ n : Nat) : Int) := by rw [Nat.pow_succ']; push_cast; rfl
  have h4 : (p : Int) * (((p ^ n : Nat) : Int) - 1) = p * ((p ^ n : Nat) : Int) - p := by rw [Int.mul_sub, Int.mul_one]
  omega
theorem vl_congr {p : Nat} : ∀ {n : Nat} {u v : Vec}, (∀ i, i < n → u i = v i) → vl p n u = vl p n v
 | 0, _, _, _ => rfl
 | n + 1, u, v, h => by simp only [vl]; rw [h 0 (by omega), vl_congr (n := n) fun i hi => h (i + 1) (by omega)]
theorem vl_dv {p : Nat} (hp : 0 < p) : ∀ {n x : Nat}, x < p ^ n → vl p n (dv p x) = x
 | 0, x, h => by simp at h; subst h; rfl
 | n + 1, x, h => by
  simp only [vl]; have : (fun i => dv p x (i + 1)) = dv p (x / p) := by funext i; exact dv_succ p x i
  rw [this, vl_dv hp (n := n) (by rw [Nat.div_lt_iff_lt_mul hp, ← Nat.pow_succ]; exact h), dv_zero]; have := Nat.mod_add_div x p; have h2 : ((x % p + p * (x / p) : Nat) : Int) = (x : Int) := by rw [this]
  push_cast at h2 ⊢; exact h2
theorem dv_vl {p : Nat} (hp : 0 < p) : ∀ {n : Nat} {v : Vec}, Cn p n v → ∀ i, i < n → dv p (vl p n v).toNat i = v i
 | 0, _, _, i, hi => by omega
 | n + 1, v, h, i, hi => by
  have ih := vl_bd hp h.tl; have h0 := h 0 (by omega); obtain ⟨t, ht⟩ := Int.eq_ofNat_of_zero_le ih.1; obtain ⟨a, ha⟩ := Int.eq_ofNat_of_zero_le h0.1; have hv : (vl p (n + 1) v).toNat = a + p * t := by
   simp only [vl]; rw [ht, ha]; have : (a : Int) + (p : Int) * (t : Int) = ((a + p * t : Nat) : Int) := by push_cast; rfl
   rw [this]; rfl
  have hap : a < p := by have := h0.2; rw [ha] at this; omega
  rw [hv]; cases i with
  | zero => rw [dv_zero, Nat.add_mul_mod_self_left, Nat.mod_eq_of_lt hap, ha]
  | succ i =>
   rw [dv_succ]; have h2 : (a + p * t) / p = t := by rw [Nat.add_mul_div_left _ _ hp, Nat.div_eq_of_lt hap, Nat.zero_add]
   have ih2 := dv_vl hp h.tl i (by omega); rw [ht] at ih2; rw [h2]; exact ih2
section
variable {p m : Nat}
theorem md_cn (hp : 0 < p) (v : Vec) (n : Nat) : Cn p n (fun i => v i % (p : Int)) := fun i _ => ⟨Int.emod_nonneg _ (by omega), Int.emod_lt_of_pos _ (by omega)⟩
theorem nm_lt (hp : 0 < p) (v : Vec) : nm p m v < p ^ m := by
 have := vl_bd hp (md_cn hp v m); unfold nm; omega
theorem dv_nm (hp : 0 < p) (v : Vec) {i : Nat} (hi : i < m) : dv p (nm p m v) i = v i % (p : Int) := dv_vl hp (md_cn hp v m) i hi
theorem dv_cn (hp : 0 < p) (x n : Nat) : Cn p n (dv p x) := fun i _ => by
 have := Nat.mod_lt (x / p ^ i) hp; simp only [dv]; omega
theorem dv_hi {x i : Nat} (hx : x < p ^ m) (hi : m ≤ i) : dv p x i = 0 := by
 rcases Nat.eq_zero_or_pos p with rfl | hp
 ·simp only [dv]; cases m with
  | zero =>
   have : x = 0 := by simpa using hx
   subst this; simp
  | succ m => simp at hx
 ·have : x / p ^ i = 0 := Nat.div_eq_of_lt (Nat.lt_of_lt_of_le hx (Nat.pow_le_pow_right hp hi)); simp [dv, this]
theorem dv_sup {x : Nat} (hx : x < p ^ m) : Sup m (dv p x) := fun i hi => dv_hi hx hi
theorem dv_mod (x i : Nat) : dv p x i % (p : Int) = dv p x i := by
 simp only [dv]; rw [← Int.natCast_emod, Nat.mod_mod]
theorem nm_dv (hp : 0 < p) {x : Nat} (hx : x < p ^ m) : nm p m (dv p x) = x := by
 unfold nm; rw [vl_congr (v := dv p x) fun i _ => dv_mod x i, vl_dv hp hx]; rfl
theorem nm_cg {u v : Vec} (h : ∀ i, i < m → u i % (p : Int) = v i % (p : Int)) : nm p m u = nm p m v := by
 unfold nm; rw [vl_congr h]
theorem nm_vcg {u v : Vec} (h : vcg p u v) : nm p m u = nm p m v := nm_cg fun i _ => h i
theorem cg_nm (hp : 0 < p) {v : Vec} (hv : Sup m v) : vcg p (dv p (nm p m v)) v := fun i => by
 rcases Nat.lt_or_ge i m with h | h
 ·rw [dv_nm hp v h, Int.emod_emod]
 ·rw [dv_hi (nm_lt hp v) h, hv i h]
theorem nm_eq (hp : 0 < p) {x : Nat} {v : Vec} (hx : x < p ^ m) (h : ∀ i, i < m → dv p x i = v i % (p : Int)) : nm p m v = x := by
 rw [← nm_dv hp hx]; exact nm_cg fun i hi => by rw [h i hi, Int.emod_emod]
end
def fadd (p m x y : Nat) : Nat := nm p m (vadd (dv p x) (dv p y))
def fneg (p m x : Nat) : Nat := nm p m (vsm (-1) (dv p x))
def fmul (p m : Nat) (c : Vec) (x y : Nat) : Nat := nm p m (vmul m c (dv p x) (dv p y))
section
variable {p m : Nat} {c : Vec}
theorem fadd_lt (hp : 0 < p) (x y : Nat) : fadd p m x y < p ^ m := nm_lt hp _
theorem fneg_lt (hp : 0 < p) (x : Nat) : fneg p m x < p ^ m := nm_lt hp _
theorem fmul_lt (hp : 0 < p) (x y : Nat) : fmul p m c x y < p ^ m := nm_lt hp _
theorem dv_fadd (hp : 0 < p) {x y : Nat} (hx : x < p ^ m) (hy : y < p ^ m) : vcg p (dv p (fadd p m x y)) (vadd (dv p x) (dv p y)) := cg_nm hp ((dv_sup hx).add (dv_sup hy))
theorem dv_fneg (hp : 0 < p) {x : Nat} (hx : x < p ^ m) : vcg p (dv p (fneg p m x)) (vsm (-1) (dv p x)) := cg_nm hp (dv_sup hx).sm
theorem vmul_sup {a b : Vec} (ha : Sup m a) : Sup m (vmul m c a b) := Sup.opr ha m
theorem dv_fmul (hp : 0 < p) {x y : Nat} (hx : x < p ^ m) : vcg p (dv p (fmul p m c x y)) (vmul m c (dv p x) (dv p y)) := cg_nm hp (vmul_sup (dv_sup hx))
theorem fadd_comm (x y : Nat) : fadd p m x y = fadd p m y x := by unfold fadd; rw [vadd_comm]
theorem fadd_assoc (hp : 0 < p) {x y z : Nat} (hx : x < p ^ m) (hy : y < p ^ m) (hz : z < p ^ m) : fadd p m (fadd p m x y) z = fadd p m x (fadd p m y z) := by
 show nm p m (vadd (dv p (fadd p m x y)) (dv p z)) = nm p m (vadd (dv p x) (dv p (fadd p m y z))); rw [nm_vcg ((dv_fadd hp hx hy).add (vcg.refl _)), nm_vcg ((vcg.refl (p := p) (dv p x)).add (dv_fadd hp hy hz)), vadd_assoc]
theorem dv_z (p : Nat) : dv p 0 = vz := by funext i; simp [dv, vz]
theorem fadd_zero (hp : 0 < p) {x : Nat} (hx : x < p ^ m) : fadd p m x 0 = x := by unfold fadd; rw [dv_z, vadd_z, nm_dv hp hx]
theorem fadd_neg (hp : 0 < p) {x : Nat} (hx : x < p ^ m) : fadd p m x (fneg p m x) = 0 := by
 show nm p m (vadd (dv p x) (dv p (fneg p m x))) = 0; rw [nm_vcg ((vcg.refl (p := p) (dv p x)).add (dv_fneg hp hx))]; have : vadd (dv p x) (vsm (-1) (dv p x)) = vz := by funext i; simp only [vadd, vsm, vz]; omega
 rw [this, ← dv_z p, nm_dv hp (by exact Nat.pow_pos hp)]
theorem fmul_comm {x y : Nat} (hx : x < p ^ m) (hy : y < p ^ m) : fmul p m c x y = fmul p m c y x := by
 unfold fmul; rw [vmul_comm (dv_sup hx) (dv_sup hy)]
theorem fmul_assoc (hp : 0 < p) {x y z : Nat} (hx : x < p ^ m) (hy : y < p ^ m) (hz : z < p ^ m) : fmul p m c (fmul p m c x y) z = fmul p m c x (fmul p m c y z) := by
 show nm p m (vmul m c (dv p (fmul p m c x y)) (dv p z)) = nm p m (vmul m c (dv p x) (dv p (fmul p m c y z))); rw [nm_vcg (vcg.mul (vcg.refl c) (dv_fmul hp hx) (vcg.refl _)), nm_vcg (vcg.mul (vcg.refl c) (vcg.refl (dv p x)) (dv_fmul hp hy)), vmul_assoc (dv_sup hx) (dv_sup hy) (dv_sup hz)]
theorem dv_one (hp : 2 ≤ p) : dv p 1 = e0 := by
 funext i; cases i with
 | zero => rw [dv_zero, Nat.mod_eq_of_lt (by omega)]; rfl
 | succ i =>
  have : (1 : Nat) / p ^ (i + 1) = 0 := Nat.div_eq_of_lt (Nat.one_lt_pow (by omega) (by omega)); simp [dv, this, e0]
theorem fmul_one (hp : 2 ≤ p) (hm : 0 < m) {x : Nat} (hx : x < p ^ m) : fmul p m c x 1 = x := by
 unfold fmul; rw [dv_one hp, vmul_one hm, nm_dv (by omega) hx]
theorem fmul_zero (hp : 0 < p) {x : Nat} (hx : x < p ^ m) : fmul p m c x 0 = 0 := by
 rw [fmul_comm hx (Nat.pow_pos hp)]; unfold fmul; rw [dv_z]; have : vmul m c vz (dv p x) = vz := opr_z ..; rw [this, ← dv_z p, nm_dv hp (Nat.pow_pos hp)]
theorem fmul_add (hp : 0 < p) {x y z : Nat} (hx : x < p ^ m) (hy : y < p ^ m) (hz : z < p ^ m) : fmul p m c x (fadd p m y z) = fadd p m (fmul p m c x y) (fmul p m c x z) := by
 show nm p m (vmul m c (dv p x) (dv p (fadd p m y z))) = nm p m (vadd (dv p (fmul p m c x y)) (dv p (fmul p m c x z))); rw [nm_vcg (vcg.mul (vcg.refl c) (vcg.refl (dv p x)) (dv_fadd hp hy hz)), nm_vcg ((dv_fmul (c := c) hp hx).add (dv_fmul hp hx)), vmul_add]
end
structure CR (q : Nat) (A M : Nat → Nat → Nat) : Prop where
  q2 : 2 ≤ q
  Al : ∀ x y, A x y < q
  Ml : ∀ x y, M x y < q
  Ac : ∀ x y, A x y = A y x
  Aa : ∀ {x y z}, x < q → y < q → z < q → A (A x y) z = A x (A y z)
  Az : ∀ {x}, x < q → A x 0 = x
  An : ∀ {x}, x < q → ∃ y, y < q ∧ A x y = 0
  Mc : ∀ {x y}, x < q → y < q → M x y = M y x
  Ma : ∀ {x y z}, x < q → y < q → z < q → M (M x y) z = M x (M y z)
  M1 : ∀ {x}, x < q → M x 1 = x
  M0 : ∀ {x}, x < q → M x 0 = 0
  Md : ∀ {x y z}, x < q → y < q → z < q → M x (A y z) = A (M x y) (M x z)
theorem CR.mk' {p m : Nat} (c : Vec) (hp : 2 ≤ p) (hm : 0 < m) : CR (p ^ m) (fadd p m) (fmul p m c) where
 q2 := Nat.le_trans hp (by have := Nat.pow_le_pow_right (n := p) (by omega) hm; simpa using this)
 Al := fadd_lt (by omega)
 Ml := fmul_lt (by omega)
 Ac := fadd_comm
 Aa := fadd_assoc (by omega)
 Az := fadd_zero (by omega)
 An := fun {x} hx => ⟨fneg p m x, fneg_lt (by omega) x, fadd_neg (by omega) hx⟩
 Mc := fmul_comm
 Ma := fmul_assoc (by omega)
 M1 := fmul_one hp hm
 M0 := fmul_zero (by omega)
 Md := fmul_add (by omega)
end Go.Proofs.Ytiboieijhehjnaa
set_option linter.unusedVariables false
namespace Go.Proofs.Ytiboieijhehjnaa
def pw (M : Nat → Nat → Nat) (g : Nat) : Nat → Nat
  | 0 => 1
  | k + 1 => M (pw M g k) g
theorem php : ∀ (n : Nat) (f : Nat → Nat), (∀ i, i < n + 1 → f i < n) → ∃ i j, i < j ∧ j < n + 1 ∧ f i = f j
 | 0, f, h => absurd (h 0 (by omega)) (by omega)
 | n + 1, f, h => by
  by_cases hc : ∃ i, i < n + 1 ∧ f i = f (n + 1)
  ·obtain ⟨i, hi, he⟩ := hc; exact ⟨i, n + 1, hi, by omega, he⟩
  ·have hv := h (n + 1) (by omega); obtain ⟨i, j, hij, hj, he⟩ := php n (fun i => if f i = n then f (n + 1) else f i) (fun i hi => by
    have hne : f i ≠ f (n + 1) := fun e => hc ⟨i, hi, e⟩; have := h i (by omega); show (if f i = n then f (n + 1) else f i) < n; split
    ·omega
    ·omega)
   refine ⟨i, j, hij, by omega, ?_⟩; have hi1 : f i ≠ f (n + 1) := fun e => hc ⟨i, by omega, e⟩; have hj1 : f j ≠ f (n + 1) := fun e => hc ⟨j, by omega, e⟩; split at he <;> split at he <;> omega
theorem surj_of_inj {n : Nat} {f : Nat → Nat} (hb : ∀ i, i < n → f i < n) (hi : ∀ i j, i < j → j < n → f i ≠ f j) {y : Nat} (hy : y < n) : ∃ i, i < n ∧ f i = y := by
 obtain ⟨i, j, hij, hj, he⟩ := php n (fun i => if i < n then f i else y) (fun i _ => by
  show (if i < n then f i else y) < n; split
  ·rename_i h; exact hb i h
  ·exact hy)
 rcases Nat.lt_or_ge j n with h | h
 ·rw [if_pos h, if_pos (show i < n by omega)] at he; exact absurd he (hi i j hij h)
 ·rw [if_neg (show ¬ j < n by omega), if_pos (show i < n by omega)] at he; exact ⟨i, by omega, he⟩
section
variable {q : Nat} {A M : Nat → Nat → Nat} (R : CR q A M)
include R
namespace CR
theorem one_lt : 1 < q := R.q2
theorem pos : 0 < q := by have := R.q2; omega
theorem I1 {x : Nat} (hx : x < q) : M 1 x = x := by rw [R.Mc R.one_lt hx, R.M1 hx]
theorem Z0 {x : Nat} (hx : x < q) : M 0 x = 0 := by rw [R.Mc R.pos hx, R.M0 hx]
theorem zA {x : Nat} (hx : x < q) : A 0 x = x := by rw [R.Ac, R.Az hx]
theorem pw_lt (g : Nat) : ∀ k, pw M g k < q
 | 0 => R.one_lt
 | k + 1 => R.Ml _ _
theorem pw_one {g : Nat} (hg : g < q) : pw M g 1 = g := R.I1 hg
theorem pw_add {g : Nat} (hg : g < q) (i : Nat) : ∀ j, pw M g (i + j) = M (pw M g i) (pw M g j)
 | 0 => (R.M1 (R.pw_lt g i)).symm
 | j + 1 => by
  show M (pw M g (i + j)) g = M (pw M g i) (M (pw M g j) g); rw [pw_add hg i j, R.Ma (R.pw_lt g i) (R.pw_lt g j) hg]
theorem pw_pw {g : Nat} (hg : g < q) (i : Nat) : ∀ j, pw M (pw M g i) j = pw M g (i * j)
 | 0 => rfl
 | j + 1 => by
  show M (pw M (pw M g i) j) (pw M g i) = _; rw [pw_pw hg i j, ← R.pw_add hg]; rfl
theorem one_pw : ∀ j, pw M 1 j = 1
 | 0 => rfl
 | j + 1 => by show M (pw M 1 j) 1 = 1; rw [one_pw j, R.M1 R.one_lt]
theorem zero_pw {n : Nat} (h : 0 < n) : pw M 0 n = 0 := by
 cases n with
 | zero => omega
 | succ n => exact R.M0 (R.pw_lt 0 n)
end CR
end
structure Gn (q : Nat) (M : Nat → Nat → Nat) (g : Nat) : Prop where
  lt : g < q
  one : pw M g (q - 1) = 1
  no : ∀ k, 0 < k → k < q - 1 → pw M g k ≠ 1
namespace Gn
variable {q g : Nat} {A M : Nat → Nat → Nat}
theorem per (G : Gn q M g) (R : CR q A M) (i k : Nat) : pw M g (i + (q - 1) * k) = pw M g i := by
 rw [R.pw_add G.lt, ← R.pw_pw G.lt, G.one, R.one_pw, R.M1 (R.pw_lt g i)]
theorem ne0 (G : Gn q M g) (R : CR q A M) (k : Nat) : pw M g k ≠ 0 := fun h => by
 have h1 := G.per R 0 (k + 1); have hq := R.q2; rw [Nat.zero_add] at h1; have : (q - 1) * (k + 1) = k + ((q - 1) * (k + 1) - k) := by
  have : k + 1 ≤ (q - 1) * (k + 1) := Nat.le_mul_of_pos_left _ (by omega); omega
 rw [this, R.pw_add G.lt, h, R.Z0 (R.pw_lt g _)] at h1; exact absurd h1 (by show ¬ (0 : Nat) = 1; omega)
theorem inj (G : Gn q M g) (R : CR q A M) {i j : Nat} (hij : i < j) (hj : j < q - 1) : pw M g i ≠ pw M g j := fun h => by
 have e1 : M (pw M g i) (pw M g (q - 1 - i)) = 1 := by rw [← R.pw_add G.lt, show i + (q - 1 - i) = q - 1 by omega, G.one]
 have e2 : M (pw M g j) (pw M g (q - 1 - i)) = pw M g (j - i) := by
  rw [← R.pw_add G.lt, show j + (q - 1 - i) = (j - i) + (q - 1) * 1 by omega, G.per R]
 rw [h] at e1; exact G.no (j - i) (by omega) (by omega) (e2.symm.trans e1)
theorem surj (G : Gn q M g) (R : CR q A M) {x : Nat} (h0 : 0 < x) (hx : x < q) : ∃ k, k < q - 1 ∧ pw M g k = x := by
 obtain ⟨i, hi, he⟩ := surj_of_inj (n := q - 1) (f := fun k => pw M g k - 1) (fun i hi => by
  have := R.pw_lt g i; have := G.ne0 R i; show pw M g i - 1 < q - 1; omega) (fun i j hij hj he => by
  have h1 := G.ne0 R i; have h2 := G.ne0 R j; exact G.inj R hij hj (by omega)) (y := x - 1) (by omega)
 have := G.ne0 R i; exact ⟨i, hi, by omega⟩
open Classical in
noncomputable def lg (q : Nat) (M : Nat → Nat → Nat) (g x : Nat) : Nat := if h : ∃ k, k < q - 1 ∧ pw M g k = x then Classical.choose h else 0
theorem xone (G : Gn q M g) (R : CR q A M) {x : Nat} (h0 : 0 < x) (hx : x < q) : pw M x (q - 1) = 1 := by
  obtain ⟨k, hk, rfl⟩ := G.surj R h0 hx
  rw [R.pw_pw G.lt, Nat.mul_comm, ← R.pw_pw G.lt, G.one, R.one_pw]
end Gn
end Go.Proofs.Ytiboieijhehjnaa
set_option linter.unusedVariables false
namespace Go.Proofs.Ytiboieijhehjnaa
structure IsLf (n d : Nat) : Prop where
  two : 2 ≤ d
  dvd : n % d = 0
  min : ∀ e, 2 ≤ e → n % e = 0 → d ≤ e
def choose : Nat → Nat → Nat
  | _, 0 => 1
  | 0, _ + 1 => 0
  | n + 1, k + 1 => choose n k + choose n (k + 1)
section
variable {q : Nat} {A M : Nat → Nat → Nat} (R : CR q A M)
include R
namespace CR
theorem Aac {a b c : Nat} (ha : a < q) (hb : b < q) (hc : c < q) : A (A a b) c = A (A a c) b := by
 rw [R.Aa ha hb hc, R.Ac b c, ← R.Aa ha hc hb]
theorem A4 {a b c d : Nat} (ha : a < q) (hb : b < q) (hc : c < q) (hd : d < q) : A (A a b) (A c d) = A (A a c) (A b d) := by
 rw [← R.Aa (R.Al a b) hc hd, R.Aac ha hb hc, R.Aa (R.Al a c) hb hd]
end CR
end
end Go.Proofs.Ytiboieijhehjnaa
set_option linter.unusedVariables false
namespace Go.Proofs.Ytiboieijhehjnaa
def hz (m : Nat) (c b y : Vec) (n : Nat) : Nat → Vec
  | 0 => vz
  | k + 1 => vadd (tX m c (hz m c b y n k)) (vsm (b (n - 1 - k)) y)
theorem hz_opr {m : Nat} {c b y : Vec} {n : Nat} : ∀ {k : Nat}, k ≤ n → vadd (tXn m c (n - k) (hz m c b y n k)) (opr m c b (n - k) y) = opr m c b n y
 | 0, _ => by simp only [hz, Nat.sub_zero]; rw [tXn_z, z_vadd]
 | k + 1, h => by
  have ih := hz_opr (m := m) (c := c) (b := b) (y := y) (n := n) (k := k) (by omega); obtain ⟨r, hr⟩ : ∃ r, n - k = r + 1 := ⟨n - k - 1, by omega⟩
  rw [show n - (k + 1) = r by omega]; rw [hr] at ih; rw [← ih]; show vadd (tXn m c r (vadd (tX m c (hz m c b y n k)) (vsm (b (n - 1 - k)) y))) (opr m c b r y) = vadd (tX m c (tXn m c r (hz m c b y n k))) (vadd (opr m c b r y) (vsm (b r) (tXn m c r y))); rw [tXn_add, tXn_sm, tXn_succ, show n - 1 - k = r by omega, vadd_assoc, vadd_comm (vsm _ _)]
theorem hz_all (m : Nat) (c b y : Vec) (n : Nat) : hz m c b y n n = opr m c b n y := by
 have := hz_opr (m := m) (c := c) (b := b) (y := y) (n := n) (k := n) (Nat.le_refl n); rw [Nat.sub_self] at this; rw [← this]; exact (vadd_z _).symm
def dgl (p : Nat) : Nat → Nat → List Nat
  | 0, _ => []
  | n + 1, x => (x % p) :: dgl p n (x / p)
theorem dgl_len (p : Nat) : ∀ n x, (dgl p n x).length = n
 | 0, _ => rfl
 | n + 1, x => by simp [dgl, dgl_len p n]
theorem dgl_at (p : Nat) : ∀ n x i, i < n → (((dgl p n x).getD i 0 : Nat) : Int) = dv p x i
 | 0, _, i, h => by omega
 | n + 1, x, 0, _ => by rw [dv_zero]; rfl
 | n + 1, x, i + 1, h => by
  show (((dgl p n (x / p)).getD i 0 : Nat) : Int) = _; rw [dgl_at p n (x / p) i (by omega), dv_succ]
@[reducible] noncomputable def hd0 (l : List Nat) : Nat := List.rec (motive := fun _ => Nat) 0 (fun x _ _ => x) l
@[reducible] noncomputable def tl0 (l : List Nat) : List Nat := List.rec (motive := fun _ => List Nat) [] (fun _ l _ => l) l
noncomputable def go (p a top : Nat) (cs : List Nat) : Nat → List Nat → List Nat → List Nat :=
  List.rec (motive := fun _ => Nat → List Nat → List Nat → List Nat) (fun _ _ _ => [])
    (fun c _ ih prev us ys => ((prev + (p - c) * top + a * hd0 ys) % p) :: ih (hd0 us) (tl0 us) (tl0 ys)) cs
noncomputable def tp (l : List Nat) : Nat → Nat := List.rec (motive := fun _ => Nat → Nat) (fun d => d) (fun x _ ih _ => ih x) l
noncomputable def mulL (p : Nat) (cs ys gs : List Nat) : List Nat → List Nat :=
  List.rec (motive := fun _ => List Nat → List Nat) (fun acc => acc) (fun g _ ih acc => ih (go p g (tp acc 0) cs 0 acc ys)) gs
noncomputable def az (l : List Nat) : Bool := List.rec (motive := fun _ => Bool) true (fun x _ ih => bif Nat.beq x 0 then ih else false) l
noncomputable def is1 (l : List Nat) : Bool := List.rec (motive := fun _ => Bool) false (fun x t _ => bif Nat.beq x 1 then az t else false) l
noncomputable def run (p : Nat) (cs gs : List Nat) (n : Nat) : List Nat → Bool :=
  Nat.rec (motive := fun _ => List Nat → Bool) (fun y => is1 y) (fun _ ih y => bif is1 y then false else ih (mulL p cs y gs y)) n
noncomputable def subm (p c : Nat) (al : List Nat) : List Nat → List Nat :=
  List.rec (motive := fun _ => List Nat → List Nat) (fun bs => bs) (fun a _ ih bs => ((hd0 bs + (p - a) * c) % p) :: ih (tl0 bs)) al
noncomputable def dvg (p : Nat) (low : List Nat) (k : Nat) : List Nat → Bool :=
  Nat.rec (motive := fun _ => List Nat → Bool) (fun r => az r) (fun _ ih r => ih (subm p (hd0 r) low (tl0 r))) k
noncomputable def nob (f : Nat → Bool) (n : Nat) : Bool := Nat.rec (motive := fun _ => Bool) true (fun i ih => bif f i then false else ih) n
noncomputable def irrB (p m : Nat) (ml : List Nat) : Bool :=
  nob (fun d => !nob (fun w => dvg p (dgl p (d + 1) w).reverse (m - d) (1 :: ml.reverse)) (p ^ (d + 1))) (m / 2)
noncomputable def cand (p c : Nat) : List Nat := bif Nat.blt c p then [c] else bif Nat.blt c (p + p * p) then [(c - p) / p, (c - p) % p] else [(c - p - p * p) / (p * p), (c - p - p * p) / p % p, (c - p - p * p) % p]
noncomputable def gen1 (p m : Nat) (cs gs : List Nat) : Bool := run p cs gs (p ^ m - 2) (mulL p cs (dgl p m 1) gs (dgl p m 1))
noncomputable def genB (p m : Nat) (cs : List Nat) : Bool := !nob (fun c => gen1 p m cs (cand p (p + p * p + p * p * p - 1 - c))) (p + p * p + p * p * p)
noncomputable def chk (p m lo n : Nat) : Bool := nob (fun v => bif irrB p m (dgl p m (lo + v)) then !genB p m (dgl p m (lo + v)) else false) n

theorem hd0_eq (l : List Nat) : hd0 l = l.getD 0 0 := by cases l <;> rfl
theorem tl0_at (l : List Nat) (i : Nat) : (tl0 l).getD i 0 = l.getD (i + 1) 0 := by cases l <;> rfl
theorem tl0_len (l : List Nat) : (tl0 l).length = l.length - 1 := by cases l <;> simp [tl0]
theorem go_cons (p a top c : Nat) (cs : List Nat) (prev : Nat) (us ys : List Nat) : go p a top (c :: cs) prev us ys = ((prev + (p - c) * top + a * hd0 ys) % p) :: go p a top cs (hd0 us) (tl0 us) (tl0 ys) := rfl
theorem go_len (p a top : Nat) : ∀ (cs : List Nat) (prev : Nat) (us ys : List Nat), (go p a top cs prev us ys).length = cs.length
 | [], _, _, _ => rfl
 | c :: cs, prev, us, ys => by rw [go_cons, List.length_cons, go_len p a top cs, List.length_cons]
theorem go_at (p a top : Nat) : ∀ (cs : List Nat) (prev : Nat) (us ys : List Nat) (i : Nat), i < cs.length → (go p a top cs prev us ys).getD i 0 = ((if i = 0 then prev else us.getD (i - 1) 0) + (p - cs.getD i 0) * top + a * ys.getD i 0) % p
 | [], _, _, _, i, h => by simp at h
 | c :: cs, prev, us, ys, 0, _ => by rw [go_cons, hd0_eq]; rfl
 | c :: cs, prev, us, ys, i + 1, h => by
  rw [go_cons]; show (go p a top cs (hd0 us) (tl0 us) (tl0 ys)).getD i 0 = _; rw [go_at p a top cs _ _ _ i (by simpa using h)]; cases i with
  | zero => rw [if_pos rfl, if_neg (by omega), hd0_eq, tl0_at]; rfl
  | succ i => rw [if_neg (by omega), if_neg (by omega), tl0_at, tl0_at]; rfl
theorem tp_eq : ∀ (l : List Nat) (d : Nat), 0 < l.length → tp l d = l.getD (l.length - 1) 0
 | [], _, h => by simp at h
 | [x], d, _ => rfl
 | x :: y :: l, d, _ => by
  show tp (y :: l) x = _; rw [tp_eq (y :: l) x (by simp)]; simp
def Rep (p m : Nat) (L : List Nat) (v : Vec) : Prop := L.length = m ∧ ∀ i, i < m → ((L.getD i 0 : Nat) : Int) = v i % (p : Int)
def hl (m : Nat) (c y : Vec) : List Nat → Vec → Vec
  | [], u => u
  | g :: gs, u => hl m c y gs (vadd (tX m c u) (vsm g y))
theorem Rep.step {p m : Nat} {cs us ys : List Nat} {c u y : Vec} (hp : 0 < p) (hm : 0 < m) (hc : Rep p m cs c) (hu : Rep p m us u) (hy : Rep p m ys y) (g : Nat) :
  Rep p m (go p g (tp us 0) cs 0 us ys) (vadd (tX m c u) (vsm g y)) := by
 refine ⟨by rw [go_len, hc.1], fun i hi => ?_⟩; rw [go_at _ _ _ _ _ _ _ _ (by rw [hc.1]; exact hi), tp_eq _ _ (by rw [hu.1]; exact hm), hu.1]; have h1 := hu.2 (m - 1) (by omega); have h2 := hc.2 i hi; have h3 := hy.2 i hi; have hlt : cs.getD i 0 ≤ p := by
  have := Int.emod_lt_of_pos (c i) (show (0 : Int) < p by omega); omega
 have e : (((if i = 0 then 0 else us.getD (i - 1) 0) : Nat) : Int) % p = (if i = 0 then (0 : Int) else u (i - 1)) % p := by
  split
  ·rfl
  ·rw [hu.2 (i - 1) (by omega), Int.emod_emod]
 simp only [vadd, vsm, tX, if_pos hi]; generalize (if i = 0 then 0 else us.getD (i - 1) 0 : Nat) = A at *
 generalize (if i = 0 then (0 : Int) else u (i - 1)) = B at *
 generalize us.getD (m - 1) 0 = T at *
 generalize cs.getD i 0 = C at *
 generalize ys.getD i 0 = Y at *
 have hT : ((T : Nat) : Int) % p = u (m - 1) % p := by rw [h1, Int.emod_emod]
 have hC : ((C : Nat) : Int) % p = c i % p := by rw [h2, Int.emod_emod]
 have hY : ((Y : Nat) : Int) % p = y i % p := by rw [h3, Int.emod_emod]
 obtain ⟨D, hD⟩ : ∃ D, p = C + D := ⟨p - C, by omega⟩
 have hsub : p - C = D := by omega
 rw [hsub]; have hcast : ((A + D * T + g * Y : Nat) : Int) = ((A : Int) - C * T + g * Y) + p * T := by
  have : (p : Int) = C + D := by omega
  rw [this]; push_cast; rw [Int.add_mul]; omega
 rw [Int.natCast_emod, hcast, Int.add_mul_emod_self_left]; exact add_cg (sub_cg e (mul_cg hC hT)) (mul_cg rfl hY)
theorem mulL_cons (p : Nat) (cs ys : List Nat) (g : Nat) (gs acc : List Nat) : mulL p cs ys (g :: gs) acc = mulL p cs ys gs (go p g (tp acc 0) cs 0 acc ys) := rfl
theorem Rep.mul {p m : Nat} {cs ys : List Nat} {c y : Vec} (hp : 0 < p) (hm : 0 < m) (hc : Rep p m cs c) (hy : Rep p m ys y) : ∀ {gs us : List Nat} {u : Vec}, Rep p m us u → Rep p m (mulL p cs ys gs us) (hl m c y gs u)
 | [], _, _, h => h
 | g :: gs, us, u, h => by rw [mulL_cons]; exact Rep.mul hp hm hc hy (Rep.step hp hm hc h hy g)
theorem hl_sup {m : Nat} {c y : Vec} (hy : Sup m y) : ∀ {gs : List Nat} {u : Vec}, Sup m u → Sup m (hl m c y gs u)
 | [], _, h => h
 | g :: gs, u, h => hl_sup (gs := gs) (u := vadd (tX m c u) (vsm g y)) hy (Sup.add Sup.tX hy.sm)
theorem hl_opr {m : Nat} {c y : Vec} (hy : Sup m y) : ∀ {gs : List Nat} {U : Vec}, hl m c y gs (opr m c y m U) = opr m c y m (hl m c e0 gs U)
  | [], _ => rfl
  | g :: gs, U => by
    show hl m c y gs (vadd (tX m c (opr m c y m U)) (vsm g y)) = opr m c y m (hl m c e0 gs (vadd (tX m c U) (vsm g e0)))
    rw [← hl_opr hy, opr_add, opr_sm, opr_self hy]
    have := opr_tXn m c y m 1 U
    rw [show tXn m c 1 U = tX m c U from rfl, show tXn m c 1 (opr m c y m U) = tX m c (opr m c y m U) from rfl] at this
    rw [this]
theorem e0_sup {m : Nat} (hm : 0 < m) : Sup m e0 := fun i hi => by simp [e0, show i ≠ 0 by omega]
theorem hl_mul {m : Nat} {c y : Vec} (hm : 0 < m) (hy : Sup m y) (gs : List Nat) : hl m c y gs y = vmul m c y (hl m c e0 gs e0) := by
 rw [vmul_comm hy (hl_sup (e0_sup hm) (e0_sup hm))]; show _ = opr m c y m (hl m c e0 gs e0); rw [← hl_opr hy, opr_self hy]
theorem Rep.dv {p m x : Nat} : Rep p m (dgl p m x) (dv p x) := ⟨dgl_len p m x, fun i hi => by rw [dgl_at p m x i hi, dv_mod]⟩
theorem Rep.cg {p m : Nat} {L : List Nat} {u v : Vec} (h : Rep p m L u) (hv : ∀ i, i < m → u i % (p : Int) = v i % (p : Int)) : Rep p m L v := ⟨h.1, fun i hi => by rw [h.2 i hi, hv i hi]⟩
theorem az_cons (x : Nat) (l : List Nat) : az (x :: l) = bif Nat.beq x 0 then az l else false := rfl
theorem az_iff : ∀ l : List Nat, az l = true ↔ ∀ i, i < l.length → l.getD i 0 = 0
 | [] => ⟨fun _ i h => by simp at h, fun _ => rfl⟩
 | x :: l => by
  rw [az_cons]; cases hx : Nat.beq x 0 with
  | true =>
   have := Nat.eq_of_beq_eq_true hx; subst this; rw [show (bif true then az l else false) = az l from rfl, az_iff l]; constructor
   ·intro h i hi; cases i with
    | zero => rfl
    | succ i => exact h i (by simpa using hi)
   ·intro h i hi; exact h (i + 1) (by simpa using hi)
  | false =>
   rw [show (bif false then az l else false) = false from rfl]; constructor
   ·intro h; cases h
   ·intro h; have := h 0 (by simp); simp only [List.getD_cons_zero] at this; subst this; cases hx
theorem is1_iff {p m x : Nat} {L : List Nat} (hp : 2 ≤ p) (hm : 0 < m) (hx : x < p ^ m) (h : Rep p m L (Go.Proofs.Ytiboieijhehjnaa.dv p x)) : is1 L = true ↔ x = 1 := by
 obtain ⟨a, l, rfl⟩ : ∃ a l, L = a :: l := by
  cases L with
  | nil => have := h.1; simp at this; omega
  | cons a l => exact ⟨a, l, rfl⟩
 have hlen : l.length + 1 = m := h.1; have h0 := h.2 0 hm; have e : is1 (a :: l) = bif Nat.beq a 1 then az l else false := rfl; rw [e]; constructor
 ·intro hb; cases ha : Nat.beq a 1 with
  | false => rw [ha] at hb; cases hb
  | true =>
   rw [ha] at hb; have hz := (az_iff l).1 hb; have ha1 := Nat.eq_of_beq_eq_true ha; subst ha1; rw [← nm_dv (p := p) (m := m) (by omega) hx, ← nm_dv (p := p) (m := m) (x := 1) (by omega) (Nat.one_lt_pow (by omega) (by omega))]; refine nm_cg fun i hi => ?_; rw [dv_one hp, dv_mod, ← dv_mod, ← h.2 i hi]; cases i with
   | zero =>
    show (1 : Int) = e0 0 % p; simp only [e0, if_pos]; exact (Int.emod_eq_of_lt (by omega) (by omega)).symm
   | succ i =>
    show ((l.getD i 0 : Nat) : Int) = e0 (i + 1) % p; rw [hz i (by omega)]; simp [e0]
 ·intro hx1; subst hx1; have ha : a = 1 := by
   have : ((a : Nat) : Int) = Go.Proofs.Ytiboieijhehjnaa.dv p 1 0 % p := h0; rw [dv_mod, dv_one hp] at this; simp [e0] at this; omega
  subst ha; show az l = true; refine (az_iff l).2 fun i hi => ?_; have : ((l.getD i 0 : Nat) : Int) = Go.Proofs.Ytiboieijhehjnaa.dv p 1 (i + 1) % p := h.2 (i + 1) (by omega); rw [dv_mod, dv_one hp] at this; simp only [e0] at this; rw [if_neg (by omega)] at this; exact Int.ofNat_eq_zero.1 this
def gel (p m : Nat) (c : Vec) (gs : List Nat) : Nat := nm p m (hl m c e0 gs e0)
theorem Rep.next {p m x : Nat} {cs L gs : List Nat} {c : Vec} (hp : 2 ≤ p) (hm : 0 < m) (hx : x < p ^ m) (hc : Rep p m cs c) (h : Rep p m L (Go.Proofs.Ytiboieijhehjnaa.dv p x)) : Rep p m (mulL p cs L gs L) (Go.Proofs.Ytiboieijhehjnaa.dv p (fmul p m c x (gel p m c gs))) := by
 have h1 := Rep.mul (gs := gs) (by omega) hm hc h h; rw [hl_mul hm (dv_sup hx)] at h1; refine h1.cg fun i hi => ?_; have hs := hl_sup (c := c) (gs := gs) (e0_sup hm) (e0_sup hm); have e1 := dv_fmul (p := p) (m := m) (c := c) (by omega) hx (y := gel p m c gs); have e2 := vcg.mul (m := m) (vcg.refl (p := p) c) (vcg.refl (Go.Proofs.Ytiboieijhehjnaa.dv p x)) (cg_nm (p := p) (m := m) (by omega) hs); exact ((e1.trans e2) i).symm
theorem run_succ (p : Nat) (cs gs : List Nat) (n : Nat) (y : List Nat) : run p cs gs (n + 1) y = bif is1 y then false else run p cs gs n (mulL p cs y gs y) := rfl
theorem run_ok {p m : Nat} {cs gs : List Nat} {c : Vec} (hp : 2 ≤ p) (hm : 0 < m) (hc : Rep p m cs c) : ∀ {n : Nat} {L : List Nat} {x : Nat}, x < p ^ m → Rep p m L (Go.Proofs.Ytiboieijhehjnaa.dv p x) → run p cs gs n L = true →
  (∀ k, k < n → fmul p m c x (pw (fmul p m c) (gel p m c gs) k) ≠ 1) ∧ fmul p m c x (pw (fmul p m c) (gel p m c gs) n) = 1
 | 0, L, x, hx, h, hr => by
  refine ⟨fun k hk => by omega, ?_⟩; show fmul p m c x 1 = 1; rw [fmul_one hp hm hx]; exact (is1_iff hp hm hx h).1 hr
 | n + 1, L, x, hx, h, hr => by
  rw [run_succ] at hr; cases h1 : is1 L with
  | true => rw [h1] at hr; cases hr
  | false =>
   rw [h1] at hr; have R := CR.mk' (p := p) (m := m) c hp hm; have hg : gel p m c gs < p ^ m := nm_lt (by omega) _; have ih := run_ok hp hm hc (fmul_lt (by omega) x _) (Rep.next (gs := gs) hp hm hx hc h) hr; have e : ∀ k, fmul p m c (fmul p m c x (gel p m c gs)) (pw (fmul p m c) (gel p m c gs) k) = fmul p m c x (pw (fmul p m c) (gel p m c gs) (k + 1)) := fun k => by
    rw [R.Ma hx hg (R.pw_lt _ k), R.Mc hg (R.pw_lt _ k)]; rfl
   refine ⟨fun k hk => ?_, by rw [← e]; exact ih.2⟩; cases k with
   | zero =>
    show fmul p m c x 1 ≠ 1; rw [fmul_one hp hm hx]; intro hx1; rw [(is1_iff hp hm hx h).2 hx1] at h1; cases h1
   | succ k => rw [← e]; exact ih.1 k (by omega)
theorem gen1_ok {p m : Nat} {cs gs : List Nat} {c : Vec} (hp : 2 ≤ p) (hm : 0 < m) (hc : Rep p m cs c) (h : gen1 p m cs gs = true) : Gn (p ^ m) (fmul p m c) (gel p m c gs) := by
 have R := CR.mk' (p := p) (m := m) c hp hm; have hg : gel p m c gs < p ^ m := nm_lt (by omega) _; have h1 := Rep.next (gs := gs) hp hm R.one_lt hc Rep.dv; rw [R.I1 hg] at h1; obtain ⟨h2, h3⟩ := run_ok hp hm hc hg h1 h; have hq := R.q2; have e : ∀ k, fmul p m c (gel p m c gs) (pw (fmul p m c) (gel p m c gs) k) = pw (fmul p m c) (gel p m c gs) (k + 1) := fun k => R.Mc hg (R.pw_lt _ k); refine ⟨hg, ?_, fun k h0 hk => ?_⟩
 ·rw [show p ^ m - 1 = (p ^ m - 2) + 1 by omega, ← e]; exact h3
 ·rw [show k = (k - 1) + 1 by omega, ← e]; exact h2 (k - 1) (by omega)
theorem nob_succ (f : Nat → Bool) (n : Nat) : nob f (n + 1) = bif f n then false else nob f n := rfl
theorem nob_iff (f : Nat → Bool) : ∀ n, nob f n = true ↔ ∀ i, i < n → f i = false
 | 0 => ⟨fun _ i h => by omega, fun _ => rfl⟩
 | n + 1 => by
  rw [nob_succ]; cases h : f n with
  | true =>
   refine ⟨fun h' => ?_, fun h' => ?_⟩
   ·cases h'
   ·rw [h' n (by omega)] at h; cases h
  | false =>
   show nob f n = true ↔ _; rw [nob_iff f n]; refine ⟨fun h' i hi => ?_, fun h' i hi => h' i (by omega)⟩; rcases Nat.lt_or_ge i n with h1 | h1
   ·exact h' i h1
   ·rw [show i = n by omega]; exact h
theorem nob_false (f : Nat → Bool) (n : Nat) (h : nob f n = false) : ∃ i, i < n ∧ f i = true := by
 have hn : ¬ ∀ i, i < n → f i = false := fun h' => by rw [(nob_iff f n).2 h'] at h; cases h
 have := Classical.not_forall.1 hn; obtain ⟨i, hi⟩ := this; have h2 := Classical.not_imp.1 hi; exact ⟨i, h2.1, by cases hf : f i with | true => rfl | false => exact absurd hf h2.2⟩
theorem genB_ok {p m : Nat} {cs : List Nat} {c : Vec} (hp : 2 ≤ p) (hm : 0 < m) (hc : Rep p m cs c) (h : genB p m cs = true) : ∃ g, Gn (p ^ m) (fmul p m c) g := by
 unfold genB at h; obtain ⟨i, _, hi⟩ := nob_false _ _ (by simpa using h); exact ⟨_, gen1_ok hp hm hc hi⟩
def rst (p d i : Nat) (l R : Vec) : Vec := fun j => if i ≤ j + d ∧ j < i then (R j - l (j + d - i) * R i) % (p : Int) else R j
def rem (p d : Nat) (l R : Vec) (n : Nat) : Nat → Vec
  | 0 => R
  | k + 1 => rst p d (n - 1 - k) l (rem p d l R n k)
def Dvd (p d : Nat) (l R : Vec) (n : Nat) : Prop := ∀ j, j < d → rem p d l R n (n - d) j = 0
def Irr (p m : Nat) (c : Vec) : Prop := ∀ d, 0 < d → 2 * d ≤ m → ∀ w, w < p ^ d → ¬ Dvd p d (dv p w) (fun i => if i = m then 1 else c i) (m + 1)
theorem subm_cons (p c a : Nat) (al bs : List Nat) : subm p c (a :: al) bs = ((hd0 bs + (p - a) * c) % p) :: subm p c al (tl0 bs) := rfl
theorem subm_len (p c : Nat) : ∀ al bs : List Nat, al.length ≤ bs.length → (subm p c al bs).length = bs.length
 | [], _, _ => rfl
 | a :: al, [], h => by simp at h
 | a :: al, b :: bs, h => by
  rw [subm_cons, List.length_cons]; show (subm p c al bs).length + 1 = _; rw [subm_len p c al bs (by simpa using h)]; rfl
theorem subm_at (p c : Nat) : ∀ (al bs : List Nat) (t : Nat), (subm p c al bs).getD t 0 = if t < al.length then (bs.getD t 0 + (p - al.getD t 0) * c) % p else bs.getD t 0
 | [], bs, t => by simp; rfl
 | a :: al, bs, 0 => by rw [subm_cons, hd0_eq]; simp
 | a :: al, bs, t + 1 => by
  rw [subm_cons]; show (subm p c al (tl0 bs)).getD t 0 = _; rw [subm_at p c al (tl0 bs) t, tl0_at]; simp
theorem dvg_succ (p : Nat) (low : List Nat) (k : Nat) (r : List Nat) : dvg p low (k + 1) r = dvg p low k (subm p (hd0 r) low (tl0 r)) := rfl
theorem dvg_ok {p d n : Nat} {l R : Vec} {low : List Nat} (hp : 0 < p) (hl : low.length = d) (hlow : ∀ t, t < d → ((low.getD t 0 : Nat) : Int) = l (d - 1 - t)) (hlp : ∀ t, t < d → low.getD t 0 ≤ p) : ∀ (s k : Nat) (r : List Nat), s + k + d = n → r.length = n - k →
  (∀ t, t < n - k → ((r.getD t 0 : Nat) : Int) = rem p d l R n k (n - 1 - k - t)) → (dvg p low s r = true ↔ Dvd p d l R n)
 | 0, k, r, hs, hr, hv => by
  have : n - k = d := by omega
  rw [this] at hr hv; show az r = true ↔ _; rw [az_iff, hr]; have hk : n - d = k := by omega
  unfold Dvd; rw [hk]; constructor
  ·intro h j hj; have := hv (d - 1 - j) (by omega); rw [h (d - 1 - j) (by omega), show n - 1 - k - (d - 1 - j) = j by omega] at this; exact this.symm
  ·intro h t ht; have := hv t ht; rw [h (n - 1 - k - t) (by omega)] at this; exact Int.ofNat_eq_zero.1 this
 | s + 1, k, r, hs, hr, hv => by
  rw [dvg_succ]; have htl : (tl0 r).length = n - (k + 1) := by rw [tl0_len, hr]; omega
  refine dvg_ok hp hl hlow hlp s (k + 1) _ (by omega) (by rw [subm_len _ _ _ _ (by rw [htl, hl]; omega), htl]) fun t ht => ?_; rw [subm_at, hl, tl0_at, hd0_eq]; have h0 := hv 0 (by omega); rw [Nat.sub_zero] at h0; have h1 := hv (t + 1) (by omega); rw [show n - 1 - k - (t + 1) = n - 1 - (k + 1) - t by omega] at h1; show _ = rst p d (n - 1 - k) l (rem p d l R n k) (n - 1 - (k + 1) - t); unfold rst; by_cases htd : t < d
  ·rw [if_pos htd, if_pos (by omega)]; have h2 := hlow t htd; have h3 := hlp t htd; rw [show n - 1 - (k + 1) - t + d - (n - 1 - k) = d - 1 - t by omega, ← h0, ← h1, ← h2]; generalize r.getD (t + 1) 0 = X at *
   generalize low.getD t 0 = Y at *
   generalize r.getD 0 0 = Z at *
   obtain ⟨D, hD⟩ : ∃ D, p = Y + D := ⟨p - Y, by omega⟩
   rw [show p - Y = D by omega, Int.natCast_emod]; have hcast : ((X + D * Z : Nat) : Int) = ((X : Int) - Y * Z) + p * Z := by
    have : (p : Int) = Y + D := by omega
    rw [this]; push_cast; rw [Int.add_mul]; omega
   rw [hcast, Int.add_mul_emod_self_left]
  ·rw [if_neg htd, if_neg (by omega)]; exact h1
theorem getD_rev (l : List Nat) (t : Nat) (h : t < l.length) : l.reverse.getD t 0 = l.getD (l.length - 1 - t) 0 := by
 rw [List.getD_eq_getElem?_getD, List.getD_eq_getElem?_getD, List.getElem?_reverse h]
theorem dv_le {p : Nat} (hp : 0 < p) (x i : Nat) : 0 ≤ dv p x i ∧ dv p x i < p := dv_cn hp x (i + 1) i (by omega)
theorem irrB_iff {p m v : Nat} (hp : 0 < p) (hv : v < p ^ m) : irrB p m (dgl p m v) = true ↔ Irr p m (dv p v) := by
 have key : ∀ d w, 0 < d → 2 * d ≤ m → (dvg p (dgl p d w).reverse (m + 1 - d) (1 :: (dgl p m v).reverse) = true ↔ Dvd p d (dv p w) (fun i => if i = m then 1 else dv p v i) (m + 1)) := fun d w hd h2 => by
  refine dvg_ok hp (by rw [List.length_reverse, dgl_len]) (fun t ht => ?_) (fun t ht => ?_) (m + 1 - d) 0 _ (by omega) (by simp [dgl_len]) fun t ht => ?_
  ·rw [getD_rev _ _ (by rw [dgl_len]; exact ht), dgl_len, dgl_at _ _ _ _ (by omega)]
  ·rw [getD_rev _ _ (by rw [dgl_len]; exact ht), dgl_len]; have := dgl_at p d w (d - 1 - t) (by omega); have := dv_le hp w (d - 1 - t); omega
  ·show _ = if m + 1 - 1 - 0 - t = m then (1 : Int) else dv p v (m + 1 - 1 - 0 - t)
   cases t with
   | zero => rw [if_pos (by omega)]; rfl
   | succ t =>
    rw [if_neg (by omega)]; show (((dgl p m v).reverse.getD t 0 : Nat) : Int) = _; rw [getD_rev _ _ (by rw [dgl_len]; omega), dgl_len, dgl_at _ _ _ _ (by omega), show m + 1 - 1 - 0 - (t + 1) = m - 1 - t by omega]
 unfold irrB; rw [nob_iff]; constructor
 ·intro h d hd h2 w hw hD; have h3 := h (d - 1) (by omega); have h4 := (nob_iff _ _).1 (by simpa using h3) w (by rw [show d - 1 + 1 = d by omega]; exact hw); rw [show d - 1 + 1 = d by omega, show m - (d - 1) = m + 1 - d by omega, (key d w hd h2).2 hD] at h4; cases h4
 ·intro h d hd; have : nob (fun w => dvg p (dgl p (d + 1) w).reverse (m - d) (1 :: (dgl p m v).reverse)) (p ^ (d + 1)) = true := (nob_iff _ _).2 fun w hw => by
   cases hb : dvg p (dgl p (d + 1) w).reverse (m - d) (1 :: (dgl p m v).reverse) with
   | false => rfl
   | true =>
    rw [show m - d = m + 1 - (d + 1) by omega] at hb; exact absurd ((key (d + 1) w (by omega) (by omega)).1 hb) (h (d + 1) (by omega) (by omega) w hw)
  rw [this]; rfl
theorem chk_ok {p m lo n v : Nat} (hp : 2 ≤ p) (hm : 0 < m) (h : chk p m lo n = true) (h1 : lo ≤ v) (h2 : v < lo + n) (hv : v < p ^ m) (hi : Irr p m (dv p v)) : ∃ g, Gn (p ^ m) (fmul p m (dv p v)) g := by
 have h3 := (nob_iff _ _).1 h (v - lo) (by omega); simp only [show lo + (v - lo) = v by omega, (irrB_iff (by omega) hv).2 hi, cond_true] at h3; exact genB_ok hp hm Rep.dv (by simpa using h3)
end Go.Proofs.Ytiboieijhehjnaa
set_option linter.unusedVariables false
namespace Go.Proofs.Ytiboieijhehjnaa
theorem chk_2_2_0 : chk 2 2 0 4 = true := by decide +kernel
theorem chk_2_3_0 : chk 2 3 0 8 = true := by decide +kernel
theorem chk_2_4_0 : chk 2 4 0 16 = true := by decide +kernel
theorem chk_2_5_0 : chk 2 5 0 32 = true := by decide +kernel
theorem chk_2_6_0 : chk 2 6 0 64 = true := by decide +kernel
theorem chk_2_7_0 : chk 2 7 0 64 = true := by decide +kernel
theorem chk_2_7_64 : chk 2 7 64 64 = true := by decide +kernel
theorem chk_2_8_0 : chk 2 8 0 24 = true := by decide +kernel
theorem chk_2_8_24 : chk 2 8 24 24 = true := by decide +kernel
theorem chk_2_8_48 : chk 2 8 48 24 = true := by decide +kernel
theorem chk_2_8_72 : chk 2 8 72 24 = true := by decide +kernel
theorem chk_2_8_96 : chk 2 8 96 24 = true := by decide +kernel
theorem chk_2_8_120 : chk 2 8 120 24 = true := by decide +kernel
theorem chk_2_8_144 : chk 2 8 144 24 = true := by decide +kernel
theorem chk_2_8_168 : chk 2 8 168 24 = true := by decide +kernel
theorem chk_2_8_192 : chk 2 8 192 24 = true := by decide +kernel
theorem chk_2_8_216 : chk 2 8 216 24 = true := by decide +kernel
theorem chk_2_8_240 : chk 2 8 240 16 = true := by decide +kernel
theorem chk_3_2_0 : chk 3 2 0 9 = true := by decide +kernel
theorem chk_3_3_0 : chk 3 3 0 27 = true := by decide +kernel
theorem chk_3_4_0 : chk 3 4 0 64 = true := by decide +kernel
theorem chk_3_4_64 : chk 3 4 64 17 = true := by decide +kernel
theorem chk_3_5_0 : chk 3 5 0 24 = true := by decide +kernel
theorem chk_3_5_24 : chk 3 5 24 24 = true := by decide +kernel
theorem chk_3_5_48 : chk 3 5 48 24 = true := by decide +kernel
theorem chk_3_5_72 : chk 3 5 72 24 = true := by decide +kernel
theorem chk_3_5_96 : chk 3 5 96 24 = true := by decide +kernel
theorem chk_3_5_120 : chk 3 5 120 24 = true := by decide +kernel
theorem chk_3_5_144 : chk 3 5 144 24 = true := by decide +kernel
theorem chk_3_5_168 : chk 3 5 168 24 = true := by decide +kernel
theorem chk_3_5_192 : chk 3 5 192 24 = true := by decide +kernel
theorem chk_3_5_216 : chk 3 5 216 24 = true := by decide +kernel
theorem chk_3_5_240 : chk 3 5 240 3 = true := by decide +kernel
theorem chk_5_2_0 : chk 5 2 0 25 = true := by decide +kernel
theorem chk_5_3_0 : chk 5 3 0 64 = true := by decide +kernel
theorem chk_5_3_64 : chk 5 3 64 61 = true := by decide +kernel
theorem chk_7_2_0 : chk 7 2 0 49 = true := by decide +kernel
theorem chk_11_2_0 : chk 11 2 0 64 = true := by decide +kernel
theorem chk_11_2_64 : chk 11 2 64 57 = true := by decide +kernel
theorem chk_13_2_0 : chk 13 2 0 64 = true := by decide +kernel
theorem chk_13_2_64 : chk 13 2 64 64 = true := by decide +kernel
theorem chk_13_2_128 : chk 13 2 128 41 = true := by decide +kernel
theorem chk1_0 : ([2, 3, 5, 7, 11, 13, 17, 19, 23, 29, 31, 37, 41, 43, 47, 53, 59, 61] : List Nat).all (fun p => genB p 1 [0]) = true := by decide +kernel
theorem chk1_1 : ([67, 71, 73, 79, 83, 89, 97, 101, 103, 107, 109, 113, 127, 131, 137, 139, 149, 151] : List Nat).all (fun p => genB p 1 [0]) = true := by decide +kernel
theorem chk1_2 : ([157, 163, 167, 173, 179, 181, 191, 193, 197, 199, 211, 223, 227, 229, 233, 239, 241, 251] : List Nat).all (fun p => genB p 1 [0]) = true := by decide +kernel
theorem gx_2_2 {v : Nat} (hv : v < 2 ^ 2) (hI : Irr 2 2 (dv 2 v)) : ∃ g, Gn (2 ^ 2) (fmul 2 2 (dv 2 v)) g := by
 have hv2 : v < 4 := hv; exact chk_ok (by decide) (by decide) chk_2_2_0 (by omega) (by omega) hv hI
theorem gx_2_3 {v : Nat} (hv : v < 2 ^ 3) (hI : Irr 2 3 (dv 2 v)) : ∃ g, Gn (2 ^ 3) (fmul 2 3 (dv 2 v)) g := by
 have hv2 : v < 8 := hv; exact chk_ok (by decide) (by decide) chk_2_3_0 (by omega) (by omega) hv hI
theorem gx_2_4 {v : Nat} (hv : v < 2 ^ 4) (hI : Irr 2 4 (dv 2 v)) : ∃ g, Gn (2 ^ 4) (fmul 2 4 (dv 2 v)) g := by
 have hv2 : v < 16 := hv; exact chk_ok (by decide) (by decide) chk_2_4_0 (by omega) (by omega) hv hI
theorem gx_2_5 {v : Nat} (hv : v < 2 ^ 5) (hI : Irr 2 5 (dv 2 v)) : ∃ g, Gn (2 ^ 5) (fmul 2 5 (dv 2 v)) g := by
 have hv2 : v < 32 := hv; exact chk_ok (by decide) (by decide) chk_2_5_0 (by omega) (by omega) hv hI
theorem gx_2_6 {v : Nat} (hv : v < 2 ^ 6) (hI : Irr 2 6 (dv 2 v)) : ∃ g, Gn (2 ^ 6) (fmul 2 6 (dv 2 v)) g := by
 have hv2 : v < 64 := hv; exact chk_ok (by decide) (by decide) chk_2_6_0 (by omega) (by omega) hv hI
theorem gx_2_7 {v : Nat} (hv : v < 2 ^ 7) (hI : Irr 2 7 (dv 2 v)) : ∃ g, Gn (2 ^ 7) (fmul 2 7 (dv 2 v)) g := by
 have hv2 : v < 128 := hv; rcases Nat.lt_or_ge v 64 with h | h
 ·exact chk_ok (by decide) (by decide) chk_2_7_0 (by omega) (by omega) hv hI
 exact chk_ok (by decide) (by decide) chk_2_7_64 (by omega) (by omega) hv hI
theorem gx_2_8 {v : Nat} (hv : v < 2 ^ 8) (hI : Irr 2 8 (dv 2 v)) : ∃ g, Gn (2 ^ 8) (fmul 2 8 (dv 2 v)) g := by
 have hv2 : v < 256 := hv; rcases Nat.lt_or_ge v 24 with h | h
 ·exact chk_ok (by decide) (by decide) chk_2_8_0 (by omega) (by omega) hv hI
 rcases Nat.lt_or_ge v 48 with h | h
 ·exact chk_ok (by decide) (by decide) chk_2_8_24 (by omega) (by omega) hv hI
 rcases Nat.lt_or_ge v 72 with h | h
 ·exact chk_ok (by decide) (by decide) chk_2_8_48 (by omega) (by omega) hv hI
 rcases Nat.lt_or_ge v 96 with h | h
 ·exact chk_ok (by decide) (by decide) chk_2_8_72 (by omega) (by omega) hv hI
 rcases Nat.lt_or_ge v 120 with h | h
 ·exact chk_ok (by decide) (by decide) chk_2_8_96 (by omega) (by omega) hv hI
 rcases Nat.lt_or_ge v 144 with h | h
 ·exact chk_ok (by decide) (by decide) chk_2_8_120 (by omega) (by omega) hv hI
 rcases Nat.lt_or_ge v 168 with h | h
 ·exact chk_ok (by decide) (by decide) chk_2_8_144 (by omega) (by omega) hv hI
 rcases Nat.lt_or_ge v 192 with h | h
 ·exact chk_ok (by decide) (by decide) chk_2_8_168 (by omega) (by omega) hv hI
 rcases Nat.lt_or_ge v 216 with h | h
 ·exact chk_ok (by decide) (by decide) chk_2_8_192 (by omega) (by omega) hv hI
 rcases Nat.lt_or_ge v 240 with h | h
 ·exact chk_ok (by decide) (by decide) chk_2_8_216 (by omega) (by omega) hv hI
 exact chk_ok (by decide) (by decide) chk_2_8_240 (by omega) (by omega) hv hI
theorem gx_3_2 {v : Nat} (hv : v < 3 ^ 2) (hI : Irr 3 2 (dv 3 v)) : ∃ g, Gn (3 ^ 2) (fmul 3 2 (dv 3 v)) g := by
 have hv2 : v < 9 := hv; exact chk_ok (by decide) (by decide) chk_3_2_0 (by omega) (by omega) hv hI
theorem gx_3_3 {v : Nat} (hv : v < 3 ^ 3) (hI : Irr 3 3 (dv 3 v)) : ∃ g, Gn (3 ^ 3) (fmul 3 3 (dv 3 v)) g := by
 have hv2 : v < 27 := hv; exact chk_ok (by decide) (by decide) chk_3_3_0 (by omega) (by omega) hv hI
theorem gx_3_4 {v : Nat} (hv : v < 3 ^ 4) (hI : Irr 3 4 (dv 3 v)) : ∃ g, Gn (3 ^ 4) (fmul 3 4 (dv 3 v)) g := by
 have hv2 : v < 81 := hv; rcases Nat.lt_or_ge v 64 with h | h
 ·exact chk_ok (by decide) (by decide) chk_3_4_0 (by omega) (by omega) hv hI
 exact chk_ok (by decide) (by decide) chk_3_4_64 (by omega) (by omega) hv hI
theorem gx_3_5 {v : Nat} (hv : v < 3 ^ 5) (hI : Irr 3 5 (dv 3 v)) : ∃ g, Gn (3 ^ 5) (fmul 3 5 (dv 3 v)) g := by
 have hv2 : v < 243 := hv; rcases Nat.lt_or_ge v 24 with h | h
 ·exact chk_ok (by decide) (by decide) chk_3_5_0 (by omega) (by omega) hv hI
 rcases Nat.lt_or_ge v 48 with h | h
 ·exact chk_ok (by decide) (by decide) chk_3_5_24 (by omega) (by omega) hv hI
 rcases Nat.lt_or_ge v 72 with h | h
 ·exact chk_ok (by decide) (by decide) chk_3_5_48 (by omega) (by omega) hv hI
 rcases Nat.lt_or_ge v 96 with h | h
 ·exact chk_ok (by decide) (by decide) chk_3_5_72 (by omega) (by omega) hv hI
 rcases Nat.lt_or_ge v 120 with h | h
 ·exact chk_ok (by decide) (by decide) chk_3_5_96 (by omega) (by omega) hv hI
 rcases Nat.lt_or_ge v 144 with h | h
 ·exact chk_ok (by decide) (by decide) chk_3_5_120 (by omega) (by omega) hv hI
 rcases Nat.lt_or_ge v 168 with h | h
 ·exact chk_ok (by decide) (by decide) chk_3_5_144 (by omega) (by omega) hv hI
 rcases Nat.lt_or_ge v 192 with h | h
 ·exact chk_ok (by decide) (by decide) chk_3_5_168 (by omega) (by omega) hv hI
 rcases Nat.lt_or_ge v 216 with h | h
 ·exact chk_ok (by decide) (by decide) chk_3_5_192 (by omega) (by omega) hv hI
 rcases Nat.lt_or_ge v 240 with h | h
 ·exact chk_ok (by decide) (by decide) chk_3_5_216 (by omega) (by omega) hv hI
 exact chk_ok (by decide) (by decide) chk_3_5_240 (by omega) (by omega) hv hI
theorem gx_5_2 {v : Nat} (hv : v < 5 ^ 2) (hI : Irr 5 2 (dv 5 v)) : ∃ g, Gn (5 ^ 2) (fmul 5 2 (dv 5 v)) g := by
 have hv2 : v < 25 := hv; exact chk_ok (by decide) (by decide) chk_5_2_0 (by omega) (by omega) hv hI
theorem gx_5_3 {v : Nat} (hv : v < 5 ^ 3) (hI : Irr 5 3 (dv 5 v)) : ∃ g, Gn (5 ^ 3) (fmul 5 3 (dv 5 v)) g := by
 have hv2 : v < 125 := hv; rcases Nat.lt_or_ge v 64 with h | h
 ·exact chk_ok (by decide) (by decide) chk_5_3_0 (by omega) (by omega) hv hI
 exact chk_ok (by decide) (by decide) chk_5_3_64 (by omega) (by omega) hv hI
theorem gx_7_2 {v : Nat} (hv : v < 7 ^ 2) (hI : Irr 7 2 (dv 7 v)) : ∃ g, Gn (7 ^ 2) (fmul 7 2 (dv 7 v)) g := by
 have hv2 : v < 49 := hv; exact chk_ok (by decide) (by decide) chk_7_2_0 (by omega) (by omega) hv hI
theorem gx_11_2 {v : Nat} (hv : v < 11 ^ 2) (hI : Irr 11 2 (dv 11 v)) : ∃ g, Gn (11 ^ 2) (fmul 11 2 (dv 11 v)) g := by
 have hv2 : v < 121 := hv; rcases Nat.lt_or_ge v 64 with h | h
 ·exact chk_ok (by decide) (by decide) chk_11_2_0 (by omega) (by omega) hv hI
 exact chk_ok (by decide) (by decide) chk_11_2_64 (by omega) (by omega) hv hI
theorem gx_13_2 {v : Nat} (hv : v < 13 ^ 2) (hI : Irr 13 2 (dv 13 v)) : ∃ g, Gn (13 ^ 2) (fmul 13 2 (dv 13 v)) g := by
 have hv2 : v < 169 := hv; rcases Nat.lt_or_ge v 64 with h | h
 ·exact chk_ok (by decide) (by decide) chk_13_2_0 (by omega) (by omega) hv hI
 rcases Nat.lt_or_ge v 128 with h | h
 ·exact chk_ok (by decide) (by decide) chk_13_2_64 (by omega) (by omega) hv hI
 exact chk_ok (by decide) (by decide) chk_13_2_128 (by omega) (by omega) hv hI
noncomputable def prL : List Nat := [2, 3, 5, 7, 11, 13, 17, 19, 23, 29, 31, 37, 41, 43, 47, 53, 59, 61, 67, 71, 73, 79, 83, 89, 97, 101, 103, 107, 109, 113, 127, 131, 137, 139, 149, 151, 157, 163, 167, 173, 179, 181, 191, 193, 197, 199, 211, 223, 227, 229, 233, 239, 241, 251]
theorem prL_all : (List.range 257).all (fun p => prL.contains p || Nat.blt p 2 || (List.range p).any (fun e => Nat.ble 2 e && Nat.beq (p % e) 0)) = true := by decide +kernel
theorem prL_mem {p : Nat} (hp : IsLf p p) (h : p ≤ 256) : p ∈ prL := by
 have h1 := List.all_eq_true.1 prL_all p (List.mem_range.2 (by omega)); simp only [Bool.or_eq_true, List.contains_iff_mem, List.any_eq_true, List.mem_range, Bool.and_eq_true] at h1; rcases h1 with (h1 | h1) | ⟨e, he, h2, h3⟩
 ·exact h1
 ·have := hp.two; have := Nat.le_of_ble_eq_true h1; omega
 ·have := hp.min e (Nat.le_of_ble_eq_true h2) (Nat.eq_of_beq_eq_true h3); omega
theorem gx_1 {p : Nat} (hp : IsLf p p) (h : p ≤ 256) : ∃ g, Gn (p ^ 1) (fmul p 1 (dv p 0)) g := by
 have hm := prL_mem hp h; have hg : genB p 1 [0] = true := by
  unfold prL at hm; rw [show ([2, 3, 5, 7, 11, 13, 17, 19, 23, 29, 31, 37, 41, 43, 47, 53, 59, 61, 67, 71, 73, 79, 83, 89, 97, 101, 103, 107, 109, 113, 127, 131, 137, 139, 149, 151, 157, 163, 167, 173, 179, 181, 191, 193, 197, 199, 211, 223, 227, 229, 233, 239, 241, 251] : List Nat) = ([2, 3, 5, 7, 11, 13, 17, 19, 23, 29, 31, 37, 41, 43, 47, 53, 59, 61] : List Nat) ++ ([67, 71, 73, 79, 83, 89, 97, 101, 103, 107, 109, 113, 127, 131, 137, 139, 149, 151] : List Nat) ++ ([157, 163, 167, 173, 179, 181, 191, 193, 197, 199, 211, 223, 227, 229, 233, 239, 241, 251] : List Nat) from rfl] at hm; simp only [List.mem_append] at hm; rcases hm with (h | h) | h
  ·exact List.all_eq_true.1 chk1_0 p h
  ·exact List.all_eq_true.1 chk1_1 p h
  ·exact List.all_eq_true.1 chk1_2 p h
 refine genB_ok hp.two (by decide) ⟨rfl, fun i hi => ?_⟩ hg; rw [show i = 0 by omega, dv_z]; simp [vz]
theorem pm_cases {p m : Nat} (hp : IsLf p p) (hm : 2 ≤ m) (hq : p ^ m ≤ 256) : (p = 2 ∧ m = 2) ∨ (p = 2 ∧ m = 3) ∨ (p = 2 ∧ m = 4) ∨ (p = 2 ∧ m = 5) ∨ (p = 2 ∧ m = 6) ∨ (p = 2 ∧ m = 7) ∨ (p = 2 ∧ m = 8) ∨ (p = 3 ∧ m = 2) ∨ (p = 3 ∧ m = 3) ∨ (p = 3 ∧ m = 4) ∨ (p = 3 ∧ m = 5) ∨ (p = 5 ∧ m = 2) ∨ (p = 5 ∧ m = 3) ∨ (p = 7 ∧ m = 2) ∨ (p = 11 ∧ m = 2) ∨ (p = 13 ∧ m = 2) := by
  have h2 := hp.two
  have hpow : ∀ k, k ≤ m → p ^ k ≤ 256 := fun k hk => Nat.le_trans (Nat.pow_le_pow_right (by omega) hk) hq
  have hp2 : p ≤ 16 := by
    rcases Nat.lt_or_ge 16 p with h | h
    · have h1 := hpow 2 hm
      have h3 : 17 ^ 2 ≤ p ^ 2 := Nat.pow_le_pow_left h 2
      omega
    · exact h
  have hnd : ∀ e, 2 ≤ e → e < p → p % e ≠ 0 := fun e he hlt h0 => by have := hp.min e he h0; omega
  have hc : p = 2 ∨ p = 3 ∨ p = 5 ∨ p = 7 ∨ p = 11 ∨ p = 13 := by
    have h3 := hnd 2 (by omega)
    have h4 := hnd 3 (by omega)
    omega
  rcases hc with rfl | rfl | rfl | rfl | rfl | rfl
  · have : m ≤ 8 := by
      rcases Nat.lt_or_ge 8 m with h | h
      · have := hpow 9 h; omega
      · exact h
    omega
  · have : m ≤ 5 := by
      rcases Nat.lt_or_ge 5 m with h | h
      · have := hpow 6 h; omega
      · exact h
    omega
  · have : m ≤ 3 := by
      rcases Nat.lt_or_ge 3 m with h | h
      · have := hpow 4 h; omega
      · exact h
    omega
  · have : m ≤ 2 := by
      rcases Nat.lt_or_ge 2 m with h | h
      · have := hpow 3 h; omega
      · exact h
    omega
  · have : m ≤ 2 := by
      rcases Nat.lt_or_ge 2 m with h | h
      · have := hpow 3 h; omega
      · exact h
    omega
  · have : m ≤ 2 := by
      rcases Nat.lt_or_ge 2 m with h | h
      · have := hpow 3 h; omega
      · exact h
    omega
theorem gen_ex {p m v : Nat} (hp : IsLf p p) (hm : 0 < m) (hq : p ^ m ≤ 256) (hv : v < p ^ m) (h1 : m = 1 → v = 0) (hI : Irr p m (dv p v)) : ∃ g, Gn (p ^ m) (fmul p m (dv p v)) g := by
  rcases Nat.lt_or_ge m 2 with h | h
  · have : m = 1 := by omega
    subst this
    rw [h1 rfl]
    exact gx_1 hp (by simpa using hq)
  · rcases pm_cases hp h hq with ⟨rfl, rfl⟩ | ⟨rfl, rfl⟩ | ⟨rfl, rfl⟩ | ⟨rfl, rfl⟩ | ⟨rfl, rfl⟩ | ⟨rfl, rfl⟩ | ⟨rfl, rfl⟩ | ⟨rfl, rfl⟩ | ⟨rfl, rfl⟩ | ⟨rfl, rfl⟩ | ⟨rfl, rfl⟩ | ⟨rfl, rfl⟩ | ⟨rfl, rfl⟩ | ⟨rfl, rfl⟩ | ⟨rfl, rfl⟩ | ⟨rfl, rfl⟩
    · exact gx_2_2 hv hI
    · exact gx_2_3 hv hI
    · exact gx_2_4 hv hI
    · exact gx_2_5 hv hI
    · exact gx_2_6 hv hI
    · exact gx_2_7 hv hI
    · exact gx_2_8 hv hI
    · exact gx_3_2 hv hI
    · exact gx_3_3 hv hI
    · exact gx_3_4 hv hI
    · exact gx_3_5 hv hI
    · exact gx_5_2 hv hI
    · exact gx_5_3 hv hI
    · exact gx_7_2 hv hI
    · exact gx_11_2 hv hI
    · exact gx_13_2 hv hI
end Go.Proofs.Ytiboieijhehjnaa
set_option linter.unusedVariables false
set_option linter.unusedSimpArgs false
namespace Go.Proofs.Ytiboieijhehjnaa
def vo (l : List Int) : Vec := fun i => l.getD i 0
theorem gi_nat (l : List Int) (i : Nat) : gi l (i : Int) = vo l i := rfl
theorem si_nat (l : List Int) (i : Nat) (x : Int) : si l (i : Int) x = l.set i x := rfl
theorem tmodN (a b : Nat) : (a : Int).tmod (b : Int) = ((a % b : Nat) : Int) := rfl
theorem tdivN (a b : Nat) : (a : Int).tdiv (b : Int) = ((a / b : Nat) : Int) := rfl
theorem vo_set (l : List Int) (i j : Nat) (x : Int) : vo (l.set i x) j = if i = j ∧ i < l.length then x else vo l j := by
 unfold vo; rw [List.getD_eq_getElem?_getD, List.getD_eq_getElem?_getD, List.getElem?_set]; by_cases h : i = j
 ·subst h; by_cases h2 : i < l.length
  ·simp [h2]
  ·simp [h2]
 ·simp [h]
theorem vo_rep (n : Nat) (i : Nat) : vo (List.replicate n (0 : Int)) i = 0 := by
 unfold vo; rw [List.getD_eq_getElem?_getD, List.getElem?_replicate]; split <;> rfl
theorem vo_hi {l : List Int} {i : Nat} (h : l.length ≤ i) : vo l i = 0 := by
 unfold vo; rw [List.getD_eq_getElem?_getD, List.getElem?_eq_none h]; rfl
theorem vo_ext {l o : List Int} (h : l.length = o.length) (hv : ∀ i, i < l.length → vo l i = vo o i) : l = o := by
 refine List.ext_getElem h fun i h1 h2 => ?_; have := hv i h1; unfold vo at this; rw [List.getD_eq_getElem?_getD, List.getD_eq_getElem?_getD, List.getElem?_eq_getElem h1, List.getElem?_eq_getElem h2] at this; exact this
theorem small {x : Int} (h : -1000000000000 ≤ x) (h2 : x ≤ 1000000000000) : I64 x := ⟨by omega, by omega⟩
theorem smallN {n : Nat} (h : n ≤ 1000000000000) : I64 (n : Int) := small (by omega) (by omega)
def dgi (p n x : Nat) : List Int := (dgl p n x).map fun (a : Nat) => (a : Int)
theorem dgi_len (p n x : Nat) : (dgi p n x).length = n := by simp [dgi, dgl_len]
theorem dgi_at {p n x i : Nat} (h : i < n) : vo (dgi p n x) i = dv p x i := by
 rw [← dgl_at p n x i h]; unfold vo dgi; rw [List.getD_eq_getElem?_getD, List.getElem?_map, List.getD_eq_getElem?_getD]; rw [List.getElem?_eq_getElem (by rw [dgl_len]; exact h)]; rfl
theorem v_okIf {b : Bool} {Q : Int → Prop} (h : Q (if b = true then 0 else 1)) : V_okIf b Q := by
 cases b
 ·exact ⟨fun h' => absurd h' (by decide), fun _ => h⟩
 ·exact ⟨fun _ => h, fun h' => absurd h' (by decide)⟩
theorem lf_root {n k : Nat} (hn : 2 ≤ n) (hk : n < k * k) (h : ∀ e, e < k → 2 ≤ e → n % e ≠ 0) : IsLf n n := by
 refine ⟨hn, Nat.mod_self n, fun e he hm => ?_⟩; rcases Nat.lt_or_ge e k with hc | hc
 ·exact absurd hm (h e hc he)
 ·obtain ⟨t, ht⟩ := Nat.dvd_of_mod_eq_zero hm; have hq1 : t < k := by
   rcases Nat.lt_or_ge t k with h1 | h1
   ·exact h1
   ·have := Nat.mul_le_mul hc h1; omega
  rcases Nat.lt_or_ge t 2 with h2 | h2
  ·have : t = 0 ∨ t = 1 := by omega
   rcases this with rfl | rfl
   ·omega
   ·omega
  ·exact absurd (Nat.mod_eq_zero_of_dvd ⟨e, by rw [ht, Nat.mul_comm]⟩) (h t hq1 h2)
theorem v_leastDivisor {x : Nat} {Q : Int → Prop} (h2 : 2 ≤ x) (hx : x ≤ 256) (h : ∀ d : Nat, IsLf x d → Q d) : V_leastDivisor x Q := by
 refine ⟨fun z => ∃ k : Nat, z = k ∧ 2 ≤ k ∧ k ≤ 17 ∧ ∀ e, e < k → 2 ≤ e → x % e ≠ 0, fun z => (20 - z).toNat, ⟨2, rfl, by omega, by omega, fun e _ _ => by omega⟩, ?_⟩; rintro _ ⟨k, rfl, hk2, hk, hm⟩; dsimp only; have e1 : ((k : Nat) : Int) * (k : Int) = ((k * k : Nat) : Int) := by push_cast; rfl
 have hb : k * k ≤ 17 * 17 := Nat.mul_le_mul hk hk; rw [e1]; refine ⟨small (by omega) (by omega), fun hle => ⟨by omega, ?_, ?_⟩, fun hgt => ?_⟩
 ·intro h0; rw [tmodN] at h0; refine h k ⟨hk2, by omega, fun e he h3 => ?_⟩; rcases Nat.lt_or_ge e k with hc | hc
  ·exact absurd h3 (hm e hc he)
  ·exact hc
 ·intro h0; rw [tmodN] at h0; have hk16 : k ≤ 16 := by
   rcases Nat.lt_or_ge 16 k with hc | hc
   ·have := Nat.mul_le_mul hc hc; omega
   ·exact hc
  refine ⟨small (by omega) (by omega), ⟨k + 1, by push_cast; rfl, by omega, by omega, fun e he h3 => ?_⟩, by omega⟩; rcases Nat.lt_or_ge e k with hc | hc
  ·exact hm e hc h3
  ·rw [show e = k by omega]; omega
 ·exact h x (lf_root h2 (by omega) hm)
theorem IsLf.uniq {n d e : Nat} (h : IsLf n d) (h' : IsLf n e) : d = e := Nat.le_antisymm (h.min e h'.two h'.dvd) (h'.min d h.two h.dvd)
theorem v_isPrime {x : Int} {Q : Bool → Prop} (hx : x ≤ 256) (h : ∀ b : Bool, (b = true ↔ 2 ≤ x ∧ IsLf x.toNat x.toNat) → Q b) : V_isPrime x Q := by
 refine ⟨fun h2 => ?_, fun h2 => h false ⟨fun h' => by (cases h'), fun h' => absurd h'.1 h2⟩⟩; obtain ⟨n, rfl⟩ := Int.eq_ofNat_of_zero_le (show 0 ≤ x by omega); refine v_leastDivisor (by omega) (by omega) fun d hd => h _ ?_; rw [decide_eq_true_iff, Int.toNat_natCast]; constructor
 ·intro he; have : d = n := by omega
  subst this; exact ⟨h2, hd⟩
 ·rintro ⟨_, hn⟩; rw [hd.uniq hn]
theorem v_rprime {x : Nat} {Q : Bool → Prop} (h2 : 2 ≤ x) (hx : x ≤ 256) (h : ∀ b : Bool, (b = true ↔ IsLf x x) → Q b) : V_rprime x Q := by
 refine ⟨fun z => ∃ k : Nat, z = k ∧ 2 ≤ k ∧ k ≤ x ∧ ∀ e, e < k → 2 ≤ e → x % e ≠ 0, fun z => (x - z).toNat, ⟨2, rfl, by omega, by omega, fun e _ _ => by omega⟩, ?_⟩; rintro _ ⟨k, rfl, hk2, hk, hm⟩; dsimp only; refine ⟨fun hlt => ⟨by omega, fun h0 => ?_, fun h0 => ?_⟩, fun hge => ?_⟩
 ·rw [tmodN] at h0; refine h false ⟨fun h' => by (cases h'), fun hp => ?_⟩; have := hp.min k hk2 (by omega); omega
 ·rw [tmodN] at h0; refine ⟨small (by omega) (by omega), ⟨k + 1, by push_cast; rfl, by omega, by omega, fun e he h3 => ?_⟩, by omega⟩; rcases Nat.lt_or_ge e k with hc | hc
  ·exact hm e hc h3
  ·rw [show e = k by omega]; omega
 ·refine h true ⟨fun _ => ⟨h2, Nat.mod_self x, fun e he h0 => ?_⟩, fun _ => rfl⟩; rcases Nat.lt_or_ge e x with hc | hc
  ·exact absurd h0 (hm e (by omega) he)
  ·exact hc
theorem pow_mono {p a b : Nat} (hp : 0 < p) (h : a ≤ b) : p ^ a ≤ p ^ b := Nat.pow_le_pow_right hp h
theorem v_order {p : Nat} {M : Int} {mf : List Int} {Q : Int → Prop} (hp : 2 ≤ p) (hp2 : p ≤ 256) (h : ∀ r : Int, (p ^ M.toNat ≤ 256 → r = ((p ^ M.toNat : Nat) : Int)) → (256 < p ^ M.toNat → 256 < r) → Q r) : V_order p M mf Q := by
 refine ⟨fun r => (p ^ M.toNat ≤ 256 → r = ((p ^ M.toNat : Nat) : Int)) ∧ (256 < p ^ M.toNat → 256 < r), ⟨fun z i => ∃ k : Nat, i = k ∧ k ≤ M.toNat ∧ z = ((p ^ k : Nat) : Int) ∧ p ^ k ≤ 65536 ∧ k ≤ 16, fun z i => (20 - i).toNat, ⟨0, rfl, Nat.zero_le _, by simp, by simp, by omega⟩, ?_⟩, fun r hr => h r hr.1 hr.2⟩; rintro _ _ ⟨k, rfl, hk, rfl, hb, hk16⟩; dsimp only; refine ⟨fun hlt => ⟨fun hle => ?_, fun hgt => ?_⟩, fun hge => ?_⟩
 ·have hk8 : p ^ k ≤ 256 := by omega
  have hkk : k < 16 := by
   rcases Nat.lt_or_ge k 16 with hc | hc
   ·exact hc
   ·have h1 := pow_mono (p := p) (by omega) hc; have h2 : 2 ^ 16 ≤ p ^ 16 := Nat.pow_le_pow_left hp 16; omega
  have e1 : ((p ^ k : Nat) : Int) * (p : Int) = ((p ^ (k + 1) : Nat) : Int) := by rw [Nat.pow_succ]; push_cast; rfl
  have hb2 : p ^ (k + 1) ≤ 65536 := by
   rw [Nat.pow_succ]; have := Nat.mul_le_mul hk8 hp2; omega
  rw [e1]; exact ⟨small (by omega) (by omega), small (by omega) (by omega), ⟨k + 1, by push_cast; rfl, by omega, rfl, hb2, by omega⟩, by omega⟩
 ·have := pow_mono (p := p) (by omega) hk; exact ⟨fun h' => by omega, fun _ => by omega⟩
 ·have : k = M.toNat := by omega
  subst this; exact ⟨fun _ => rfl, fun h' => by omega⟩
def ordR (P M : Int) : Int := if 2 ≤ P ∧ 1 ≤ M ∧ P.toNat ^ M.toNat ≤ 256 then ((P.toNat ^ M.toNat : Nat) : Int) else 0
theorem v_rOrder {P M : Int} {mf : List Int} {Q : Int → Prop} (h : Q (ordR P M)) : V_rOrder P M mf Q := by
 refine ⟨fun h1 => ?_, fun h1 => ⟨fun h2 => ?_, fun h2 => ⟨fun h3 => ?_, fun h3 => ?_⟩⟩⟩
 ·rw [ordR, if_neg (by omega)] at h; exact h
 ·rw [ordR, if_neg (by omega)] at h; exact h
 ·rw [ordR, if_neg] at h
  ·exact h
  ·rintro ⟨h4, h5, h6⟩; have e1 : 2 ^ 9 ≤ P.toNat ^ 9 := Nat.pow_le_pow_left (by omega) 9; have e2 := pow_mono (p := P.toNat) (by omega) (show 9 ≤ M.toNat by omega); omega
 ·obtain ⟨p, rfl⟩ := Int.eq_ofNat_of_zero_le (show 0 ≤ P by omega); obtain ⟨m, rfl⟩ := Int.eq_ofNat_of_zero_le (show 0 ≤ M by omega); refine ⟨fun z i => ∃ k : Nat, i = k ∧ k ≤ m ∧ z = ((p ^ k : Nat) : Int) ∧ p ^ k ≤ 256, fun z i => (20 - i).toNat, ⟨0, rfl, Nat.zero_le _, by simp, by simp⟩, ?_⟩; rintro _ _ ⟨k, rfl, hk, rfl, hb⟩; dsimp only; rw [show (256 : Int) = ((256 : Nat) : Int) from rfl, tdivN]; have hd : 256 / p ≤ 256 := Nat.div_le_self _ _; have hdm : ∀ a, a ≤ 256 / p ↔ a * p ≤ 256 := fun a => Nat.le_div_iff_mul_le (show 0 < p by omega); generalize 256 / p = D at *
  refine ⟨fun hlt => ⟨⟨by omega, small (by omega) (by omega)⟩, fun hgt => ?_, fun hle => ?_⟩, fun hge => ?_⟩
  ·rw [ordR, if_neg] at h
   ·exact h
   ·rintro ⟨_, _, h6⟩; simp only [Int.toNat_natCast] at h6; have h7 : p ^ (k + 1) ≤ 256 := Nat.le_trans (pow_mono (by omega) (by omega)) h6; rw [Nat.pow_succ] at h7; have := (hdm _).2 h7; omega
  ·have h7 : p ^ (k + 1) ≤ 256 := by rw [Nat.pow_succ]; exact (hdm _).1 (by omega)
   have e1 : ((p ^ k : Nat) : Int) * (p : Int) = ((p ^ (k + 1) : Nat) : Int) := by rw [Nat.pow_succ]; push_cast; rfl
   rw [e1]; exact ⟨small (by omega) (by omega), small (by omega) (by omega), ⟨k + 1, by push_cast; rfl, by omega, rfl, h7⟩, by omega⟩
  ·have : k = m := by omega
   subst this; rw [ordR, if_pos ⟨by omega, by omega, by simpa using hb⟩] at h
   simpa using h
theorem div_pow_succ (x p i : Nat) : x / p ^ i / p = x / p ^ (i + 1) := by rw [Nat.div_div_eq_div_mul, Nat.pow_succ]
theorem v_digits {p n x : Nat} {Q : List Int → Prop} (hp : 0 < p) (hn : n ≤ 1000) (hx : x ≤ 1000) (h : Q (dgi p n x)) : V_digits p n x Q := by
 refine ⟨⟨by omega, by omega, by omega⟩, fun l z i => ∃ k : Nat, i = k ∧ k ≤ n ∧ z = ((x / p ^ k : Nat) : Int) ∧ l.length = n ∧ ∀ j, j < k → vo l j = dv p x j, fun l z i => (n - i).toNat, ⟨0, rfl, Nat.zero_le _, by simp, by simp, fun j hj => by omega⟩, ?_⟩; rintro l _ _ ⟨k, rfl, hk, rfl, hl, hv⟩; dsimp only; have hd : x / p ^ k ≤ x := Nat.div_le_self _ _; have hd2 : x / p ^ k / p ≤ x / p ^ k := Nat.div_le_self _ _; rw [tdivN, tmodN, si_nat]; simp only [Int.toNat_natCast]; refine ⟨fun hlt => ⟨by omega, ⟨by omega, by omega⟩, ⟨by omega, smallN (by omega)⟩, small (by omega) (by omega), ⟨k + 1, by push_cast; rfl, by omega, by rw [div_pow_succ], by rw [List.length_set, hl], fun j hj => ?_⟩, by omega⟩, fun hge => ?_⟩
 ·rw [vo_set]; by_cases hjk : k = j
  ·subst hjk; rw [if_pos ⟨rfl, by omega⟩]; rfl
  ·rw [if_neg (by omega)]; exact hv j (by omega)
 ·have : l = dgi p n x := vo_ext (by rw [hl, dgi_len]) fun j hj => by rw [hv j (by omega), dgi_at (by omega)]
  rw [this]; exact h
theorem v_rdigits {p n x : Nat} {Q : List Int → Prop} (hp : 0 < p) (hn : n ≤ 1000) (hx : x ≤ 1000) (h : Q (dgi p n x)) : V_rdigits x p n Q := by
 refine ⟨⟨by omega, by omega, by omega⟩, fun l z i => ∃ k : Nat, i = k ∧ k ≤ n ∧ z = ((x / p ^ k : Nat) : Int) ∧ l.length = n ∧ ∀ j, j < k → vo l j = dv p x j, fun l z i => (n - i).toNat, ⟨0, rfl, Nat.zero_le _, by simp, by simp, fun j hj => by omega⟩, ?_⟩; rintro l _ _ ⟨k, rfl, hk, rfl, hl, hv⟩; dsimp only; have hd : x / p ^ k ≤ x := Nat.div_le_self _ _; have hd2 : x / p ^ k / p ≤ x / p ^ k := Nat.div_le_self _ _; rw [tdivN, tmodN, si_nat]; simp only [Int.toNat_natCast]; refine ⟨fun hlt => ⟨by omega, ⟨by omega, by omega⟩, ⟨by omega, smallN (by omega)⟩, small (by omega) (by omega), ⟨k + 1, by push_cast; rfl, by omega, by rw [div_pow_succ], by rw [List.length_set, hl], fun j hj => ?_⟩, by omega⟩, fun hge => ?_⟩
 ·rw [vo_set]; by_cases hjk : k = j
  ·subst hjk; rw [if_pos ⟨rfl, by omega⟩]; rfl
  ·rw [if_neg (by omega)]; exact hv j (by omega)
 ·have : l = dgi p n x := vo_ext (by rw [hl, dgi_len]) fun j hj => by rw [hv j (by omega), dgi_at (by omega)]
  rw [this]; exact h
theorem v_successor {p m x : Nat} {mf : List Int} {Q : Int → Prop} (hp : 2 ≤ p) (hp2 : p ≤ 256) (hx : x ≤ 256) (h : Q ((if x % p = p - 1 then x - x % p else x + 1 : Nat) : Int)) : V_successor p m mf x Q := by
 have hm := Nat.mod_lt x (show 0 < p by omega); have hm2 := Nat.mod_le x p; refine ⟨by omega, small (by omega) (by omega), fun h0 => ⟨by omega, ?_⟩, fun h0 => ?_⟩
 ·rw [tmodN] at h0 ⊢; rw [if_pos (by omega)] at h; refine ⟨small (by omega) (by omega), ?_⟩; rw [show (x : Int) - ((x % p : Nat) : Int) = ((x - x % p : Nat) : Int) by omega]; exact h
 ·rw [tmodN] at h0; rw [if_neg (by omega)] at h; exact ⟨small (by omega) (by omega), by push_cast at h ⊢; exact h⟩
theorem v_clone {l : List Int} {Q : List Int → Prop} (hl : l.length ≤ 1000000) (h : Q l) : V_clone l Q := by
 intro b hb; refine ⟨fun h1 => by rw [← hb h1]; exact h, fun _ => ⟨by omega, by simpa using h⟩⟩
end Go.Proofs.Ytiboieijhehjnaa
