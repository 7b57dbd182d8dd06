/- Contracts of functions of the program, and what they lean on: D8, D9, D10, N1, N2, N3, D11, N4, N5, N6. -/
import Derived.Test.YtcmfjjbbcfddpaaWordCleansG5
set_option linter.unusedSimpArgs false
set_option linter.unusedVariables false
set_option maxRecDepth 4000
set_option maxHeartbeats 4000000
namespace Go.Proofs.Ytcmfjjbbcfddpaa
open Go.RowKit
def V_Clean (Fg : GFv) (l : List Int) (Q : List Int → Prop) : Prop :=
  (0 ≤ ((l.length : Nat) : Int) ∧ ((l.length : Nat) : Int) * 8 ≤ 281474976710656 ∧ ((l.length : Nat) : Int) ≤ 281474976710656) ∧ (∃ (I21 : List Int → Int → Prop) (μ22 : List Int → Int → Nat), I21 (List.replicate ((l.length : Nat) : Int).toNat (0 : Int)) (0 : Int) ∧ ∀ (x19 : List Int) (z20 : Int), (I21 x19 z20 → (((z20 < ((l.length : Nat) : Int)) → (∃ J27 : List Int → Bool → Prop, ((0 ≤ z20 ∧ z20 < (l.length : Nat)) ∧ (V_Is Fg (gi l z20) (fun r30 => ((r30 = true) → ((0 ≤ z20 ∧ z20 < (((l.length : Nat) : Int).toNat : Nat)) ∧ (J27 (si x19 z20 (gi l z20)) r30))) ∧ (r30 = false → J27 x19 r30)))) ∧ ∀ (x25 : List Int) (b26 : Bool), (J27 x25 b26 → ((I64 (z20 + (1 : Int))) ∧ (I21 x25 (z20 + (1 : Int)) ∧ μ22 x25 (z20 + (1 : Int)) < μ22 x19 z20))))) ∧ (¬ (z20 < ((l.length : Nat) : Int)) → Q x19))))
theorem ok_Clean {w : World} {Q : List Int → Prop} {Fg : GFv} {l : List Int} {ag : Addr} {Bg : Nat} (hgg : GFR Bg w ag Fg) {Bl : Nat} {Al : Option Addr} {nl kl : Nat} (hl : Rd Bl w 1 Al nl kl (is l)) (hv : V_Clean Fg l Q) :
   Calls Try.prog 19 #[.pointer (some ag), .slice Al nl kl] w fun e w' => ∃ v Qr, e = .returned v ∧ w.grownBy w' none ∧ Rows w.heap.size none w' Qr ∧ News w.heap.size Qr ∧ ∃ (r0 : List Int) (Ar0 : Option Addr) (cr0 : Nat), v = .slice Ar0 r0.length cr0 ∧ Qr = [.row 3 1 Ar0 r0.length cr0 (is r0)] ∧ Q r0 := by
 have hgg_ := hgg; obtain ⟨Ag_mod, kg_mod, Ag_exp, kg_exp, Ag_log, kg_log, Ag_above, kg_above, hg_c, hg_mod, hg_exp, hg_log, hg_above⟩ := hgg_; have hnl := hl.ilen; subst hnl; refine calls_swap <| calls_of_W (vs := [.pointer (some ag), .slice Al l.length kl]) [4] XF19 rfl rfl rfl rfl ?_; have hS := St.start w; unfold V_Clean at hv; refine W.seq <| W.region <| WL.assign rfl rfl <| WL.done <| W.seq <| W.region <| WL.move rfl rfl <| WL.len XU22 rfl rfl ?_; obtain ⟨o11, hv⟩ := hv; refine SL.make (J := ((l.length : Nat) : Int)) hS XU22 XE3 rfl rfl o11 (made_is _) rfl ?_; intro A12 w13 hS; refine WL.assign rfl rfl <| WL.done <| W.seq <| W.seq <| W.region <| WL.move rfl rfl <| WL.len XU22 rfl rfl <| WL.move rfl rfl <| WL.done <| W.block ?_; obtain ⟨I21, μ22, hv, hk37⟩ := hv; refine W.loop (σ := List Int × Int) (fun q w1 => match q with | (x19, z20) => I21 x19 z20 ∧ St TT w none w1 [.row 3 1 A12 (((l.length : Nat) : Int).toNat) (((l.length : Nat) : Int).toNat) (is x19)]) (fun q => match q with | (x19, z20) => [(0, .pointer (some ag)), (4, .slice none 0 0), (5, .slice A12 (((l.length : Nat) : Int).toNat) (((l.length : Nat) : Int).toNat)), (11, .slice Al l.length kl), (12, .int .i64 ((l.length : Nat) : Int)), (13, .int .i64 z20)]) (fun q => match q with | (x19, z20) => μ22 x19 z20) (List.replicate ((l.length : Nat) : Int).toNat (0 : Int), (0 : Int)) ⟨hv, hS⟩ ⟨rfl, rfl, rfl, rfl, rfl, rfl, trivial⟩ ?_; rintro ⟨x19, z20⟩ w23 ⟨hv, hS⟩; have hv := hk37 x19 z20 hv; refine W.seq <| W.region <| WL.lssD rfl rfl rfl <| WL.done <| W.seq <| W.cond2 rfl (fun c24 => ?_) (fun c24 => ?_)
 ·have hv := hv.1 (of_decide_eq_true c24); refine W.skip <| W.seq ?_; obtain ⟨J27, hv, hk36⟩ := hv; refine W.cutN (σ := List Int × Bool) (fun q w1 => match q with | (x25, b26) => J27 x25 b26 ∧ St TT w none w1 [.row 3 1 A12 (((l.length : Nat) : Int).toNat) (((l.length : Nat) : Int).toNat) (is x25)]) (fun q => match q with | (x25, b26) => [(0, .pointer (some ag)), (4, .slice none 0 0), (5, .slice A12 (((l.length : Nat) : Int).toNat) (((l.length : Nat) : Int).toNat)), (6, .int .i64 z20), (7, .int .i64 (gi l z20)), (11, .slice Al l.length kl), (12, .int .i64 ((l.length : Nat) : Int)), (13, .int .i64 z20), (14, .bool (decide (z20 < ((l.length : Nat) : Int)))), (20, .bool b26)]) ?_ ?_
  ·refine W.block ?_; refine W.seq <| W.region <| WL.move rfl rfl ?_; obtain ⟨o28, hv⟩ := hv; refine SL.index XU22 XE3 (hS.ro hl) rfl rfl o28 rfl <| WL.load XU3 rfl rfl (Rd.gi (hS.ro hl) o28) rfl <| WL.assign rfl rfl <| WL.assign rfl rfl <| WL.done <| W.seq <| W.region <| WL.move rfl rfl <| WL.move rfl rfl <| SL.call hS (ok_Is (GFR.ext (GFR.norm hgg) hS.ext) hv) XF56 rfl XN56 rfl rfl ?_; rintro _ _ w29 ⟨r30, rfl, rfl, hv⟩ hGw29 hS; have hS := hS.n0; refine WL.done <| W.cond2 rfl (fun c31 => ?_) (fun c31 => ?_)
   ·have hv := hv.1 (c31); refine W.region <| WL.move rfl rfl <| WL.move rfl rfl <| WL.move rfl rfl ?_; obtain ⟨o32, hv⟩ := hv; refine SL.index XU22 XE3 (hS.rd (i := 0) rfl) rfl rfl o32 rfl <| SL.store (cs' := is (si x19 z20 (gi l z20))) 0 z20.toNat hS rfl XE3 rfl rfl rfl (is_lt (hS.rd (i := 0) rfl) o32) (is_set _ _ _) ?_; intro w33 hS; refine WL.done ?_; exact ⟨(si x19 z20 (gi l z20), r30), ⟨rfl, rfl, rfl, rfl, rfl, rfl, rfl, rfl, rfl, rfl, trivial⟩, rfl, hv, hS⟩
   have hv := hv.2 (c31); refine W.skip ?_; exact ⟨(x19, r30), ⟨rfl, rfl, rfl, rfl, rfl, rfl, rfl, rfl, rfl, rfl, trivial⟩, rfl, hv, hS⟩
  rintro ⟨x25, b26⟩ w34 ⟨hv, hS⟩; have hv := hk36 x25 b26 hv; refine W.region ?_; obtain ⟨o35, hv⟩ := hv; refine WL.add (r := (z20 + (1 : Int))) rfl rfl (wr o35) rfl <| WL.move rfl rfl <| WL.done ?_; exact ⟨(x25, (z20 + (1 : Int))), ⟨rfl, rfl, rfl, rfl, rfl, rfl, trivial⟩, hv.2, rfl, hv.1, hS⟩
 have hv := hv.2 (of_decide_eq_false c24); refine W.exit <| W.seq <| W.region <| WL.move rfl rfl <| WL.assign rfl rfl <| WL.done <| W.ret ?_; have hm0 := (hS.rd (i := 0) rfl).ilen; have hS := hS.relen (i := 0) rfl hm0.symm; refine ⟨_, rfl, Fin.nil ?_⟩; exact ⟨_, hS.ext, (hS.pick [0] rfl).rows, News.of (hS.pick [0] rfl).rows rfl, ⟨x19, A12, ((l.length : Nat) : Int).toNat, (by first | (rw [hm0]; done) | (rw [hm0]; rfl)), rfl, hv⟩⟩
def V_Support (Fg : GFv) (l : List Int) (Q : List Int → Prop) : Prop :=
  ∃ (I26 : List Int → Int → Prop) (μ27 : List Int → Int → Nat), I26 ([] : List Int) (0 : Int) ∧ ∀ (x21 : List Int) (z25 : Int), (I26 x21 z25 → (((z25 < ((l.length : Nat) : Int)) → (∃ J34 : List Int → Bool → Prop, ((0 ≤ z25 ∧ z25 < (l.length : Nat)) ∧ ((((gi l z25) ≠ (0 : Int)) → (V_Is Fg (gi l z25) (fun r38 => ((r38 = true) → ((((x21.length : Nat) + (1 : Nat) : Int) * 8 ≤ 140737488355328) ∧ (J34 (x21 ++ ([z25] : List Int)) r38))) ∧ (r38 = false → J34 x21 r38)))) ∧ (¬ ((gi l z25) ≠ (0 : Int)) → J34 x21 false))) ∧ ∀ (x30 : List Int) (b33 : Bool), (J34 x30 b33 → ((I64 (z25 + (1 : Int))) ∧ (I26 x30 (z25 + (1 : Int)) ∧ μ27 x30 (z25 + (1 : Int)) < μ27 x21 z25))))) ∧ (¬ (z25 < ((l.length : Nat) : Int)) → Q x21)))
theorem ok_Support {w : World} {Q : List Int → Prop} {Fg : GFv} {l : List Int} {ag : Addr} {Bg : Nat} (hgg : GFR Bg w ag Fg) {Bl : Nat} {Al : Option Addr} {nl kl : Nat} (hl : Rd Bl w 1 Al nl kl (is l)) (hv : V_Support Fg l Q) :
   Calls Try.prog 21 #[.pointer (some ag), .slice Al nl kl] w fun e w' => ∃ v Qr, e = .returned v ∧ w.grownBy w' none ∧ Rows w.heap.size none w' Qr ∧ News w.heap.size Qr ∧ ∃ (r0 : List Int) (Ar0 : Option Addr) (cr0 : Nat), v = .slice Ar0 r0.length cr0 ∧ Qr = [.row 3 1 Ar0 r0.length cr0 (is r0)] ∧ Q r0 := by
 have hgg_ := hgg; obtain ⟨Ag_mod, kg_mod, Ag_exp, kg_exp, Ag_log, kg_log, Ag_above, kg_above, hg_c, hg_mod, hg_exp, hg_log, hg_above⟩ := hgg_; have hnl := hl.ilen; subst hnl; refine calls_swap <| calls_of_W (vs := [.pointer (some ag), .slice Al l.length kl]) [4] XF21 rfl rfl rfl rfl ?_; have hS := St.start w; unfold V_Support at hv; refine W.seq <| W.region <| WL.assign rfl rfl <| WL.done <| W.seq <| W.region <| WL.assign rfl rfl <| WL.done <| W.seq <| W.seq <| W.region <| WL.move rfl rfl <| WL.len XU22 rfl rfl <| WL.move rfl rfl <| WL.done <| W.block ?_; obtain ⟨I26, μ27, hv, hk50⟩ := hv; have hS := hS.nil (e := 3) (z := 1); have hm0 : 0 = ([] : List Int).length := (hS.rd (i := 0) rfl).ilen.symm; have hS := hS.relen (i := 0) rfl hm0
 change St _ _ _ _ [.row 3 1 none ([] : List Int).length 0 (is ([] : List Int))] at hS
 refine W.loop (σ := List Int × Int × Option Addr × Nat) (fun q w1 => match q with | (x21, z25, A22, k23) => I26 x21 z25 ∧ St TT w none w1 [.row 3 1 A22 x21.length k23 (is x21)]) (fun q => match q with | (x21, z25, A22, k23) => [(0, .pointer (some ag)), (4, .slice none 0 0), (5, .slice A22 x21.length k23), (8, .slice Al l.length kl), (9, .int .i64 ((l.length : Nat) : Int)), (10, .int .i64 z25)]) (fun q => match q with | (x21, z25, A22, k23) => μ27 x21 z25) (([] : List Int), (0 : Int), none, 0) ⟨hv, hS⟩ ⟨rfl, rfl, (sm (by first | rfl | assumption | omega)), rfl, rfl, rfl, trivial⟩ ?_; rintro ⟨x21, z25, A22, k23⟩ w28 ⟨hv, hS⟩; have hv := hk50 x21 z25 hv; refine W.seq <| W.region <| WL.lssD rfl rfl rfl <| WL.done <| W.seq <| W.cond2 rfl (fun c29 => ?_) (fun c29 => ?_)
 ·have hv := hv.1 (of_decide_eq_true c29); refine W.skip <| W.seq ?_; obtain ⟨J34, hv, hk49⟩ := hv; refine W.cutN (σ := List Int × Bool × Option Addr × Nat) (fun q w1 => match q with | (x30, b33, A31, k32) => J34 x30 b33 ∧ St TT w none w1 [.row 3 1 A31 x30.length k32 (is x30)]) (fun q => match q with | (x30, b33, A31, k32) => [(0, .pointer (some ag)), (4, .slice none 0 0), (5, .slice A31 x30.length k32), (6, .int .i64 z25), (7, .int .i64 (gi l z25)), (8, .slice Al l.length kl), (9, .int .i64 ((l.length : Nat) : Int)), (10, .int .i64 z25), (11, .bool (decide (z25 < ((l.length : Nat) : Int)))), (21, .bool b33)]) ?_ ?_
  ·refine W.block ?_; refine W.seq <| W.region <| WL.move rfl rfl ?_; obtain ⟨o35, hv⟩ := hv; refine SL.index XU22 XE3 (hS.ro hl) rfl rfl o35 rfl <| WL.load XU3 rfl rfl (Rd.gi (hS.ro hl) o35) rfl <| WL.assign rfl rfl <| WL.assign rfl rfl <| WL.done <| W.seq <| W.region <| WL.move rfl rfl <| WL.neqD rfl rfl rfl <| WL.move rfl rfl ?_; by_cases g36 : (gi l z25) ≠ (0 : Int)
   ·have hv := hv.1 g36; rw [decide_eq_true g36]; refine WL.take rfl <| WL.move rfl rfl <| WL.take rfl <| WL.move rfl rfl <| WL.take rfl <| SL.call hS (ok_Is (GFR.ext (GFR.norm hgg) hS.ext) hv) XF56 rfl XN56 rfl rfl ?_; rintro _ _ w37 ⟨r38, rfl, rfl, hv⟩ hGw37 hS; have hS := hS.n0; refine WL.pick rfl rfl rfl <| WL.done <| W.cond2 rfl (fun c39 => ?_) (fun c39 => ?_)
    ·have hv := hv.1 (c39); refine W.region <| WL.move rfl rfl <| WL.move rfl rfl <| SL.lit1 (vs := is ([z25] : List Int)) hS XU22 XE3 rfl rfl rfl rfl (is_one _) rfl ?_; intro A40 w41 hS; obtain ⟨o43, hv⟩ := hv; refine SL.append (cs := is x21) (cs' := is ([z25] : List Int)) 1 ((x21 ++ ([z25] : List Int)).length) (is (x21 ++ ([z25] : List Int))) hS rfl XU22 XE3 (hS.rd (i := 0) rfl) (is_one _) rfl rfl (apk o43).1 (apk o43).2 (is_ap (hS.rd (i := 1) rfl) (hS.rd (i := 0) rfl)) (is_append _ _) rfl ?_; intro A44 k45 w46 hS; refine WL.assign rfl rfl <| WL.done ?_; have hS := hS.pick [1] rfl; exact ⟨(x21 ++ ([z25] : List Int), r38, A44, k45), ⟨rfl, rfl, rfl, rfl, rfl, rfl, rfl, rfl, rfl, rfl, trivial⟩, rfl, hv, hS⟩
    have hv := hv.2 (c39); refine W.skip ?_; exact ⟨(x21, r38, A22, k23), ⟨rfl, rfl, rfl, rfl, rfl, rfl, rfl, rfl, rfl, rfl, trivial⟩, rfl, hv, hS⟩
   have hv := hv.2 g36; rw [decide_eq_false g36]; refine WL.pass rfl rfl rfl <| WL.pass rfl rfl rfl <| WL.pass rfl rfl rfl <| WL.pick rfl rfl rfl <| WL.done <| W.condF rfl <| W.skip ?_; exact ⟨(x21, false, A22, k23), ⟨rfl, rfl, rfl, rfl, rfl, rfl, rfl, rfl, rfl, rfl, trivial⟩, rfl, hv, hS⟩
  rintro ⟨x30, b33, A31, k32⟩ w47 ⟨hv, hS⟩; have hv := hk49 x30 b33 hv; refine W.region ?_; obtain ⟨o48, hv⟩ := hv; refine WL.add (r := (z25 + (1 : Int))) rfl rfl (wr o48) rfl <| WL.move rfl rfl <| WL.done ?_; exact ⟨(x30, (z25 + (1 : Int)), A31, k32), ⟨rfl, rfl, rfl, rfl, rfl, rfl, trivial⟩, hv.2, rfl, hv.1, hS⟩
 have hv := hv.2 (of_decide_eq_false c29); refine W.exit <| W.seq <| W.region <| WL.move rfl rfl <| WL.assign rfl rfl <| WL.done <| W.ret <| ⟨_, rfl, Fin.nil ?_⟩
 exact ⟨_, hS.ext, (hS.pick [0] rfl).rows, News.of (hS.pick [0] rfl).rows rfl, ⟨x21, A22, k23, rfl, rfl, hv⟩⟩
def V_Weight (Fg : GFv) (l : List Int) (Q : Int → Prop) : Prop :=
  V_Support Fg l (fun x12 => Q ((x12.length : Nat) : Int))
theorem ok_Weight {w : World} {Q : Int → Prop} {Fg : GFv} {l : List Int} {ag : Addr} {Bg : Nat} (hgg : GFR Bg w ag Fg) {Bl : Nat} {Al : Option Addr} {nl kl : Nat} (hl : Rd Bl w 1 Al nl kl (is l)) (hv : V_Weight Fg l Q) :
  Calls Try.prog 23 #[.pointer (some ag), .slice Al nl kl] w fun e w' => ∃ v Qr, e = .returned v ∧ w.grownBy w' none ∧ Rows w.heap.size none w' Qr ∧ News w.heap.size Qr ∧ ∃ (r0 : Int), v = .int .i64 r0 ∧ Qr = [] ∧ Q r0 := by
 have hgg_ := hgg; obtain ⟨Ag_mod, kg_mod, Ag_exp, kg_exp, Ag_log, kg_log, Ag_above, kg_above, hg_c, hg_mod, hg_exp, hg_log, hg_above⟩ := hgg_; have hnl := hl.ilen; subst hnl; refine calls_swap <| calls_of_W (vs := [.pointer (some ag), .slice Al l.length kl]) [4] XF23 rfl rfl rfl rfl ?_; have hS := St.start w; unfold V_Weight at hv; refine W.seq <| W.region <| WL.assign rfl rfl <| WL.done <| W.seq <| W.region <| WL.move rfl rfl <| WL.move rfl rfl <| SL.call hS (ok_Support (GFR.ext (GFR.norm hgg) hS.ext) (hS.ro hl) hv) XF21 rfl XN21 rfl rfl ?_; rintro _ _ w11 ⟨x12, A13, k14, rfl, rfl, hv⟩ hGw11 hS; have hS := hS.n1; refine WL.len XU22 rfl rfl <| WL.assign rfl rfl <| WL.done <| W.ret <| ⟨_, rfl, Fin.nil ?_⟩
 exact ⟨_, hS.ext, (hS.pick [] rfl).rows, News.of (hS.pick [] rfl).rows rfl, ⟨((x12.length : Nat) : Int), rfl, rfl, hv⟩⟩
def V_pairwise (op : Int → Int → (Int → Prop) → Prop) (a : List Int) (b : List Int) (Q : List Int × Int → Prop) : Prop :=
  ((((a.length : Nat) : Int) ≠ ((b.length : Nat) : Int)) → (Q (([] : List Int), (4 : Int)))) ∧ (¬ (((a.length : Nat) : Int) ≠ ((b.length : Nat) : Int)) → ((0 ≤ ((a.length : Nat) : Int) ∧ ((a.length : Nat) : Int) * 8 ≤ 281474976710656 ∧ ((a.length : Nat) : Int) ≤ 281474976710656) ∧ (∃ (I22 : List Int → Int → Prop) (μ23 : List Int → Int → Nat), I22 (List.replicate ((a.length : Nat) : Int).toNat (0 : Int)) (0 : Int) ∧ ∀ (x20 : List Int) (z21 : Int), (I22 x20 z21 → (((z21 < ((a.length : Nat) : Int)) → ((0 ≤ z21 ∧ z21 < (a.length : Nat)) ∧ ((0 ≤ z21 ∧ z21 < (b.length : Nat)) ∧ (op (gi a z21) (gi b z21) (fun z29 => (0 ≤ z21 ∧ z21 < (((a.length : Nat) : Int).toNat : Nat)) ∧ ((I64 (z21 + (1 : Int))) ∧ (I22 (si x20 z21 z29) (z21 + (1 : Int)) ∧ μ23 (si x20 z21 z29) (z21 + (1 : Int)) < μ23 x20 z21))))))) ∧ (¬ (z21 < ((a.length : Nat) : Int)) → (Q (x20, (0 : Int)))))))))
theorem ok_pairwise {w : World} {Q : List Int × Int → Prop} {op : Int → Int → (Int → Prop) → Prop} {a : List Int} {b : List Int} {cfop : Nat} {cgop : Func} {ccop : Code} {bsop csop : List Value} (hcfop : Try.prog.funcs[cfop]? = some cgop) (hcbop : cgop.body = some ccop) (hcnop : (cgop.name == "runtime.NumGoroutine") = false) (hclop : ∀ (wc : World) (xc yc : Int) (Qc : Int → Prop), w.grownBy wc none → op xc yc Qc → Calls Try.prog cfop (bsop ++ ([.int .i64 xc, .int .i64 yc] : List Value) ++ csop).toArray wc fun e w' => ∃ v Qr, e = .returned v ∧ wc.grownBy w' none ∧ Rows wc.heap.size none w' Qr ∧ News wc.heap.size Qr ∧ ∃ b : Int, v = .int .i64 b ∧ Qr = [] ∧ Qc b) {Ba : Nat} {Aa : Option Addr} {na ka : Nat} (ha : Rd Ba w 1 Aa na ka (is a)) {Bb : Nat} {Ab : Option Addr} {nb kb : Nat} (hb : Rd Bb w 1 Ab nb kb (is b)) (hv : V_pairwise op a b Q) :
   Calls Try.prog 57 #[.func (.func cfop) bsop.toArray csop.toArray, .slice Aa na ka, .slice Ab nb kb] w fun e w' => ∃ v Qr, e = .returned v ∧ w.grownBy w' none ∧ Rows w.heap.size none w' Qr ∧ News w.heap.size Qr ∧ ∃ (r0 : List Int) (r1 : Int) (Ar0 : Option Addr) (cr0 : Nat), v = .tuple #[.slice Ar0 r0.length cr0, .int .i64 r1] ∧ Qr = [.row 3 1 Ar0 r0.length cr0 (is r0)] ∧ Q (r0, r1) := by
 have hna := ha.ilen; subst hna; have hnb := hb.ilen; subst hnb; refine calls_swap <| calls_of_W (vs := [.func (.func cfop) bsop.toArray csop.toArray, .slice Aa a.length ka, .slice Ab b.length kb]) [6, 7] XF57 rfl rfl rfl rfl ?_; have hS := St.start w; unfold V_pairwise at hv; refine W.seq <| W.region <| WL.assign rfl rfl <| WL.assign rfl rfl <| WL.done <| W.seq <| W.seq <| W.region <| WL.move rfl rfl <| WL.len XU22 rfl rfl <| WL.move rfl rfl <| WL.len XU22 rfl rfl <| WL.neqD rfl rfl rfl <| WL.done <| W.cond2 rfl (fun c11 => ?_) (fun c11 => ?_)
 ·have hv := hv.1 (of_decide_eq_true c11); refine W.seq <| W.region <| WL.assign rfl rfl <| WL.assign rfl rfl <| WL.done <| W.ret ?_; have hS := hS.nil (e := 3) (z := 1); refine ⟨_, rfl, Fin.nil ?_⟩; exact ⟨_, hS.ext, (hS.pick [0] rfl).rows, News.of (hS.pick [0] rfl).rows rfl, ⟨([] : List Int), (4 : Int), none, 0, rfl, rfl, hv⟩⟩
 have hv := hv.2 (of_decide_eq_false c11); refine W.skip <| W.seq <| W.region <| WL.move rfl rfl <| WL.len XU22 rfl rfl ?_; obtain ⟨o12, hv⟩ := hv; refine SL.make (J := ((a.length : Nat) : Int)) hS XU22 XE3 rfl rfl o12 (made_is _) rfl ?_; intro A13 w14 hS; refine WL.assign rfl rfl <| WL.done <| W.seq <| W.seq <| W.region <| WL.move rfl rfl <| WL.len XU22 rfl rfl <| WL.move rfl rfl <| WL.done <| W.block ?_; obtain ⟨I22, μ23, hv, hk33⟩ := hv; refine W.loop (σ := List Int × Int) (fun q w1 => match q with | (x20, z21) => I22 x20 z21 ∧ St TT w none w1 [.row 3 1 A13 (((a.length : Nat) : Int).toNat) (((a.length : Nat) : Int).toNat) (is x20)]) (fun q => match q with | (x20, z21) => [(0, .func (.func cfop) bsop.toArray csop.toArray), (2, .slice Ab b.length kb), (6, .slice none 0 0), (7, .int .i64 (0 : Int)), (8, .slice A13 (((a.length : Nat) : Int).toNat) (((a.length : Nat) : Int).toNat)), (19, .slice Aa a.length ka), (20, .int .i64 ((a.length : Nat) : Int)), (21, .int .i64 z21)]) (fun q => match q with | (x20, z21) => μ23 x20 z21) (List.replicate ((a.length : Nat) : Int).toNat (0 : Int), (0 : Int)) ⟨hv, hS⟩ ⟨rfl, rfl, rfl, rfl, rfl, rfl, rfl, rfl, trivial⟩ ?_; rintro ⟨x20, z21⟩ w24 ⟨hv, hS⟩; have hv := hk33 x20 z21 hv; refine W.seq <| W.region <| WL.lssD rfl rfl rfl <| WL.done <| W.seq <| W.cond2 rfl (fun c25 => ?_) (fun c25 => ?_)
 ·have hv := hv.1 (of_decide_eq_true c25); refine W.skip <| W.seq <| W.block <| W.seq <| W.region <| WL.move rfl rfl ?_; obtain ⟨o26, hv⟩ := hv; refine SL.index XU22 XE3 (hS.ro ha) rfl rfl o26 rfl <| WL.load XU3 rfl rfl (Rd.gi (hS.ro ha) o26) rfl <| WL.assign rfl rfl <| WL.assign rfl rfl <| WL.done <| W.region <| WL.move rfl rfl <| WL.move rfl rfl <| WL.move rfl rfl <| WL.move rfl rfl <| WL.move rfl rfl <| WL.move rfl rfl ?_; obtain ⟨o27, hv⟩ := hv; refine SL.index XU22 XE3 (hS.ro hb) rfl rfl o27 rfl <| WL.load XU3 rfl rfl (Rd.gi (hS.ro hb) o27) rfl <| SL.callb (us := bsop) (vs := [.int .i64 (gi a z21), .int .i64 (gi b z21)]) (cs := csop) hS (hclop _ _ _ _ hS.ext hv) rfl hcfop hcbop hcnop rfl rfl ?_; rintro _ _ w28 ⟨z29, rfl, rfl, hv⟩ hGw28 hS
  change St _ _ _ _ [.row 3 1 A13 (((a.length : Nat) : Int).toNat) (((a.length : Nat) : Int).toNat) (is x20)] at hS
  obtain ⟨o30, hv⟩ := hv; refine SL.index XU22 XE3 (hS.rd (i := 0) rfl) rfl rfl o30 rfl <| SL.store (cs' := is (si x20 z21 z29)) 0 z21.toNat hS rfl XE3 rfl rfl rfl (is_lt (hS.rd (i := 0) rfl) o30) (is_set _ _ _) ?_; intro w31 hS; refine WL.done <| W.region ?_; obtain ⟨o32, hv⟩ := hv; refine WL.add (r := (z21 + (1 : Int))) rfl rfl (wr o32) rfl <| WL.move rfl rfl <| WL.done ?_; exact ⟨(si x20 z21 z29, (z21 + (1 : Int))), ⟨rfl, rfl, rfl, rfl, rfl, rfl, rfl, rfl, trivial⟩, hv.2, rfl, hv.1, hS⟩
 have hv := hv.2 (of_decide_eq_false c25); refine W.exit <| W.seq <| W.region <| WL.move rfl rfl <| WL.assign rfl rfl <| WL.assign rfl rfl <| WL.done <| W.ret ?_; have hm0 := (hS.rd (i := 0) rfl).ilen; have hS := hS.relen (i := 0) rfl hm0.symm; refine ⟨_, rfl, Fin.nil ?_⟩; exact ⟨_, hS.ext, (hS.pick [0] rfl).rows, News.of (hS.pick [0] rfl).rows rfl, ⟨x20, (0 : Int), A13, ((a.length : Nat) : Int).toNat, (by first | (rw [hm0]; done) | (rw [hm0]; rfl)), rfl, hv⟩⟩
def V_wSub (Fg : GFv) (a : List Int) (b : List Int) (Q : List Int × Int → Prop) : Prop :=
  V_pairwise (fun xc yc Qc => V_Sub Fg xc yc Qc) a b (fun q => match q with | (x12, r16) => Q (x12, r16))
theorem ok_wSub {w : World} {Q : List Int × Int → Prop} {Fg : GFv} {a : List Int} {b : List Int} {ag : Addr} {Bg : Nat} (hgg : GFR Bg w ag Fg) {Ba : Nat} {Aa : Option Addr} {na ka : Nat} (ha : Rd Ba w 1 Aa na ka (is a)) {Bb : Nat} {Ab : Option Addr} {nb kb : Nat} (hb : Rd Bb w 1 Ab nb kb (is b)) (hv : V_wSub Fg a b Q) :
  Calls Try.prog 26 #[.pointer (some ag), .slice Aa na ka, .slice Ab nb kb] w fun e w' => ∃ v Qr, e = .returned v ∧ w.grownBy w' none ∧ Rows w.heap.size none w' Qr ∧ News w.heap.size Qr ∧ ∃ (r0 : List Int) (r1 : Int) (Ar0 : Option Addr) (cr0 : Nat), v = .tuple #[.slice Ar0 r0.length cr0, .int .i64 r1] ∧ Qr = [.row 3 1 Ar0 r0.length cr0 (is r0)] ∧ Q (r0, r1) := by
 have hgg_ := hgg; obtain ⟨Ag_mod, kg_mod, Ag_exp, kg_exp, Ag_log, kg_log, Ag_above, kg_above, hg_c, hg_mod, hg_exp, hg_log, hg_above⟩ := hgg_; have hna := ha.ilen; subst hna; have hnb := hb.ilen; subst hnb; refine calls_swap <| calls_of_W (vs := [.pointer (some ag), .slice Aa a.length ka, .slice Ab b.length kb]) [6, 7] XF26 rfl rfl rfl rfl ?_; have hS := St.start w; unfold V_wSub at hv; refine W.seq <| W.region <| WL.assign rfl rfl <| WL.assign rfl rfl <| WL.done <| W.seq <| W.region <| WL.move rfl rfl <| WL.makeFuncB (us := [.pointer (some ag)]) (vs := []) rfl rfl rfl <| WL.move rfl rfl <| WL.move rfl rfl <| SL.call hS (ok_pairwise (bsop := [.pointer (some ag)]) (csop := []) XF58 rfl XN58 (fun wc xc yc Qc hg hv => (show Calls Try.prog 58 #[.pointer (some ag), .int .i64 xc, .int .i64 yc] wc _ from ok_Sub (GFR.ext (GFR.ext (GFR.norm hgg) hS.ext) hg) hv)) (hS.ro ha) (hS.ro hb) hv) XF57 rfl XN57 rfl rfl ?_; rintro _ _ w11 ⟨x12, r16, A13, k14, rfl, rfl, hv⟩ hGw11 hS; have hS := hS.n1; refine WL.extract rfl rfl rfl <| WL.extract rfl rfl rfl <| WL.assign rfl rfl <| WL.assign rfl rfl <| WL.done <| W.ret <| ⟨_, rfl, Fin.nil ?_⟩
 exact ⟨_, hS.ext, (hS.pick [0] rfl).rows, News.of (hS.pick [0] rfl).rows rfl, ⟨x12, r16, A13, k14, rfl, rfl, hv⟩⟩
end Go.Proofs.Ytcmfjjbbcfddpaa
set_option linter.unusedSimpArgs false
set_option linter.unusedVariables false
set_option maxRecDepth 4000
set_option maxHeartbeats 4000000
namespace Go.Proofs.Ytcmfjjbbcfddpaa
open Go.RowKit
def V_Compare (a : List Int) (b : List Int) (Q : Int → Prop) : Prop :=
  V_scompare a b (fun r12 => Q r12)
theorem ok_Compare {w : World} {Q : Int → Prop} {a : List Int} {b : List Int} {Ba : Nat} {Aa : Option Addr} {na ka : Nat} (ha : Rd Ba w 1 Aa na ka (is a)) {Bb : Nat} {Ab : Option Addr} {nb kb : Nat} (hb : Rd Bb w 1 Ab nb kb (is b)) (hv : V_Compare a b Q) :
  Calls Try.prog 33 #[.slice Aa na ka, .slice Ab nb kb] w fun e w' => ∃ v Qr, e = .returned v ∧ w.grownBy w' none ∧ Rows w.heap.size none w' Qr ∧ News w.heap.size Qr ∧ ∃ (r0 : Int), v = .int .i64 r0 ∧ Qr = [] ∧ Q r0 := by
 have hna := ha.ilen; subst hna; have hnb := hb.ilen; subst hnb; refine calls_swap <| calls_of_W (vs := [.slice Aa a.length ka, .slice Ab b.length kb]) [4] XF33 rfl rfl rfl rfl ?_; have hS := St.start w; unfold V_Compare at hv; refine W.seq <| W.region <| WL.assign rfl rfl <| WL.done <| W.seq <| W.region <| WL.move rfl rfl <| WL.move rfl rfl <| SL.call hS (ok_scompare (hS.ro ha) (hS.ro hb) hv) XF65 rfl XN65 rfl rfl ?_; rintro _ _ w11 ⟨r12, rfl, rfl, hv⟩ hGw11 hS; have hS := hS.n0; refine WL.assign rfl rfl <| WL.done <| W.ret <| ⟨_, rfl, Fin.nil ?_⟩
 exact ⟨_, hS.ext, (hS.pick [] rfl).rows, News.of (hS.pick [] rfl).rows rfl, ⟨r12, rfl, rfl, hv⟩⟩
def V_Count (Fg : GFv) (n : Int) (Q : Int × Int → Prop) : Prop :=
  ((n < (0 : Int)) → (Q ((0 : Int), (6 : Int)))) ∧ (¬ (n < (0 : Int)) → ((((64 : Int) < n) → (Q ((0 : Int), (6 : Int)))) ∧ (¬ ((64 : Int) < n) → (V_Order Fg (fun r14 => V_Exp r14 n (65536 : Int) (fun q => match q with | (r16, r17) => Q (r16, r17)))))))
theorem ok_Count {w : World} {Q : Int × Int → Prop} {Fg : GFv} {n : Int} {ag : Addr} {Bg : Nat} (hgg : GFR Bg w ag Fg) (hv : V_Count Fg n Q) :
   Calls Try.prog 35 #[.pointer (some ag), .int .i64 n] w fun e w' => ∃ v Qr, e = .returned v ∧ w.grownBy w' none ∧ Rows w.heap.size none w' Qr ∧ News w.heap.size Qr ∧ ∃ (r0 : Int) (r1 : Int), v = .tuple #[.int .i64 r0, .int .i64 r1] ∧ Qr = [] ∧ Q (r0, r1) := by
 have hgg_ := hgg; obtain ⟨Ag_mod, kg_mod, Ag_exp, kg_exp, Ag_log, kg_log, Ag_above, kg_above, hg_c, hg_mod, hg_exp, hg_log, hg_above⟩ := hgg_; refine calls_swap <| calls_of_W (vs := [.pointer (some ag), .int .i64 n]) [4, 5] XF35 rfl rfl rfl rfl ?_; have hS := St.start w; unfold V_Count at hv; refine W.seq <| W.region <| WL.assign rfl rfl <| WL.assign rfl rfl <| WL.done <| W.seq <| W.seq <| W.region <| WL.move rfl rfl <| WL.lssD rfl rfl rfl <| WL.move rfl rfl ?_; by_cases g11 : n < (0 : Int)
 ·have hv := hv.1 g11; rw [decide_eq_true g11]; refine WL.pass rfl rfl rfl <| WL.pass rfl rfl rfl <| WL.pick rfl rfl rfl <| WL.done <| W.condT rfl <| W.seq <| W.region <| WL.assign rfl rfl <| WL.assign rfl rfl <| WL.done <| W.ret <| ⟨_, rfl, Fin.nil ?_⟩
  exact ⟨_, hS.ext, (hS.pick [] rfl).rows, News.of (hS.pick [] rfl).rows rfl, ⟨(0 : Int), (6 : Int), rfl, rfl, hv⟩⟩
 have hv := hv.2 g11; rw [decide_eq_false g11]; refine WL.take rfl <| WL.move rfl rfl <| WL.take rfl <| WL.gtrD rfl rfl rfl <| WL.pick rfl rfl rfl <| WL.done <| W.cond2 rfl (fun c12 => ?_) (fun c12 => ?_)
 ·have hv := hv.1 (of_decide_eq_true c12); refine W.seq <| W.region <| WL.assign rfl rfl <| WL.assign rfl rfl <| WL.done <| W.ret <| ⟨_, rfl, Fin.nil ?_⟩
  exact ⟨_, hS.ext, (hS.pick [] rfl).rows, News.of (hS.pick [] rfl).rows rfl, ⟨(0 : Int), (6 : Int), rfl, rfl, hv⟩⟩
 have hv := hv.2 (of_decide_eq_false c12); refine W.skip <| W.seq <| W.region <| WL.move rfl rfl <| SL.call hS (ok_Order (GFR.ext (GFR.norm hgg) hS.ext) hv) XF67 rfl XN67 rfl rfl ?_; rintro _ _ w13 ⟨r14, rfl, rfl, hv⟩ hGw13 hS; have hS := hS.n0; refine WL.move rfl rfl <| SL.call hS (ok_Exp  hv) XF66 rfl XN66 rfl rfl ?_; rintro _ _ w15 ⟨r16, r17, rfl, rfl, hv⟩ hGw15 hS; have hS := hS.n0; refine WL.extract rfl rfl rfl <| WL.extract rfl rfl rfl <| WL.assign rfl rfl <| WL.assign rfl rfl <| WL.done <| W.ret <| ⟨_, rfl, Fin.nil ?_⟩
 exact ⟨_, hS.ext, (hS.pick [] rfl).rows, News.of (hS.pick [] rfl).rows rfl, ⟨r16, r17, rfl, rfl, hv⟩⟩
def V_Index (Fg : GFv) (l : List Int) (Q : Int × Int → Prop) : Prop :=
  V_Count Fg ((l.length : Nat) : Int) (fun q => match q with | (r12, r13) => ((r13 ≠ (0 : Int)) → (Q ((0 : Int), r13))) ∧ (¬ (r13 ≠ (0 : Int)) → (V_Clean Fg l (fun x16 => ∃ (I26 : Int → Int → Prop) (μ27 : Int → Int → Nat), I26 (0 : Int) (0 : Int) ∧ ∀ (z24 : Int) (z25 : Int), (I26 z24 z25 → (((z25 < ((x16.length : Nat) : Int)) → ((0 ≤ z25 ∧ z25 < (x16.length : Nat)) ∧ (V_Order Fg (fun r32 => (I64 (z24 * r32)) ∧ ((I64 ((z24 * r32) + (gi x16 z25))) ∧ ((I64 (z25 + (1 : Int))) ∧ (I26 ((z24 * r32) + (gi x16 z25)) (z25 + (1 : Int)) ∧ μ27 ((z24 * r32) + (gi x16 z25)) (z25 + (1 : Int)) < μ27 z24 z25))))))) ∧ (¬ (z25 < ((x16.length : Nat) : Int)) → (Q (z24, (0 : Int))))))))))
theorem ok_Index {w : World} {Q : Int × Int → Prop} {Fg : GFv} {l : List Int} {ag : Addr} {Bg : Nat} (hgg : GFR Bg w ag Fg) {Bl : Nat} {Al : Option Addr} {nl kl : Nat} (hl : Rd Bl w 1 Al nl kl (is l)) (hv : V_Index Fg l Q) :
   Calls Try.prog 39 #[.pointer (some ag), .slice Al nl kl] w fun e w' => ∃ v Qr, e = .returned v ∧ w.grownBy w' none ∧ Rows w.heap.size none w' Qr ∧ News w.heap.size Qr ∧ ∃ (r0 : Int) (r1 : Int), v = .tuple #[.int .i64 r0, .int .i64 r1] ∧ Qr = [] ∧ Q (r0, r1) := by
 have hgg_ := hgg; obtain ⟨Ag_mod, kg_mod, Ag_exp, kg_exp, Ag_log, kg_log, Ag_above, kg_above, hg_c, hg_mod, hg_exp, hg_log, hg_above⟩ := hgg_; have hnl := hl.ilen; subst hnl; refine calls_swap <| calls_of_W (vs := [.pointer (some ag), .slice Al l.length kl]) [4, 5] XF39 rfl rfl rfl rfl ?_; have hS := St.start w; unfold V_Index at hv; refine W.seq <| W.region <| WL.assign rfl rfl <| WL.assign rfl rfl <| WL.done <| W.seq <| W.seq <| W.region <| WL.move rfl rfl <| WL.move rfl rfl <| WL.len XU22 rfl rfl <| SL.call hS (ok_Count (GFR.ext (GFR.norm hgg) hS.ext) hv) XF35 rfl XN35 rfl rfl ?_; rintro _ _ w11 ⟨r12, r13, rfl, rfl, hv⟩ hGw11 hS; have hS := hS.n0; refine WL.move rfl rfl <| WL.extract rfl rfl rfl <| WL.extract rfl rfl rfl <| WL.assign rfl rfl <| WL.assign rfl rfl <| WL.done <| W.seq <| W.region <| WL.move rfl rfl <| WL.neqD rfl rfl rfl <| WL.done <| W.cond2 rfl (fun c14 => ?_) (fun c14 => ?_)
 ·have hv := hv.1 (of_decide_eq_true c14); refine W.seq <| W.region <| WL.move rfl rfl <| WL.assign rfl rfl <| WL.assign rfl rfl <| WL.done <| W.ret <| ⟨_, rfl, Fin.nil ?_⟩
  exact ⟨_, hS.ext, (hS.pick [] rfl).rows, News.of (hS.pick [] rfl).rows rfl, ⟨(0 : Int), r13, rfl, rfl, hv⟩⟩
 have hv := hv.2 (of_decide_eq_false c14); refine W.skip <| W.seq <| W.region <| WL.assign rfl rfl <| WL.done <| W.seq <| W.seq <| W.region <| WL.move rfl rfl <| WL.move rfl rfl <| SL.call hS (ok_Clean (GFR.ext (GFR.norm hgg) hS.ext) (hS.ro hl) hv) XF19 rfl XN19 rfl rfl ?_; rintro _ _ w15 ⟨x16, A17, k18, rfl, rfl, hv⟩ hGw15 hS; have hS := hS.n1; refine WL.len XU22 rfl rfl <| WL.move rfl rfl <| WL.done <| W.block ?_; obtain ⟨I26, μ27, hv, hk36⟩ := hv; refine W.loop (σ := Int × Int) (fun q w1 => match q with | (z24, z25) => I26 z24 z25 ∧ St TT w none w1 [.row 3 1 A17 x16.length k18 (is x16)]) (fun q => match q with | (z24, z25) => [(0, .pointer (some ag)), (4, .int .i64 (0 : Int)), (5, .int .i64 (0 : Int)), (8, .int .i64 z24), (23, .slice A17 x16.length k18), (24, .int .i64 ((x16.length : Nat) : Int)), (25, .int .i64 z25)]) (fun q => match q with | (z24, z25) => μ27 z24 z25) ((0 : Int), (0 : Int)) ⟨hv, hS⟩ ⟨rfl, rfl, rfl, rfl, rfl, rfl, rfl, trivial⟩ ?_; rintro ⟨z24, z25⟩ w28 ⟨hv, hS⟩; have hv := hk36 z24 z25 hv; refine W.seq <| W.region <| WL.lssD rfl rfl rfl <| WL.done <| W.seq <| W.cond2 rfl (fun c29 => ?_) (fun c29 => ?_)
 ·have hv := hv.1 (of_decide_eq_true c29); refine W.skip <| W.seq <| W.block <| W.seq <| W.region ?_; obtain ⟨o30, hv⟩ := hv; refine SL.index XU22 XE3 (hS.rd (i := 0) rfl) rfl rfl o30 rfl <| WL.load XU3 rfl rfl (Rd.gi (hS.rd (i := 0) rfl) o30) rfl <| WL.assign rfl rfl <| WL.done <| W.region <| WL.move rfl rfl <| WL.move rfl rfl <| SL.call hS (ok_Order (GFR.ext (GFR.norm hgg) hS.ext) hv) XF67 rfl XN67 rfl rfl ?_; rintro _ _ w31 ⟨r32, rfl, rfl, hv⟩ hGw31 hS; have hS := hS.n0; obtain ⟨o33, hv⟩ := hv; refine WL.mul (r := (z24 * r32)) rfl rfl (wr o33) rfl <| WL.move rfl rfl ?_; obtain ⟨o34, hv⟩ := hv; refine WL.add (r := ((z24 * r32) + (gi x16 z25))) rfl rfl (wr o34) rfl <| WL.assign rfl rfl <| WL.done <| W.region ?_; obtain ⟨o35, hv⟩ := hv; refine WL.add (r := (z25 + (1 : Int))) rfl rfl (wr o35) rfl <| WL.move rfl rfl <| WL.done ?_; exact ⟨(((z24 * r32) + (gi x16 z25)), (z25 + (1 : Int))), ⟨rfl, rfl, rfl, rfl, rfl, rfl, rfl, trivial⟩, hv.2, rfl, hv.1, hS⟩
 have hv := hv.2 (of_decide_eq_false c29); refine W.exit <| W.seq <| W.region <| WL.move rfl rfl <| WL.assign rfl rfl <| WL.assign rfl rfl <| WL.done <| W.ret <| ⟨_, rfl, Fin.nil ?_⟩
 exact ⟨_, hS.ext, (hS.pick [] rfl).rows, News.of (hS.pick [] rfl).rows rfl, ⟨z24, (0 : Int), rfl, rfl, hv⟩⟩
def V_Binomial (n : Int) (k : Int) (Q : Int × Int → Prop) : Prop :=
  ((n < (0 : Int)) → (Q ((0 : Int), (6 : Int)))) ∧ (¬ (n < (0 : Int)) → ((((64 : Int) < n) → (Q ((0 : Int), (6 : Int)))) ∧ (¬ ((64 : Int) < n) → (((k < (0 : Int)) → (Q ((0 : Int), (0 : Int)))) ∧ (¬ (k < (0 : Int)) → (V_Choose n k (9223372036854775807 : Int) (fun q => match q with | (r15, r16) => Q (r15, r16))))))))
theorem ok_Binomial {w : World} {Q : Int × Int → Prop} {n : Int} {k : Int}  (hv : V_Binomial n k Q) :
   Calls Try.prog 45 #[.int .i64 n, .int .i64 k] w fun e w' => ∃ v Qr, e = .returned v ∧ w.grownBy w' none ∧ Rows w.heap.size none w' Qr ∧ News w.heap.size Qr ∧ ∃ (r0 : Int) (r1 : Int), v = .tuple #[.int .i64 r0, .int .i64 r1] ∧ Qr = [] ∧ Q (r0, r1) := by
 refine calls_swap <| calls_of_W (vs := [.int .i64 n, .int .i64 k]) [4, 5] XF45 rfl rfl rfl rfl ?_; have hS := St.start w; unfold V_Binomial at hv; refine W.seq <| W.region <| WL.assign rfl rfl <| WL.assign rfl rfl <| WL.done <| W.seq <| W.seq <| W.region <| WL.move rfl rfl <| WL.lssD rfl rfl rfl <| WL.move rfl rfl ?_; by_cases g11 : n < (0 : Int)
 ·have hv := hv.1 g11; rw [decide_eq_true g11]; refine WL.pass rfl rfl rfl <| WL.pass rfl rfl rfl <| WL.pick rfl rfl rfl <| WL.done <| W.condT rfl <| W.seq <| W.region <| WL.assign rfl rfl <| WL.assign rfl rfl <| WL.done <| W.ret <| ⟨_, rfl, Fin.nil ?_⟩
  exact ⟨_, hS.ext, (hS.pick [] rfl).rows, News.of (hS.pick [] rfl).rows rfl, ⟨(0 : Int), (6 : Int), rfl, rfl, hv⟩⟩
 have hv := hv.2 g11; rw [decide_eq_false g11]; refine WL.take rfl <| WL.move rfl rfl <| WL.take rfl <| WL.gtrD rfl rfl rfl <| WL.pick rfl rfl rfl <| WL.done <| W.cond2 rfl (fun c12 => ?_) (fun c12 => ?_)
 ·have hv := hv.1 (of_decide_eq_true c12); refine W.seq <| W.region <| WL.assign rfl rfl <| WL.assign rfl rfl <| WL.done <| W.ret <| ⟨_, rfl, Fin.nil ?_⟩
  exact ⟨_, hS.ext, (hS.pick [] rfl).rows, News.of (hS.pick [] rfl).rows rfl, ⟨(0 : Int), (6 : Int), rfl, rfl, hv⟩⟩
 have hv := hv.2 (of_decide_eq_false c12); refine W.skip <| W.seq <| W.seq <| W.region <| WL.move rfl rfl <| WL.lssD rfl rfl rfl <| WL.done <| W.cond2 rfl (fun c13 => ?_) (fun c13 => ?_)
 ·have hv := hv.1 (of_decide_eq_true c13); refine W.seq <| W.region <| WL.assign rfl rfl <| WL.assign rfl rfl <| WL.done <| W.ret <| ⟨_, rfl, Fin.nil ?_⟩
  exact ⟨_, hS.ext, (hS.pick [] rfl).rows, News.of (hS.pick [] rfl).rows rfl, ⟨(0 : Int), (0 : Int), rfl, rfl, hv⟩⟩
 have hv := hv.2 (of_decide_eq_false c13); refine W.skip <| W.seq <| W.region <| WL.move rfl rfl <| WL.move rfl rfl <| SL.call hS (ok_Choose  hv) XF71 rfl XN71 rfl rfl ?_; rintro _ _ w14 ⟨r15, r16, rfl, rfl, hv⟩ hGw14 hS; have hS := hS.n0; refine WL.extract rfl rfl rfl <| WL.extract rfl rfl rfl <| WL.assign rfl rfl <| WL.assign rfl rfl <| WL.done <| W.ret <| ⟨_, rfl, Fin.nil ?_⟩
 exact ⟨_, hS.ext, (hS.pick [] rfl).rows, News.of (hS.pick [] rfl).rows rfl, ⟨r15, r16, rfl, rfl, hv⟩⟩
def V_countSubsets (n : Int) (k : Int) (Q : Int × Int → Prop) : Prop :=
  ((k < (0 : Int)) → (Q ((0 : Int), (6 : Int)))) ∧ (¬ (k < (0 : Int)) → (((n < k) → (Q ((0 : Int), (6 : Int)))) ∧ (¬ (n < k) → (V_Binomial n k (fun q => match q with | (r14, r15) => Q (r14, r15))))))
theorem ok_countSubsets {w : World} {Q : Int × Int → Prop} {n : Int} {k : Int}  (hv : V_countSubsets n k Q) :
   Calls Try.prog 72 #[.int .i64 n, .int .i64 k] w fun e w' => ∃ v Qr, e = .returned v ∧ w.grownBy w' none ∧ Rows w.heap.size none w' Qr ∧ News w.heap.size Qr ∧ ∃ (r0 : Int) (r1 : Int), v = .tuple #[.int .i64 r0, .int .i64 r1] ∧ Qr = [] ∧ Q (r0, r1) := by
 refine calls_swap <| calls_of_W (vs := [.int .i64 n, .int .i64 k]) [4, 5] XF72 rfl rfl rfl rfl ?_; have hS := St.start w; unfold V_countSubsets at hv; refine W.seq <| W.region <| WL.assign rfl rfl <| WL.assign rfl rfl <| WL.done <| W.seq <| W.seq <| W.region <| WL.move rfl rfl <| WL.lssD rfl rfl rfl <| WL.move rfl rfl ?_; by_cases g11 : k < (0 : Int)
 ·have hv := hv.1 g11; rw [decide_eq_true g11]; refine WL.pass rfl rfl rfl <| WL.pass rfl rfl rfl <| WL.pass rfl rfl rfl <| WL.pick rfl rfl rfl <| WL.done <| W.condT rfl <| W.seq <| W.region <| WL.assign rfl rfl <| WL.assign rfl rfl <| WL.done <| W.ret <| ⟨_, rfl, Fin.nil ?_⟩
  exact ⟨_, hS.ext, (hS.pick [] rfl).rows, News.of (hS.pick [] rfl).rows rfl, ⟨(0 : Int), (6 : Int), rfl, rfl, hv⟩⟩
 have hv := hv.2 g11; rw [decide_eq_false g11]; refine WL.take rfl <| WL.move rfl rfl <| WL.take rfl <| WL.move rfl rfl <| WL.take rfl <| WL.gtrD rfl rfl rfl <| WL.pick rfl rfl rfl <| WL.done <| W.cond2 rfl (fun c12 => ?_) (fun c12 => ?_)
 ·have hv := hv.1 (of_decide_eq_true c12); refine W.seq <| W.region <| WL.assign rfl rfl <| WL.assign rfl rfl <| WL.done <| W.ret <| ⟨_, rfl, Fin.nil ?_⟩
  exact ⟨_, hS.ext, (hS.pick [] rfl).rows, News.of (hS.pick [] rfl).rows rfl, ⟨(0 : Int), (6 : Int), rfl, rfl, hv⟩⟩
 have hv := hv.2 (of_decide_eq_false c12); refine W.skip <| W.seq <| W.region <| WL.move rfl rfl <| WL.move rfl rfl <| SL.call hS (ok_Binomial  hv) XF45 rfl XN45 rfl rfl ?_; rintro _ _ w13 ⟨r14, r15, rfl, rfl, hv⟩ hGw13 hS; have hS := hS.n0; refine WL.extract rfl rfl rfl <| WL.extract rfl rfl rfl <| WL.assign rfl rfl <| WL.assign rfl rfl <| WL.done <| W.ret <| ⟨_, rfl, Fin.nil ?_⟩
 exact ⟨_, hS.ext, (hS.pick [] rfl).rows, News.of (hS.pick [] rfl).rows rfl, ⟨r14, r15, rfl, rfl, hv⟩⟩
def V_isSubset (n : Int) (u : List Int) (Q : Bool → Prop) : Prop :=
  ∃ (I17 : Int → Int → Prop) (μ18 : Int → Int → Nat), I17 (-1 : Int) (0 : Int) ∧ ∀ (z15 : Int) (z16 : Int), (I17 z15 z16 → (((z16 < ((u.length : Nat) : Int)) → ((0 ≤ z16 ∧ z16 < (u.length : Nat)) ∧ ((((gi u z16) ≤ z15) → Q false) ∧ (¬ ((gi u z16) ≤ z15) → (((n ≤ (gi u z16)) → Q false) ∧ (¬ (n ≤ (gi u z16)) → ((I64 (z16 + (1 : Int))) ∧ (I17 (gi u z16) (z16 + (1 : Int)) ∧ μ18 (gi u z16) (z16 + (1 : Int)) < μ18 z15 z16)))))))) ∧ (¬ (z16 < ((u.length : Nat) : Int)) → Q true)))
theorem ok_isSubset {w : World} {Q : Bool → Prop} {n : Int} {u : List Int} {Bu : Nat} {Au : Option Addr} {nu ku : Nat} (hu : Rd Bu w 1 Au nu ku (is u)) (hv : V_isSubset n u Q) :
   Calls Try.prog 76 #[.int .i64 n, .slice Au nu ku] w fun e w' => ∃ v Qr, e = .returned v ∧ w.grownBy w' none ∧ Rows w.heap.size none w' Qr ∧ News w.heap.size Qr ∧ ∃ (r0 : Bool), v = .bool r0 ∧ Qr = [] ∧ Q r0 := by
 have hnu := hu.ilen; subst hnu; refine calls_swap <| calls_of_W (vs := [.int .i64 n, .slice Au u.length ku]) [4] XF76 rfl rfl rfl rfl ?_; have hS := St.start w; unfold V_isSubset at hv; refine W.seq <| W.region <| WL.assign rfl rfl <| WL.done <| W.seq <| W.region <| WL.assign rfl rfl <| WL.done <| W.seq <| W.seq <| W.region <| WL.move rfl rfl <| WL.len XU22 rfl rfl <| WL.move rfl rfl <| WL.done <| W.block ?_; obtain ⟨I17, μ18, hv, hk25⟩ := hv; refine W.loop (σ := Int × Int) (fun q w1 => match q with | (z15, z16) => I17 z15 z16 ∧ St TT w none w1 []) (fun q => match q with | (z15, z16) => [(0, .int .i64 n), (4, .bool false), (5, .int .i64 z15), (8, .slice Au u.length ku), (9, .int .i64 ((u.length : Nat) : Int)), (10, .int .i64 z16)]) (fun q => match q with | (z15, z16) => μ18 z15 z16) ((-1 : Int), (0 : Int)) ⟨hv, hS⟩ ⟨rfl, rfl, rfl, rfl, rfl, rfl, trivial⟩ ?_; rintro ⟨z15, z16⟩ w19 ⟨hv, hS⟩; have hv := hk25 z15 z16 hv; refine W.seq <| W.region <| WL.lssD rfl rfl rfl <| WL.done <| W.seq <| W.cond2 rfl (fun c20 => ?_) (fun c20 => ?_)
 ·have hv := hv.1 (of_decide_eq_true c20); refine W.skip <| W.seq <| W.block <| W.seq <| W.region ?_; obtain ⟨o21, hv⟩ := hv; refine SL.index XU22 XE3 (hS.ro hu) rfl rfl o21 rfl <| WL.load XU3 rfl rfl (Rd.gi (hS.ro hu) o21) rfl <| WL.assign rfl rfl <| WL.done <| W.seq <| W.seq <| W.region <| WL.move rfl rfl <| WL.move rfl rfl <| WL.leqD rfl rfl rfl <| WL.move rfl rfl ?_; by_cases g22 : (gi u z16) ≤ z15
  ·have hv := hv.1 g22; rw [decide_eq_true g22]; refine WL.pass rfl rfl rfl <| WL.pass rfl rfl rfl <| WL.pass rfl rfl rfl <| WL.pick rfl rfl rfl <| WL.done <| W.condT rfl <| W.seq <| W.region <| WL.assign rfl rfl <| WL.done <| W.ret <| ⟨_, rfl, Fin.nil ?_⟩
   exact ⟨_, hS.ext, (hS.pick [] rfl).rows, News.of (hS.pick [] rfl).rows rfl, ⟨false, rfl, rfl, hv⟩⟩
  have hv := hv.2 g22; rw [decide_eq_false g22]; refine WL.take rfl <| WL.move rfl rfl <| WL.take rfl <| WL.move rfl rfl <| WL.take rfl <| WL.geqD rfl rfl rfl <| WL.pick rfl rfl rfl <| WL.done <| W.cond2 rfl (fun c23 => ?_) (fun c23 => ?_)
  ·have hv := hv.1 (of_decide_eq_true c23); refine W.seq <| W.region <| WL.assign rfl rfl <| WL.done <| W.ret <| ⟨_, rfl, Fin.nil ?_⟩
   exact ⟨_, hS.ext, (hS.pick [] rfl).rows, News.of (hS.pick [] rfl).rows rfl, ⟨false, rfl, rfl, hv⟩⟩
  have hv := hv.2 (of_decide_eq_false c23); refine W.skip <| W.region <| WL.move rfl rfl <| WL.assign rfl rfl <| WL.done <| W.region ?_; obtain ⟨o24, hv⟩ := hv; refine WL.add (r := (z16 + (1 : Int))) rfl rfl (wr o24) rfl <| WL.move rfl rfl <| WL.done ?_; exact ⟨((gi u z16), (z16 + (1 : Int))), ⟨rfl, rfl, rfl, rfl, rfl, rfl, trivial⟩, hv.2, rfl, hv.1, hS⟩
 have hv := hv.2 (of_decide_eq_false c20); refine W.exit <| W.seq <| W.region <| WL.assign rfl rfl <| WL.done <| W.ret <| ⟨_, rfl, Fin.nil ?_⟩
 exact ⟨_, hS.ext, (hS.pick [] rfl).rows, News.of (hS.pick [] rfl).rows rfl, ⟨true, rfl, rfl, hv⟩⟩
def V_countFrom (n : Int) (x : Int) (k : Int) (Q : Int → Prop) : Prop :=
  (I64 (n - (1 : Int))) ∧ ((I64 ((n - (1 : Int)) - x)) ∧ ((I64 (k - (1 : Int))) ∧ (V_Binomial ((n - (1 : Int)) - x) (k - (1 : Int)) (fun q => match q with | (r15, r16) => Q r15))))
theorem ok_countFrom {w : World} {Q : Int → Prop} {n : Int} {x : Int} {k : Int}  (hv : V_countFrom n x k Q) :
  Calls Try.prog 77 #[.int .i64 n, .int .i64 x, .int .i64 k] w fun e w' => ∃ v Qr, e = .returned v ∧ w.grownBy w' none ∧ Rows w.heap.size none w' Qr ∧ News w.heap.size Qr ∧ ∃ (r0 : Int), v = .int .i64 r0 ∧ Qr = [] ∧ Q r0 := by
 refine calls_swap <| calls_of_W (vs := [.int .i64 n, .int .i64 x, .int .i64 k]) [6] XF77 rfl rfl rfl rfl ?_; have hS := St.start w; unfold V_countFrom at hv; refine W.seq <| W.region <| WL.assign rfl rfl <| WL.done <| W.seq <| W.region <| WL.move rfl rfl ?_; obtain ⟨o11, hv⟩ := hv; refine WL.sub (r := (n - (1 : Int))) rfl rfl (wr o11) rfl <| WL.move rfl rfl ?_; obtain ⟨o12, hv⟩ := hv; refine WL.sub (r := ((n - (1 : Int)) - x)) rfl rfl (wr o12) rfl <| WL.move rfl rfl ?_; obtain ⟨o13, hv⟩ := hv; refine WL.sub (r := (k - (1 : Int))) rfl rfl (wr o13) rfl <| SL.call hS (ok_Binomial  hv) XF45 rfl XN45 rfl rfl ?_; rintro _ _ w14 ⟨r15, r16, rfl, rfl, hv⟩ hGw14 hS; have hS := hS.n0; refine WL.move rfl rfl <| WL.extract rfl rfl rfl <| WL.extract rfl rfl rfl <| WL.assign rfl rfl <| WL.assign rfl rfl <| WL.done <| W.seq <| W.region <| WL.move rfl rfl <| WL.assign rfl rfl <| WL.done <| W.ret <| ⟨_, rfl, Fin.nil ?_⟩
 exact ⟨_, hS.ext, (hS.pick [] rfl).rows, News.of (hS.pick [] rfl).rows rfl, ⟨r15, rfl, rfl, hv⟩⟩
def V_Rank (n : Int) (u : List Int) (Q : Int × Int → Prop) : Prop :=
  ((n < (0 : Int)) → (Q ((0 : Int), (6 : Int)))) ∧ (¬ (n < (0 : Int)) → ((((64 : Int) < n) → (Q ((0 : Int), (6 : Int)))) ∧ (¬ ((64 : Int) < n) → (V_isSubset n u (fun r14 => (((!r14) = true) → (Q ((0 : Int), (5 : Int)))) ∧ ((!r14) = false → (∃ (I25 : Int → Int → Int → Prop) (μ26 : Int → Int → Int → Nat), I25 (0 : Int) (0 : Int) (0 : Int) ∧ ∀ (z22 : Int) (z23 : Int) (z24 : Int), (I25 z22 z23 z24 → (((z24 < ((u.length : Nat) : Int)) → ((0 ≤ z24 ∧ z24 < (u.length : Nat)) ∧ (∃ (I36 : Int → Int → Prop) (μ37 : Int → Int → Nat), I36 z22 z23 ∧ ∀ (z34 : Int) (z35 : Int), (I36 z34 z35 → (((z35 < (gi u z24)) → ((I64 (((u.length : Nat) : Int) - z24)) ∧ (V_countFrom n z35 (((u.length : Nat) : Int) - z24) (fun r42 => (I64 (z34 + r42)) ∧ ((I64 (z35 + (1 : Int))) ∧ (I36 (z34 + r42) (z35 + (1 : Int)) ∧ μ37 (z34 + r42) (z35 + (1 : Int)) < μ37 z34 z35)))))) ∧ (¬ (z35 < (gi u z24)) → ((I64 ((gi u z24) + (1 : Int))) ∧ ((I64 (z24 + (1 : Int))) ∧ (I25 z34 ((gi u z24) + (1 : Int)) (z24 + (1 : Int)) ∧ μ26 z34 ((gi u z24) + (1 : Int)) (z24 + (1 : Int)) < μ26 z22 z23 z24))))))))) ∧ (¬ (z24 < ((u.length : Nat) : Int)) → (Q (z22, (0 : Int)))))))))))))
theorem ok_Rank {w : World} {Q : Int × Int → Prop} {n : Int} {u : List Int} {Bu : Nat} {Au : Option Addr} {nu ku : Nat} (hu : Rd Bu w 1 Au nu ku (is u)) (hv : V_Rank n u Q) :
   Calls Try.prog 50 #[.int .i64 n, .slice Au nu ku] w fun e w' => ∃ v Qr, e = .returned v ∧ w.grownBy w' none ∧ Rows w.heap.size none w' Qr ∧ News w.heap.size Qr ∧ ∃ (r0 : Int) (r1 : Int), v = .tuple #[.int .i64 r0, .int .i64 r1] ∧ Qr = [] ∧ Q (r0, r1) := by
 have hnu := hu.ilen; subst hnu; refine calls_swap <| calls_of_W (vs := [.int .i64 n, .slice Au u.length ku]) [4, 5] XF50 rfl rfl rfl rfl ?_; have hS := St.start w; unfold V_Rank at hv; refine W.seq <| W.region <| WL.assign rfl rfl <| WL.assign rfl rfl <| WL.done <| W.seq <| W.seq <| W.region <| WL.move rfl rfl <| WL.lssD rfl rfl rfl <| WL.move rfl rfl ?_; by_cases g11 : n < (0 : Int)
 ·have hv := hv.1 g11; rw [decide_eq_true g11]; refine WL.pass rfl rfl rfl <| WL.pass rfl rfl rfl <| WL.pick rfl rfl rfl <| WL.done <| W.condT rfl <| W.seq <| W.region <| WL.assign rfl rfl <| WL.assign rfl rfl <| WL.done <| W.ret <| ⟨_, rfl, Fin.nil ?_⟩
  exact ⟨_, hS.ext, (hS.pick [] rfl).rows, News.of (hS.pick [] rfl).rows rfl, ⟨(0 : Int), (6 : Int), rfl, rfl, hv⟩⟩
 have hv := hv.2 g11; rw [decide_eq_false g11]; refine WL.take rfl <| WL.move rfl rfl <| WL.take rfl <| WL.gtrD rfl rfl rfl <| WL.pick rfl rfl rfl <| WL.done <| W.cond2 rfl (fun c12 => ?_) (fun c12 => ?_)
 ·have hv := hv.1 (of_decide_eq_true c12); refine W.seq <| W.region <| WL.assign rfl rfl <| WL.assign rfl rfl <| WL.done <| W.ret <| ⟨_, rfl, Fin.nil ?_⟩
  exact ⟨_, hS.ext, (hS.pick [] rfl).rows, News.of (hS.pick [] rfl).rows rfl, ⟨(0 : Int), (6 : Int), rfl, rfl, hv⟩⟩
 have hv := hv.2 (of_decide_eq_false c12); refine W.skip <| W.seq <| W.seq <| W.region <| WL.move rfl rfl <| WL.move rfl rfl <| SL.call hS (ok_isSubset (hS.ro hu) hv) XF76 rfl XN76 rfl rfl ?_; rintro _ _ w13 ⟨r14, rfl, rfl, hv⟩ hGw13 hS; have hS := hS.n0; refine WL.not rfl rfl <| WL.done <| W.cond2 rfl (fun c15 => ?_) (fun c15 => ?_)
 ·have hv := hv.1 (c15); refine W.seq <| W.region <| WL.assign rfl rfl <| WL.assign rfl rfl <| WL.done <| W.ret <| ⟨_, rfl, Fin.nil ?_⟩
  exact ⟨_, hS.ext, (hS.pick [] rfl).rows, News.of (hS.pick [] rfl).rows rfl, ⟨(0 : Int), (5 : Int), rfl, rfl, hv⟩⟩
 have hv := hv.2 (c15); refine W.skip <| W.seq <| W.region <| WL.assign rfl rfl <| WL.assign rfl rfl <| WL.done <| W.seq <| W.seq <| W.region <| WL.move rfl rfl <| WL.len XU22 rfl rfl <| WL.move rfl rfl <| WL.done <| W.block ?_; obtain ⟨I25, μ26, hv, hk48⟩ := hv; refine W.loop (σ := Int × Int × Int) (fun q w1 => match q with | (z22, z23, z24) => I25 z22 z23 z24 ∧ St TT w none w1 []) (fun q => match q with | (z22, z23, z24) => [(0, .int .i64 n), (1, .slice Au u.length ku), (4, .int .i64 (0 : Int)), (5, .int .i64 (0 : Int)), (6, .int .i64 z22), (7, .int .i64 z23), (21, .slice Au u.length ku), (22, .int .i64 ((u.length : Nat) : Int)), (23, .int .i64 z24)]) (fun q => match q with | (z22, z23, z24) => μ26 z22 z23 z24) ((0 : Int), (0 : Int), (0 : Int)) ⟨hv, hS⟩ ⟨rfl, rfl, rfl, rfl, rfl, rfl, rfl, rfl, rfl, trivial⟩ ?_; rintro ⟨z22, z23, z24⟩ w27 ⟨hv, hS⟩; have hv := hk48 z22 z23 z24 hv; refine W.seq <| W.region <| WL.lssD rfl rfl rfl <| WL.done <| W.seq <| W.cond2 rfl (fun c28 => ?_) (fun c28 => ?_)
 ·have hv := hv.1 (of_decide_eq_true c28); refine W.skip <| W.seq <| W.block <| W.seq <| W.region <| WL.move rfl rfl ?_; obtain ⟨o29, hv⟩ := hv; refine SL.index XU22 XE3 (hS.ro hu) rfl rfl o29 rfl <| WL.load XU3 rfl rfl (Rd.gi (hS.ro hu) o29) rfl <| WL.assign rfl rfl <| WL.assign rfl rfl <| WL.done <| W.seq <| W.seq <| W.region <| WL.move rfl rfl <| WL.assign rfl rfl <| WL.done <| W.block ?_; obtain ⟨I36, μ37, hv, hk47⟩ := hv; refine W.loop (σ := Int × Int) (fun q w1 => match q with | (z34, z35) => I36 z34 z35 ∧ St TT w none w1 []) (fun q => match q with | (z34, z35) => [(0, .int .i64 n), (1, .slice Au u.length ku), (4, .int .i64 (0 : Int)), (5, .int .i64 (0 : Int)), (6, .int .i64 z34), (7, .int .i64 z23), (8, .int .i64 z24), (9, .int .i64 (gi u z24)), (10, .int .i64 z35), (21, .slice Au u.length ku), (22, .int .i64 ((u.length : Nat) : Int)), (23, .int .i64 z24), (24, .bool (decide (z24 < ((u.length : Nat) : Int))))]) (fun q => match q with | (z34, z35) => μ37 z34 z35) (z22, z23) ⟨hv, hS⟩ ⟨rfl, rfl, rfl, rfl, rfl, rfl, rfl, rfl, rfl, rfl, rfl, rfl, rfl, trivial⟩ ?_; rintro ⟨z34, z35⟩ w38 ⟨hv, hS⟩; have hv := hk47 z34 z35 hv; refine W.seq <| W.seq <| W.region <| WL.move rfl rfl <| WL.move rfl rfl <| WL.lssD rfl rfl rfl <| WL.done <| W.cond2 rfl (fun c39 => ?_) (fun c39 => ?_)
  ·have hv := hv.1 (of_decide_eq_true c39); refine W.skip <| W.seq <| W.block <| W.region <| WL.move rfl rfl <| WL.move rfl rfl <| WL.move rfl rfl <| WL.move rfl rfl <| WL.len XU22 rfl rfl <| WL.move rfl rfl ?_; obtain ⟨o40, hv⟩ := hv; refine WL.sub (r := (((u.length : Nat) : Int) - z24)) rfl rfl (wr o40) rfl <| SL.call hS (ok_countFrom  hv) XF77 rfl XN77 rfl rfl ?_; rintro _ _ w41 ⟨r42, rfl, rfl, hv⟩ hGw41 hS; have hS := hS.n0; obtain ⟨o43, hv⟩ := hv; refine WL.add (r := (z34 + r42)) rfl rfl (wr o43) rfl <| WL.assign rfl rfl <| WL.done <| W.region <| WL.move rfl rfl ?_; obtain ⟨o44, hv⟩ := hv; refine WL.add (r := (z35 + (1 : Int))) rfl rfl (wr o44) rfl <| WL.assign rfl rfl <| WL.done ?_; exact ⟨((z34 + r42), (z35 + (1 : Int))), ⟨rfl, rfl, rfl, rfl, rfl, rfl, rfl, rfl, rfl, rfl, rfl, rfl, rfl, trivial⟩, hv.2, rfl, hv.1, hS⟩
  have hv := hv.2 (of_decide_eq_false c39); refine W.exit <| W.region <| WL.move rfl rfl ?_; obtain ⟨o45, hv⟩ := hv; refine WL.add (r := ((gi u z24) + (1 : Int))) rfl rfl (wr o45) rfl <| WL.assign rfl rfl <| WL.done <| W.region ?_; obtain ⟨o46, hv⟩ := hv; refine WL.add (r := (z24 + (1 : Int))) rfl rfl (wr o46) rfl <| WL.move rfl rfl <| WL.done ?_; exact ⟨(z34, ((gi u z24) + (1 : Int)), (z24 + (1 : Int))), ⟨rfl, rfl, rfl, rfl, rfl, rfl, rfl, rfl, rfl, trivial⟩, hv.2, rfl, hv.1, hS⟩
 have hv := hv.2 (of_decide_eq_false c28); refine W.exit <| W.seq <| W.region <| WL.move rfl rfl <| WL.assign rfl rfl <| WL.assign rfl rfl <| WL.done <| W.ret <| ⟨_, rfl, Fin.nil ?_⟩
 exact ⟨_, hS.ext, (hS.pick [] rfl).rows, News.of (hS.pick [] rfl).rows rfl, ⟨z22, (0 : Int), rfl, rfl, hv⟩⟩
def V_Unrank (n : Int) (k : Int) (r : Int) (Q : List Int × Int → Prop) : Prop :=
  V_countSubsets n k (fun q => match q with | (r12, r13) => ((r13 ≠ (0 : Int)) → (Q (([] : List Int), r13))) ∧ (¬ (r13 ≠ (0 : Int)) → (((r < (0 : Int)) → (Q (([] : List Int), (6 : Int)))) ∧ (¬ (r < (0 : Int)) → (((r12 ≤ r) → (Q (([] : List Int), (6 : Int)))) ∧ (¬ (r12 ≤ r) → ((0 ≤ k ∧ k * 8 ≤ 281474976710656 ∧ k ≤ 281474976710656) ∧ (∃ (I36 : List Int → Int → Int → Prop) (μ37 : List Int → Int → Int → Nat), I36 ([] : List Int) r (0 : Int) ∧ ∀ (x31 : List Int) (z34 : Int) (z35 : Int), (I36 x31 z34 z35 → (((((x31.length : Nat) : Int) < k) → (∃ J46 : List Int → Int → Int → Bool → Prop, ((I64 (k - ((x31.length : Nat) : Int))) ∧ (V_countFrom n z35 (k - ((x31.length : Nat) : Int)) (fun r49 => ((z34 < r49) → ((((x31.length : Nat) + (1 : Nat) : Int) * 8 ≤ 140737488355328) ∧ (J46 (x31 ++ ([z35] : List Int)) z34 r49 (decide (z34 < r49))))) ∧ (¬ (z34 < r49) → ((I64 (z34 - r49)) ∧ (J46 x31 (z34 - r49) r49 (decide (z34 < r49)))))))) ∧ ∀ (x40 : List Int) (z43 : Int) (z44 : Int) (b45 : Bool), (J46 x40 z43 z44 b45 → ((I64 (z35 + (1 : Int))) ∧ (I36 x40 z43 (z35 + (1 : Int)) ∧ μ37 x40 z43 (z35 + (1 : Int)) < μ37 x31 z34 z35))))) ∧ (¬ (((x31.length : Nat) : Int) < k) → (Q (x31, (0 : Int))))))))))))))
theorem ok_Unrank {w : World} {Q : List Int × Int → Prop} {n : Int} {k : Int} {r : Int}  (hv : V_Unrank n k r Q) :
   Calls Try.prog 52 #[.int .i64 n, .int .i64 k, .int .i64 r] w fun e w' => ∃ v Qr, e = .returned v ∧ w.grownBy w' none ∧ Rows w.heap.size none w' Qr ∧ News w.heap.size Qr ∧ ∃ (r0 : List Int) (r1 : Int) (Ar0 : Option Addr) (cr0 : Nat), v = .tuple #[.slice Ar0 r0.length cr0, .int .i64 r1] ∧ Qr = [.row 3 1 Ar0 r0.length cr0 (is r0)] ∧ Q (r0, r1) := by
 refine calls_swap <| calls_of_W (vs := [.int .i64 n, .int .i64 k, .int .i64 r]) [6, 7] XF52 rfl rfl rfl rfl ?_; have hS := St.start w; unfold V_Unrank at hv; refine W.seq <| W.region <| WL.assign rfl rfl <| WL.assign rfl rfl <| WL.done <| W.seq <| W.region <| WL.move rfl rfl <| WL.move rfl rfl <| SL.call hS (ok_countSubsets  hv) XF72 rfl XN72 rfl rfl ?_; rintro _ _ w11 ⟨r12, r13, rfl, rfl, hv⟩ hGw11 hS; have hS := hS.n0; refine WL.move rfl rfl <| WL.extract rfl rfl rfl <| WL.extract rfl rfl rfl <| WL.assign rfl rfl <| WL.assign rfl rfl <| WL.done <| W.seq <| W.seq <| W.region <| WL.move rfl rfl <| WL.neqD rfl rfl rfl <| WL.done <| W.cond2 rfl (fun c14 => ?_) (fun c14 => ?_)
 ·have hv := hv.1 (of_decide_eq_true c14); refine W.seq <| W.region <| WL.move rfl rfl <| WL.assign rfl rfl <| WL.assign rfl rfl <| WL.done <| W.ret ?_; have hS := hS.nil (e := 3) (z := 1); refine ⟨_, rfl, Fin.nil ?_⟩; exact ⟨_, hS.ext, (hS.pick [0] rfl).rows, News.of (hS.pick [0] rfl).rows rfl, ⟨([] : List Int), r13, none, 0, rfl, rfl, hv⟩⟩
 have hv := hv.2 (of_decide_eq_false c14); refine W.skip <| W.seq <| W.seq <| W.region <| WL.move rfl rfl <| WL.lssD rfl rfl rfl <| WL.move rfl rfl ?_; by_cases g15 : r < (0 : Int)
 ·have hv := hv.1 g15; rw [decide_eq_true g15]; refine WL.pass rfl rfl rfl <| WL.pass rfl rfl rfl <| WL.pass rfl rfl rfl <| WL.pick rfl rfl rfl <| WL.done <| W.condT rfl <| W.seq <| W.region <| WL.assign rfl rfl <| WL.assign rfl rfl <| WL.done <| W.ret ?_; have hS := hS.nil (e := 3) (z := 1); refine ⟨_, rfl, Fin.nil ?_⟩; exact ⟨_, hS.ext, (hS.pick [0] rfl).rows, News.of (hS.pick [0] rfl).rows rfl, ⟨([] : List Int), (6 : Int), none, 0, rfl, rfl, hv⟩⟩
 have hv := hv.2 g15; rw [decide_eq_false g15]; refine WL.take rfl <| WL.move rfl rfl <| WL.take rfl <| WL.move rfl rfl <| WL.take rfl <| WL.geqD rfl rfl rfl <| WL.pick rfl rfl rfl <| WL.done <| W.cond2 rfl (fun c16 => ?_) (fun c16 => ?_)
 ·have hv := hv.1 (of_decide_eq_true c16); refine W.seq <| W.region <| WL.assign rfl rfl <| WL.assign rfl rfl <| WL.done <| W.ret ?_; have hS := hS.nil (e := 3) (z := 1); refine ⟨_, rfl, Fin.nil ?_⟩; exact ⟨_, hS.ext, (hS.pick [0] rfl).rows, News.of (hS.pick [0] rfl).rows rfl, ⟨([] : List Int), (6 : Int), none, 0, rfl, rfl, hv⟩⟩
 have hv := hv.2 (of_decide_eq_false c16); refine W.skip <| W.seq <| W.region <| WL.move rfl rfl ?_; obtain ⟨o17, hv⟩ := hv; refine SL.make0 (J := k) (cs := is []) hS XU22 XE3 rfl rfl o17 rfl rfl ?_; intro A18 w19 hS; refine WL.assign rfl rfl <| WL.done <| W.seq <| W.seq <| W.region <| WL.assign rfl rfl <| WL.done <| W.block ?_; obtain ⟨I36, μ37, hv, hk62⟩ := hv; have hm0 : 0 = ([] : List Int).length := (hS.rd (i := 0) rfl).ilen.symm; have hS := hS.relen (i := 0) rfl hm0
 change St _ _ _ _ [.row 3 1 A18 ([] : List Int).length k.toNat (is ([] : List Int))] at hS
 refine W.loop (σ := List Int × Int × Int × Option Addr × Nat) (fun q w1 => match q with | (x31, z34, z35, A32, k33) => I36 x31 z34 z35 ∧ St TT w none w1 [.row 3 1 A32 x31.length k33 (is x31)]) (fun q => match q with | (x31, z34, z35, A32, k33) => [(0, .int .i64 n), (1, .int .i64 k), (2, .int .i64 z34), (6, .slice none 0 0), (7, .int .i64 (0 : Int)), (10, .slice A32 x31.length k33), (11, .int .i64 z35)]) (fun q => match q with | (x31, z34, z35, A32, k33) => μ37 x31 z34 z35) (([] : List Int), r, (0 : Int), A18, k.toNat) ⟨hv, hS⟩ ⟨rfl, rfl, rfl, rfl, rfl, (sm (by first | rfl | assumption | omega)), rfl, trivial⟩ ?_; rintro ⟨x31, z34, z35, A32, k33⟩ w38 ⟨hv, hS⟩; have hv := hk62 x31 z34 z35 hv; refine W.seq <| W.seq <| W.region <| WL.move rfl rfl <| WL.len XU22 rfl rfl <| WL.move rfl rfl <| WL.lssD rfl rfl rfl <| WL.done <| W.cond2 rfl (fun c39 => ?_) (fun c39 => ?_)
 ·have hv := hv.1 (of_decide_eq_true c39); refine W.skip <| W.seq ?_; obtain ⟨J46, hv, hk61⟩ := hv; refine W.cutN (σ := List Int × Int × Int × Bool × Option Addr × Nat) (fun q w1 => match q with | (x40, z43, z44, b45, A41, k42) => J46 x40 z43 z44 b45 ∧ St TT w none w1 [.row 3 1 A41 x40.length k42 (is x40)]) (fun q => match q with | (x40, z43, z44, b45, A41, k42) => [(0, .int .i64 n), (1, .int .i64 k), (2, .int .i64 z43), (6, .slice none 0 0), (7, .int .i64 (0 : Int)), (10, .slice A41 x40.length k42), (11, .int .i64 z35), (12, .int .i64 z44), (34, .bool (decide (((x31.length : Nat) : Int) < k))), (46, .bool b45)]) ?_ ?_
  ·refine W.block ?_; refine W.seq <| W.region <| WL.move rfl rfl <| WL.move rfl rfl <| WL.move rfl rfl <| WL.move rfl rfl <| WL.len XU22 rfl rfl ?_; obtain ⟨o47, hv⟩ := hv; refine WL.sub (r := (k - ((x31.length : Nat) : Int))) rfl rfl (wr o47) rfl <| SL.call hS (ok_countFrom  hv) XF77 rfl XN77 rfl rfl ?_; rintro _ _ w48 ⟨r49, rfl, rfl, hv⟩ hGw48 hS; have hS := hS.n0; refine WL.assign rfl rfl <| WL.done <| W.seq <| W.region <| WL.move rfl rfl <| WL.move rfl rfl <| WL.lssD rfl rfl rfl <| WL.done <| W.cond2 rfl (fun c50 => ?_) (fun c50 => ?_)
   ·have hv := hv.1 (of_decide_eq_true c50); refine W.region <| WL.move rfl rfl <| WL.move rfl rfl <| SL.lit1 (vs := is ([z35] : List Int)) hS XU22 XE3 rfl rfl rfl rfl (is_one _) rfl ?_; intro A51 w52 hS; obtain ⟨o54, hv⟩ := hv; refine SL.append (cs := is x31) (cs' := is ([z35] : List Int)) 1 ((x31 ++ ([z35] : List Int)).length) (is (x31 ++ ([z35] : List Int))) hS rfl XU22 XE3 (hS.rd (i := 0) rfl) (is_one _) rfl rfl (apk o54).1 (apk o54).2 (is_ap (hS.rd (i := 1) rfl) (hS.rd (i := 0) rfl)) (is_append _ _) rfl ?_; intro A55 k56 w57 hS; refine WL.assign rfl rfl <| WL.done ?_; have hS := hS.pick [1] rfl; exact ⟨(x31 ++ ([z35] : List Int), z34, r49, (decide (z34 < r49)), A55, k56), ⟨rfl, rfl, rfl, rfl, rfl, rfl, rfl, rfl, rfl, rfl, trivial⟩, rfl, hv, hS⟩
   have hv := hv.2 (of_decide_eq_false c50); refine W.region <| WL.move rfl rfl <| WL.move rfl rfl ?_; obtain ⟨o58, hv⟩ := hv; refine WL.sub (r := (z34 - r49)) rfl rfl (wr o58) rfl <| WL.assign rfl rfl <| WL.done ?_; exact ⟨(x31, (z34 - r49), r49, (decide (z34 < r49)), A32, k33), ⟨rfl, rfl, rfl, rfl, rfl, rfl, rfl, rfl, rfl, rfl, trivial⟩, rfl, hv, hS⟩
  rintro ⟨x40, z43, z44, b45, A41, k42⟩ w59 ⟨hv, hS⟩; have hv := hk61 x40 z43 z44 b45 hv; refine W.region <| WL.move rfl rfl ?_; obtain ⟨o60, hv⟩ := hv; refine WL.add (r := (z35 + (1 : Int))) rfl rfl (wr o60) rfl <| WL.assign rfl rfl <| WL.done ?_; exact ⟨(x40, z43, (z35 + (1 : Int)), A41, k42), ⟨rfl, rfl, rfl, rfl, rfl, rfl, rfl, trivial⟩, hv.2, rfl, hv.1, hS⟩
 have hv := hv.2 (of_decide_eq_false c39); refine W.exit <| W.seq <| W.region <| WL.move rfl rfl <| WL.assign rfl rfl <| WL.assign rfl rfl <| WL.done <| W.ret <| ⟨_, rfl, Fin.nil ?_⟩
 exact ⟨_, hS.ext, (hS.pick [0] rfl).rows, News.of (hS.pick [0] rfl).rows rfl, ⟨x31, (0 : Int), A32, k33, rfl, rfl, hv⟩⟩
end Go.Proofs.Ytcmfjjbbcfddpaa
set_option linter.unusedSimpArgs false
set_option linter.unusedVariables false
set_option maxRecDepth 4000
set_option maxHeartbeats 4000000
namespace Go.Proofs.Ytcmfjjbbcfddpaa
open Go.RowKit
def V_rClean (Pf : Int) (Mf : Int) (mf : List Int) (l : List Int) (Q : List Int → Prop) : Prop :=
  V_rOrder Pf Mf mf (fun r14 => (0 ≤ ((l.length : Nat) : Int) ∧ ((l.length : Nat) : Int) * 8 ≤ 281474976710656 ∧ ((l.length : Nat) : Int) ≤ 281474976710656) ∧ (∃ (I25 : List Int → Int → Prop) (μ26 : List Int → Int → Nat), I25 (List.replicate ((l.length : Nat) : Int).toNat (0 : Int)) (0 : Int) ∧ ∀ (x23 : List Int) (z24 : Int), (I25 x23 z24 → (((z24 < ((l.length : Nat) : Int)) → (∃ J31 : List Int → Bool → Prop, ((0 ≤ z24 ∧ z24 < (l.length : Nat)) ∧ ((((0 : Int) ≤ (gi l z24)) → ((0 ≤ z24 ∧ z24 < (l.length : Nat)) ∧ ((((gi l z24) < r14) → ((0 ≤ z24 ∧ z24 < (l.length : Nat)) ∧ ((0 ≤ z24 ∧ z24 < (((l.length : Nat) : Int).toNat : Nat)) ∧ (J31 (si x23 z24 (gi l z24)) (decide ((gi l z24) < r14)))))) ∧ (¬ ((gi l z24) < r14) → (J31 x23 (decide ((gi l z24) < r14))))))) ∧ (¬ ((0 : Int) ≤ (gi l z24)) → J31 x23 false))) ∧ ∀ (x29 : List Int) (b30 : Bool), (J31 x29 b30 → ((I64 (z24 + (1 : Int))) ∧ (I25 x29 (z24 + (1 : Int)) ∧ μ26 x29 (z24 + (1 : Int)) < μ26 x23 z24))))) ∧ (¬ (z24 < ((l.length : Nat) : Int)) → Q x23)))))
theorem ok_rClean {w : World} {Q : List Int → Prop} {Pf : Int} {Mf : Int} {mf : List Int} {l : List Int} {Bf : Nat} {Af : Option Addr} {nf kf : Nat} (hf : Rd Bf w 1 Af nf kf (is mf)) {Bl : Nat} {Al : Option Addr} {nl kl : Nat} (hl : Rd Bl w 1 Al nl kl (is l)) (hv : V_rClean Pf Mf mf l Q) :
   Calls Try.prog 20 #[.agg #[.int .i64 Pf, .int .i64 Mf, .slice Af nf kf], .slice Al nl kl] w fun e w' => ∃ v Qr, e = .returned v ∧ w.grownBy w' none ∧ Rows w.heap.size none w' Qr ∧ News w.heap.size Qr ∧ ∃ (r0 : List Int) (Ar0 : Option Addr) (cr0 : Nat), v = .slice Ar0 r0.length cr0 ∧ Qr = [.row 3 1 Ar0 r0.length cr0 (is r0)] ∧ Q r0 := by
 have hnf := hf.ilen; subst hnf; have hnl := hl.ilen; subst hnl; refine calls_swap <| calls_of_W (vs := [.agg #[.int .i64 Pf, .int .i64 Mf, .slice Af mf.length kf], .slice Al l.length kl]) [4] XF20 rfl rfl rfl rfl ?_; have hS := St.start w; unfold V_rClean at hv; refine W.seq <| W.region <| SL.box (z := 3) (cs := [.int .i64 Pf, .int .i64 Mf, .slice Af mf.length kf]) hS rfl rfl rfl rfl ?_; intro g11 w12 hS; refine WL.assign rfl rfl <| WL.done <| W.seq <| W.region <| WL.loadV (cs := [.int .i64 Pf, .int .i64 Mf, .slice Af mf.length kf]) XE24 XG24 rfl rfl (Own.vcells (hS.own (i := 0) rfl)) rfl <| SL.call hS (ok_rOrder (hS.ro hf) hv) XF42 rfl XN42 rfl rfl ?_; rintro _ _ w13 ⟨r14, rfl, rfl, hv⟩ hGw13 hS; have hS := hS.n0; refine WL.assign rfl rfl <| WL.done <| W.seq <| W.region <| WL.move rfl rfl <| WL.len XU22 rfl rfl ?_; obtain ⟨o15, hv⟩ := hv; refine SL.make (J := ((l.length : Nat) : Int)) hS XU22 XE3 rfl rfl o15 (made_is _) rfl ?_; intro A16 w17 hS; refine WL.assign rfl rfl <| WL.done <| W.seq <| W.seq <| W.region <| WL.assign rfl rfl <| WL.done <| W.block ?_; obtain ⟨I25, μ26, hv, hk42⟩ := hv; refine W.loop (σ := List Int × Int) (fun q w1 => match q with | (x23, z24) => I25 x23 z24 ∧ St TT w none w1 [.row 3 1 A16 (((l.length : Nat) : Int).toNat) (((l.length : Nat) : Int).toNat) (is x23), .row 24 3 (some ⟨g11, 0, none⟩) 1 1 [.int .i64 Pf, .int .i64 Mf, .slice Af mf.length kf]]) (fun q => match q with | (x23, z24) => [(1, .slice Al l.length kl), (4, .slice none 0 0), (5, .int .i64 r14), (6, .slice A16 (((l.length : Nat) : Int).toNat) (((l.length : Nat) : Int).toNat)), (7, .int .i64 z24)]) (fun q => match q with | (x23, z24) => μ26 x23 z24) (List.replicate ((l.length : Nat) : Int).toNat (0 : Int), (0 : Int)) ⟨hv, hS⟩ ⟨rfl, rfl, rfl, rfl, rfl, trivial⟩ ?_; rintro ⟨x23, z24⟩ w27 ⟨hv, hS⟩; have hv := hk42 x23 z24 hv; refine W.seq <| W.seq <| W.region <| WL.move rfl rfl <| WL.move rfl rfl <| WL.len XU22 rfl rfl <| WL.lssD rfl rfl rfl <| WL.done <| W.cond2 rfl (fun c28 => ?_) (fun c28 => ?_)
 ·have hv := hv.1 (of_decide_eq_true c28); refine W.skip <| W.seq ?_; obtain ⟨J31, hv, hk41⟩ := hv; refine W.cutN (σ := List Int × Bool) (fun q w1 => match q with | (x29, b30) => J31 x29 b30 ∧ St TT w none w1 [.row 3 1 A16 (((l.length : Nat) : Int).toNat) (((l.length : Nat) : Int).toNat) (is x29), .row 24 3 (some ⟨g11, 0, none⟩) 1 1 [.int .i64 Pf, .int .i64 Mf, .slice Af mf.length kf]]) (fun q => match q with | (x29, b30) => [(1, .slice Al l.length kl), (4, .slice none 0 0), (5, .int .i64 r14), (6, .slice A16 (((l.length : Nat) : Int).toNat) (((l.length : Nat) : Int).toNat)), (7, .int .i64 z24), (16, .bool (decide (z24 < ((l.length : Nat) : Int)))), (31, .bool b30)]) ?_ ?_
  ·refine W.block ?_; refine W.seq <| W.region <| WL.move rfl rfl <| WL.move rfl rfl ?_; obtain ⟨o32, hv⟩ := hv; refine SL.index XU22 XE3 (hS.ro hl) rfl rfl o32 rfl <| WL.load XU3 rfl rfl (Rd.gi (hS.ro hl) o32) rfl <| WL.geqD rfl rfl rfl <| WL.move rfl rfl ?_; by_cases g33 : (0 : Int) ≤ (gi l z24)
   ·have hv := hv.1 g33; rw [decide_eq_true g33]; refine WL.take rfl <| WL.move rfl rfl <| WL.take rfl <| WL.move rfl rfl <| WL.take rfl ?_; obtain ⟨o34, hv⟩ := hv; refine SL.index XU22 XE3 (hS.ro hl) rfl rfl o34 rfl <| WL.take rfl <| WL.load XU3 rfl rfl (Rd.gi (hS.ro hl) o34) rfl <| WL.take rfl <| WL.move rfl rfl <| WL.take rfl <| WL.lssD rfl rfl rfl <| WL.pick rfl rfl rfl <| WL.done <| W.cond2 rfl (fun c35 => ?_) (fun c35 => ?_)
    ·have hv := hv.1 (of_decide_eq_true c35); refine W.region <| WL.move rfl rfl <| WL.move rfl rfl <| WL.move rfl rfl <| WL.move rfl rfl ?_; obtain ⟨o36, hv⟩ := hv; refine SL.index XU22 XE3 (hS.ro hl) rfl rfl o36 rfl <| WL.load XU3 rfl rfl (Rd.gi (hS.ro hl) o36) rfl ?_; obtain ⟨o37, hv⟩ := hv; refine SL.index XU22 XE3 (hS.rd (i := 0) rfl) rfl rfl o37 rfl <| SL.store (cs' := is (si x23 z24 (gi l z24))) 0 z24.toNat hS rfl XE3 rfl rfl rfl (is_lt (hS.rd (i := 0) rfl) o37) (is_set _ _ _) ?_; intro w38 hS; refine WL.done ?_; exact ⟨(si x23 z24 (gi l z24), (decide ((gi l z24) < r14))), ⟨rfl, rfl, rfl, rfl, rfl, rfl, rfl, trivial⟩, rfl, hv, hS⟩
    have hv := hv.2 (of_decide_eq_false c35); refine W.skip ?_; exact ⟨(x23, (decide ((gi l z24) < r14))), ⟨rfl, rfl, rfl, rfl, rfl, rfl, rfl, trivial⟩, rfl, hv, hS⟩
   have hv := hv.2 g33; rw [decide_eq_false g33]; refine WL.pass rfl rfl rfl <| WL.pass rfl rfl rfl <| WL.pass rfl rfl rfl <| WL.pass rfl rfl rfl <| WL.pass rfl rfl rfl <| WL.pass rfl rfl rfl <| WL.pick rfl rfl rfl <| WL.done <| W.condF rfl <| W.skip ?_; exact ⟨(x23, false), ⟨rfl, rfl, rfl, rfl, rfl, rfl, rfl, trivial⟩, rfl, hv, hS⟩
  rintro ⟨x29, b30⟩ w39 ⟨hv, hS⟩; have hv := hk41 x29 b30 hv; refine W.region <| WL.move rfl rfl ?_; obtain ⟨o40, hv⟩ := hv; refine WL.add (r := (z24 + (1 : Int))) rfl rfl (wr o40) rfl <| WL.assign rfl rfl <| WL.done ?_; exact ⟨(x29, (z24 + (1 : Int))), ⟨rfl, rfl, rfl, rfl, rfl, trivial⟩, hv.2, rfl, hv.1, hS⟩
 have hv := hv.2 (of_decide_eq_false c28); refine W.exit <| W.seq <| W.region <| WL.move rfl rfl <| WL.assign rfl rfl <| WL.done <| W.ret ?_; have hm0 := (hS.rd (i := 0) rfl).ilen; have hS := hS.relen (i := 0) rfl hm0.symm; refine ⟨_, rfl, Fin.nil ?_⟩; exact ⟨_, hS.ext, (hS.pick [0] rfl).rows, News.of (hS.pick [0] rfl).rows rfl, ⟨x23, A16, ((l.length : Nat) : Int).toNat, (by first | (rw [hm0]; done) | (rw [hm0]; rfl)), rfl, hv⟩⟩
def V_rCompare (a : List Int) (b : List Int) (Q : Int → Prop) : Prop :=
  ∃ J11 : Prop, (∃ (I15 : Int → Prop) (μ16 : Int → Nat), I15 (0 : Int) ∧ ∀ (z14 : Int), (I15 z14 → (((z14 < ((a.length : Nat) : Int)) → (((z14 < ((b.length : Nat) : Int)) → ((0 ≤ z14 ∧ z14 < (a.length : Nat)) ∧ ((0 ≤ z14 ∧ z14 < (b.length : Nat)) ∧ ((((gi a z14) < (gi b z14)) → (Q (-1 : Int))) ∧ (¬ ((gi a z14) < (gi b z14)) → ((0 ≤ z14 ∧ z14 < (a.length : Nat)) ∧ ((0 ≤ z14 ∧ z14 < (b.length : Nat)) ∧ ((((gi b z14) < (gi a z14)) → (Q (1 : Int))) ∧ (¬ ((gi b z14) < (gi a z14)) → ((I64 (z14 + (1 : Int))) ∧ (I15 (z14 + (1 : Int)) ∧ μ16 (z14 + (1 : Int)) < μ16 z14))))))))))) ∧ (¬ (z14 < ((b.length : Nat) : Int)) → J11))) ∧ (¬ (z14 < ((a.length : Nat) : Int)) → J11)))) ∧ (J11 → (((((a.length : Nat) : Int) < ((b.length : Nat) : Int)) → (Q (-1 : Int))) ∧ (¬ (((a.length : Nat) : Int) < ((b.length : Nat) : Int)) → (((((b.length : Nat) : Int) < ((a.length : Nat) : Int)) → (Q (1 : Int))) ∧ (¬ (((b.length : Nat) : Int) < ((a.length : Nat) : Int)) → (Q (0 : Int)))))))
theorem ok_rCompare {w : World} {Q : Int → Prop} {a : List Int} {b : List Int} {Ba : Nat} {Aa : Option Addr} {na ka : Nat} (ha : Rd Ba w 1 Aa na ka (is a)) {Bb : Nat} {Ab : Option Addr} {nb kb : Nat} (hb : Rd Bb w 1 Ab nb kb (is b)) (hv : V_rCompare a b Q) :
   Calls Try.prog 34 #[.slice Aa na ka, .slice Ab nb kb] w fun e w' => ∃ v Qr, e = .returned v ∧ w.grownBy w' none ∧ Rows w.heap.size none w' Qr ∧ News w.heap.size Qr ∧ ∃ (r0 : Int), v = .int .i64 r0 ∧ Qr = [] ∧ Q r0 := by
 have hna := ha.ilen; subst hna; have hnb := hb.ilen; subst hnb; refine calls_swap <| calls_of_W (vs := [.slice Aa a.length ka, .slice Ab b.length kb]) [4] XF34 rfl rfl rfl rfl ?_; have hS := St.start w; unfold V_rCompare at hv; refine W.seq <| W.region <| WL.assign rfl rfl <| WL.done <| W.seq <| W.seq <| W.region <| WL.assign rfl rfl <| WL.done ?_; obtain ⟨J11, hv, hk51⟩ := hv; refine W.cutN (σ := Unit) (fun _ w1 => J11 ∧ St TT w none w1 []) (fun _ => [(0, .slice Aa a.length ka), (1, .slice Ab b.length kb), (4, .int .i64 (0 : Int))]) ?_ ?_
 ·refine W.block ?_; obtain ⟨I15, μ16, hv, hk47⟩ := hv; refine W.loop (σ := Int) (fun z14 w1 => I15 z14 ∧ St TT w none w1 []) (fun z14 => [(0, .slice Aa a.length ka), (1, .slice Ab b.length kb), (4, .int .i64 (0 : Int)), (5, .int .i64 z14)]) (fun z14 => μ16 z14) (0 : Int) ⟨hv, hS⟩ ⟨rfl, rfl, rfl, rfl, trivial⟩ ?_; rintro z14 w17 ⟨hv, hS⟩; have hv := hk47 z14 hv; refine W.seq <| W.seq <| W.region <| WL.move rfl rfl <| WL.move rfl rfl <| WL.len XU22 rfl rfl <| WL.lssD rfl rfl rfl <| WL.move rfl rfl ?_; by_cases g18 : z14 < ((a.length : Nat) : Int)
  ·have hv := hv.1 g18; rw [decide_eq_true g18]; refine WL.take rfl <| WL.move rfl rfl <| WL.take rfl <| WL.move rfl rfl <| WL.take rfl <| WL.len XU22 rfl rfl <| WL.take rfl <| WL.lssD rfl rfl rfl <| WL.pick rfl rfl rfl <| WL.done <| W.cond2 rfl (fun c19 => ?_) (fun c19 => ?_)
   ·have hv := hv.1 (of_decide_eq_true c19); refine W.skip <| W.seq <| W.block <| W.seq <| W.seq ?_; obtain ⟨o23, hv⟩ := hv; obtain ⟨o28, hv⟩ := hv; refine W.drawV 9 [⟨[], [0], true⟩, ⟨[], [5], true⟩, ⟨[0, 1], [], true⟩, ⟨[2], [], false⟩, ⟨[], [1], true⟩, ⟨[], [5], true⟩, ⟨[4, 5], [], true⟩, ⟨[6], [], false⟩, ⟨[3, 7], [], true⟩] [[(0, .slice Aa a.length ka)], [(5, .int .i64 z14)], [], [], [(1, .slice Ab b.length kb)], [(5, .int .i64 z14)], [], [], []] [(18, .slice Aa a.length ka), (19, .int .i64 z14), (20, .pointer (some ((adOf Aa).add z14.toNat))), (21, .int .i64 (gi a z14)), (22, .slice Ab b.length kb), (23, .int .i64 z14), (24, .pointer (some ((adOf Ab).add z14.toNat))), (25, .int .i64 (gi b z14)), (26, .bool (decide ((gi a z14) < (gi b z14))))] Try.mixed (by kernel_rfl) rfl rfl ?_ ?_
    ·refine ⟨⟨rfl, ⟨rfl, trivial⟩, fun _ _ _ => WL.move rfl rfl <| WL.done ⟨rfl, rfl⟩⟩, ⟨rfl, ⟨rfl, trivial⟩, fun _ _ _ => WL.move rfl rfl <| WL.done ⟨rfl, rfl⟩⟩, ⟨rfl, trivial, fun _ _ _ => SL.index XU22 XE3 (hS.ro ha) rfl rfl o23 rfl <| WL.done ⟨rfl, rfl⟩⟩, ⟨rfl, trivial, fun _ hE _ => have hS := hS.grow (hE rfl); WL.load XU3 rfl rfl (Rd.gi (hS.ro ha) o23) rfl <| WL.done ⟨rfl, ext_refl _⟩⟩, ⟨rfl, ⟨rfl, trivial⟩, fun _ _ _ => WL.move rfl rfl <| WL.done ⟨rfl, rfl⟩⟩, ⟨rfl, ⟨rfl, trivial⟩, fun _ _ _ => WL.move rfl rfl <| WL.done ⟨rfl, rfl⟩⟩, ⟨rfl, trivial, fun _ _ _ => SL.index XU22 XE3 (hS.ro hb) rfl rfl o28 rfl <| WL.done ⟨rfl, rfl⟩⟩, ⟨rfl, trivial, fun _ hE _ => have hS := hS.grow (hE rfl); WL.load XU3 rfl rfl (Rd.gi (hS.ro hb) o28) rfl <| WL.done ⟨rfl, ext_refl _⟩⟩, ⟨rfl, trivial, fun _ _ _ => WL.lssD rfl rfl rfl <| WL.done ⟨rfl, rfl⟩⟩, trivial⟩
    intro w31 hT; have hS := hS.grow hT; refine WA.done (by decide +kernel) <| W.cond2 rfl (fun c32 => ?_) (fun c32 => ?_)
    ·have hv := hv.1 (of_decide_eq_true c32); refine W.seq <| W.region <| WL.assign rfl rfl <| WL.done <| W.ret <| ⟨_, rfl, Fin.nil ?_⟩
     exact ⟨_, hS.ext, (hS.pick [] rfl).rows, News.of (hS.pick [] rfl).rows rfl, ⟨(-1 : Int), rfl, rfl, hv⟩⟩
    have hv := hv.2 (of_decide_eq_false c32); refine W.skip <| W.seq ?_; obtain ⟨o36, hv⟩ := hv; obtain ⟨o41, hv⟩ := hv; refine W.drawV 9 [⟨[], [0], true⟩, ⟨[], [5], true⟩, ⟨[0, 1], [], true⟩, ⟨[2], [], false⟩, ⟨[], [1], true⟩, ⟨[], [5], true⟩, ⟨[4, 5], [], true⟩, ⟨[6], [], false⟩, ⟨[3, 7], [], true⟩] [[(0, .slice Aa a.length ka)], [(5, .int .i64 z14)], [], [], [(1, .slice Ab b.length kb)], [(5, .int .i64 z14)], [], [], []] [(27, .slice Aa a.length ka), (28, .int .i64 z14), (29, .pointer (some ((adOf Aa).add z14.toNat))), (30, .int .i64 (gi a z14)), (31, .slice Ab b.length kb), (32, .int .i64 z14), (33, .pointer (some ((adOf Ab).add z14.toNat))), (34, .int .i64 (gi b z14)), (35, .bool (decide ((gi b z14) < (gi a z14))))] Try.mixed (by kernel_rfl) rfl rfl ?_ ?_
    ·refine ⟨⟨rfl, ⟨rfl, trivial⟩, fun _ _ _ => WL.move rfl rfl <| WL.done ⟨rfl, rfl⟩⟩, ⟨rfl, ⟨rfl, trivial⟩, fun _ _ _ => WL.move rfl rfl <| WL.done ⟨rfl, rfl⟩⟩, ⟨rfl, trivial, fun _ _ _ => SL.index XU22 XE3 (hS.ro ha) rfl rfl o36 rfl <| WL.done ⟨rfl, rfl⟩⟩, ⟨rfl, trivial, fun _ hE _ => have hS := hS.grow (hE rfl); WL.load XU3 rfl rfl (Rd.gi (hS.ro ha) o36) rfl <| WL.done ⟨rfl, ext_refl _⟩⟩, ⟨rfl, ⟨rfl, trivial⟩, fun _ _ _ => WL.move rfl rfl <| WL.done ⟨rfl, rfl⟩⟩, ⟨rfl, ⟨rfl, trivial⟩, fun _ _ _ => WL.move rfl rfl <| WL.done ⟨rfl, rfl⟩⟩, ⟨rfl, trivial, fun _ _ _ => SL.index XU22 XE3 (hS.ro hb) rfl rfl o41 rfl <| WL.done ⟨rfl, rfl⟩⟩, ⟨rfl, trivial, fun _ hE _ => have hS := hS.grow (hE rfl); WL.load XU3 rfl rfl (Rd.gi (hS.ro hb) o41) rfl <| WL.done ⟨rfl, ext_refl _⟩⟩, ⟨rfl, trivial, fun _ _ _ => WL.gtrD rfl rfl rfl <| WL.done ⟨rfl, rfl⟩⟩, trivial⟩
    intro w44 hT; have hS := hS.grow hT; refine WA.done (by decide +kernel) <| W.cond2 rfl (fun c45 => ?_) (fun c45 => ?_)
    ·have hv := hv.1 (of_decide_eq_true c45); refine W.seq <| W.region <| WL.assign rfl rfl <| WL.done <| W.ret <| ⟨_, rfl, Fin.nil ?_⟩
     exact ⟨_, hS.ext, (hS.pick [] rfl).rows, News.of (hS.pick [] rfl).rows rfl, ⟨(1 : Int), rfl, rfl, hv⟩⟩
    have hv := hv.2 (of_decide_eq_false c45); refine W.skip <| W.region <| WL.move rfl rfl ?_; obtain ⟨o46, hv⟩ := hv; refine WL.add (r := (z14 + (1 : Int))) rfl rfl (wr o46) rfl <| WL.assign rfl rfl <| WL.done ?_; exact ⟨(z14 + (1 : Int)), ⟨rfl, rfl, rfl, rfl, trivial⟩, hv.2, rfl, hv.1, hS⟩
   have hv := hv.2 (of_decide_eq_false c19); refine W.exit ?_; exact ⟨(), ⟨rfl, rfl, rfl, trivial⟩, rfl, hv, hS⟩
  have hv := hv.2 g18; rw [decide_eq_false g18]; refine WL.pass rfl rfl rfl <| WL.pass rfl rfl rfl <| WL.pass rfl rfl rfl <| WL.pass rfl rfl rfl <| WL.pick rfl rfl rfl <| WL.done <| W.condF rfl <| W.exit ?_; exact ⟨(), ⟨rfl, rfl, rfl, trivial⟩, rfl, hv, hS⟩
 rintro _ w48 ⟨hv, hS⟩; have hv := hk51  hv; refine W.seq <| W.seq <| W.region <| WL.move rfl rfl <| WL.len XU22 rfl rfl <| WL.move rfl rfl <| WL.len XU22 rfl rfl <| WL.lssD rfl rfl rfl <| WL.done <| W.cond2 rfl (fun c49 => ?_) (fun c49 => ?_)
 ·have hv := hv.1 (of_decide_eq_true c49); refine W.seq <| W.region <| WL.assign rfl rfl <| WL.done <| W.ret <| ⟨_, rfl, Fin.nil ?_⟩
  exact ⟨_, hS.ext, (hS.pick [] rfl).rows, News.of (hS.pick [] rfl).rows rfl, ⟨(-1 : Int), rfl, rfl, hv⟩⟩
 have hv := hv.2 (of_decide_eq_false c49); refine W.skip <| W.seq <| W.seq <| W.region <| WL.move rfl rfl <| WL.len XU22 rfl rfl <| WL.move rfl rfl <| WL.len XU22 rfl rfl <| WL.gtrD rfl rfl rfl <| WL.done <| W.cond2 rfl (fun c50 => ?_) (fun c50 => ?_)
 ·have hv := hv.1 (of_decide_eq_true c50); refine W.seq <| W.region <| WL.assign rfl rfl <| WL.done <| W.ret <| ⟨_, rfl, Fin.nil ?_⟩
  exact ⟨_, hS.ext, (hS.pick [] rfl).rows, News.of (hS.pick [] rfl).rows rfl, ⟨(1 : Int), rfl, rfl, hv⟩⟩
 have hv := hv.2 (of_decide_eq_false c50); refine W.skip <| W.seq <| W.region <| WL.assign rfl rfl <| WL.done <| W.ret <| ⟨_, rfl, Fin.nil ?_⟩
 exact ⟨_, hS.ext, (hS.pick [] rfl).rows, News.of (hS.pick [] rfl).rows rfl, ⟨(0 : Int), rfl, rfl, hv⟩⟩
def V_rwSame (a : List Int) (b : List Int) (Q : Bool → Prop) : Prop :=
  V_rCompare a b (fun r12 => Q (decide (r12 = (0 : Int))))
theorem ok_rwSame {w : World} {Q : Bool → Prop} {a : List Int} {b : List Int} {Ba : Nat} {Aa : Option Addr} {na ka : Nat} (ha : Rd Ba w 1 Aa na ka (is a)) {Bb : Nat} {Ab : Option Addr} {nb kb : Nat} (hb : Rd Bb w 1 Ab nb kb (is b)) (hv : V_rwSame a b Q) :
  Calls Try.prog 18 #[.slice Aa na ka, .slice Ab nb kb] w fun e w' => ∃ v Qr, e = .returned v ∧ w.grownBy w' none ∧ Rows w.heap.size none w' Qr ∧ News w.heap.size Qr ∧ ∃ (r0 : Bool), v = .bool r0 ∧ Qr = [] ∧ Q r0 := by
 have hna := ha.ilen; subst hna; have hnb := hb.ilen; subst hnb; refine calls_swap <| calls_of_W (vs := [.slice Aa a.length ka, .slice Ab b.length kb]) [4] XF18 rfl rfl rfl rfl ?_; have hS := St.start w; unfold V_rwSame at hv; refine W.seq <| W.region <| WL.assign rfl rfl <| WL.done <| W.seq <| W.region <| WL.move rfl rfl <| WL.move rfl rfl <| SL.call hS (ok_rCompare (hS.ro ha) (hS.ro hb) hv) XF34 rfl XN34 rfl rfl ?_; rintro _ _ w11 ⟨r12, rfl, rfl, hv⟩ hGw11 hS; have hS := hS.n0; refine WL.eqlD rfl rfl rfl <| WL.assign rfl rfl <| WL.done <| W.ret <| ⟨_, rfl, Fin.nil ?_⟩
 exact ⟨_, hS.ext, (hS.pick [] rfl).rows, News.of (hS.pick [] rfl).rows rfl, ⟨(decide (r12 = (0 : Int))), rfl, rfl, hv⟩⟩
def V_rCount (Pf : Int) (Mf : Int) (mf : List Int) (n : Int) (Q : Int × Int → Prop) : Prop :=
  ((n < (0 : Int)) → (Q ((0 : Int), (6 : Int)))) ∧ (¬ (n < (0 : Int)) → ((((64 : Int) < n) → (Q ((0 : Int), (6 : Int)))) ∧ (¬ ((64 : Int) < n) → (V_rOrder Pf Mf mf (fun r16 => ∃ (I23 : Int → Int → Prop) (μ24 : Int → Int → Nat), I23 (1 : Int) (0 : Int) ∧ ∀ (z21 : Int) (z22 : Int), (I23 z21 z22 → (((z22 < n) → ((r16 ≠ 0 ∧ I64 ((65536 : Int).tdiv r16)) ∧ (((((65536 : Int).tdiv r16) < z21) → (Q ((0 : Int), (8 : Int)))) ∧ (¬ (((65536 : Int).tdiv r16) < z21) → ((I64 (z21 * r16)) ∧ ((I64 (z22 + (1 : Int))) ∧ (I23 (z21 * r16) (z22 + (1 : Int)) ∧ μ24 (z21 * r16) (z22 + (1 : Int)) < μ24 z21 z22))))))) ∧ (¬ (z22 < n) → (Q (z21, (0 : Int)))))))))))
theorem ok_rCount {w : World} {Q : Int × Int → Prop} {Pf : Int} {Mf : Int} {mf : List Int} {n : Int} {Bf : Nat} {Af : Option Addr} {nf kf : Nat} (hf : Rd Bf w 1 Af nf kf (is mf)) (hv : V_rCount Pf Mf mf n Q) :
   Calls Try.prog 36 #[.agg #[.int .i64 Pf, .int .i64 Mf, .slice Af nf kf], .int .i64 n] w fun e w' => ∃ v Qr, e = .returned v ∧ w.grownBy w' none ∧ Rows w.heap.size none w' Qr ∧ News w.heap.size Qr ∧ ∃ (r0 : Int) (r1 : Int), v = .tuple #[.int .i64 r0, .int .i64 r1] ∧ Qr = [] ∧ Q (r0, r1) := by
 have hnf := hf.ilen; subst hnf; refine calls_swap <| calls_of_W (vs := [.agg #[.int .i64 Pf, .int .i64 Mf, .slice Af mf.length kf], .int .i64 n]) [4, 5] XF36 rfl rfl rfl rfl ?_; have hS := St.start w; unfold V_rCount at hv; refine W.seq <| W.region <| SL.box (z := 3) (cs := [.int .i64 Pf, .int .i64 Mf, .slice Af mf.length kf]) hS rfl rfl rfl rfl ?_; intro g11 w12 hS; refine WL.assign rfl rfl <| WL.assign rfl rfl <| WL.done <| W.seq <| W.seq <| W.region <| WL.move rfl rfl <| WL.lssD rfl rfl rfl <| WL.move rfl rfl ?_; by_cases g13 : n < (0 : Int)
 ·have hv := hv.1 g13; rw [decide_eq_true g13]; refine WL.pass rfl rfl rfl <| WL.pass rfl rfl rfl <| WL.pick rfl rfl rfl <| WL.done <| W.condT rfl <| W.seq <| W.region <| WL.assign rfl rfl <| WL.assign rfl rfl <| WL.done <| W.ret <| ⟨_, rfl, Fin.nil ?_⟩
  exact ⟨_, hS.ext, (hS.pick [] rfl).rows, News.of (hS.pick [] rfl).rows rfl, ⟨(0 : Int), (6 : Int), rfl, rfl, hv⟩⟩
 have hv := hv.2 g13; rw [decide_eq_false g13]; refine WL.take rfl <| WL.move rfl rfl <| WL.take rfl <| WL.gtrD rfl rfl rfl <| WL.pick rfl rfl rfl <| WL.done <| W.cond2 rfl (fun c14 => ?_) (fun c14 => ?_)
 ·have hv := hv.1 (of_decide_eq_true c14); refine W.seq <| W.region <| WL.assign rfl rfl <| WL.assign rfl rfl <| WL.done <| W.ret <| ⟨_, rfl, Fin.nil ?_⟩
  exact ⟨_, hS.ext, (hS.pick [] rfl).rows, News.of (hS.pick [] rfl).rows rfl, ⟨(0 : Int), (6 : Int), rfl, rfl, hv⟩⟩
 have hv := hv.2 (of_decide_eq_false c14); refine W.skip <| W.seq <| W.region <| WL.loadV (cs := [.int .i64 Pf, .int .i64 Mf, .slice Af mf.length kf]) XE24 XG24 rfl rfl (Own.vcells (hS.own (i := 0) rfl)) rfl <| SL.call hS (ok_rOrder (hS.ro hf) hv) XF42 rfl XN42 rfl rfl ?_; rintro _ _ w15 ⟨r16, rfl, rfl, hv⟩ hGw15 hS; have hS := hS.n0; refine WL.assign rfl rfl <| WL.done <| W.seq <| W.region <| WL.assign rfl rfl <| WL.done <| W.seq <| W.seq <| W.region <| WL.assign rfl rfl <| WL.done <| W.block ?_; obtain ⟨I23, μ24, hv, hk31⟩ := hv; refine W.loop (σ := Int × Int) (fun q w1 => match q with | (z21, z22) => I23 z21 z22 ∧ St TT w none w1 [.row 24 3 (some ⟨g11, 0, none⟩) 1 1 [.int .i64 Pf, .int .i64 Mf, .slice Af mf.length kf]]) (fun q => match q with | (z21, z22) => [(1, .int .i64 n), (4, .int .i64 (0 : Int)), (5, .int .i64 (0 : Int)), (6, .int .i64 r16), (7, .int .i64 z21), (8, .int .i64 z22)]) (fun q => match q with | (z21, z22) => μ24 z21 z22) ((1 : Int), (0 : Int)) ⟨hv, hS⟩ ⟨rfl, rfl, rfl, rfl, rfl, rfl, trivial⟩ ?_; rintro ⟨z21, z22⟩ w25 ⟨hv, hS⟩; have hv := hk31 z21 z22 hv; refine W.seq <| W.seq <| W.region <| WL.move rfl rfl <| WL.move rfl rfl <| WL.lssD rfl rfl rfl <| WL.done <| W.cond2 rfl (fun c26 => ?_) (fun c26 => ?_)
 ·have hv := hv.1 (of_decide_eq_true c26); refine W.skip <| W.seq <| W.block <| W.seq <| W.seq <| W.region <| WL.move rfl rfl <| WL.move rfl rfl ?_; obtain ⟨o27, hv⟩ := hv; refine WL.quo (r := ((65536 : Int).tdiv r16)) rfl rfl o27.1 (wr o27.2) rfl <| WL.gtrD rfl rfl rfl <| WL.done <| W.cond2 rfl (fun c28 => ?_) (fun c28 => ?_)
  ·have hv := hv.1 (of_decide_eq_true c28); refine W.seq <| W.region <| WL.assign rfl rfl <| WL.assign rfl rfl <| WL.done <| W.ret <| ⟨_, rfl, Fin.nil ?_⟩
   exact ⟨_, hS.ext, (hS.pick [] rfl).rows, News.of (hS.pick [] rfl).rows rfl, ⟨(0 : Int), (8 : Int), rfl, rfl, hv⟩⟩
  have hv := hv.2 (of_decide_eq_false c28); refine W.skip <| W.region <| WL.move rfl rfl <| WL.move rfl rfl ?_; obtain ⟨o29, hv⟩ := hv; refine WL.mul (r := (z21 * r16)) rfl rfl (wr o29) rfl <| WL.assign rfl rfl <| WL.done <| W.region <| WL.move rfl rfl ?_; obtain ⟨o30, hv⟩ := hv; refine WL.add (r := (z22 + (1 : Int))) rfl rfl (wr o30) rfl <| WL.assign rfl rfl <| WL.done ?_; exact ⟨((z21 * r16), (z22 + (1 : Int))), ⟨rfl, rfl, rfl, rfl, rfl, rfl, trivial⟩, hv.2, rfl, hv.1, hS⟩
 have hv := hv.2 (of_decide_eq_false c26); refine W.exit <| W.seq <| W.region <| WL.move rfl rfl <| WL.assign rfl rfl <| WL.assign rfl rfl <| WL.done <| W.ret <| ⟨_, rfl, Fin.nil ?_⟩
 exact ⟨_, hS.ext, (hS.pick [] rfl).rows, News.of (hS.pick [] rfl).rows rfl, ⟨z21, (0 : Int), rfl, rfl, hv⟩⟩
end Go.Proofs.Ytcmfjjbbcfddpaa
set_option linter.unusedVariables false
set_option linter.unusedSimpArgs false
namespace Go.Proofs.Ytcmfjjbbcfddpaa
def LB : Nat := 17592186044416
def cl (q : Nat) (l : List Int) : List Int := l.map fun x => ((inE q x : Nat) : Int)
theorem cl_len (q : Nat) (l : List Int) : (cl q l).length = l.length := by simp [cl]
theorem vo_map {f : Int → Int} {l : List Int} {i : Nat} (h : i < l.length) : vo (l.map f) i = f (vo l i) := by
 unfold vo; rw [List.getD_eq_getElem?_getD, List.getD_eq_getElem?_getD, List.getElem?_map, List.getElem?_eq_getElem h]; rfl
theorem cl_at {q : Nat} {l : List Int} {i : Nat} (h : i < l.length) : vo (cl q l) i = ((inE q (vo l i) : Nat) : Int) := vo_map h
theorem inE_is {q : Nat} {x : Int} (h : 0 ≤ x ∧ x < (q : Int)) : ((inE q x : Nat) : Int) = x := by unfold inE; rw [if_pos h, Int.toNat_of_nonneg h.1]
theorem inE_not {q : Nat} {x : Int} (h : ¬ (0 ≤ x ∧ x < (q : Int))) : inE q x = 0 := by unfold inE; rw [if_neg h]
section
variable {P M : Int} {mf : List Int} {p m v : Nat}
theorem cl_step {q : Nat} {l x y : List Int} {k : Nat} (hk : k < l.length) (hx : x.length = l.length) (h : ∀ j, vo x j = if j < k then ((inE q (vo l j) : Nat) : Int) else 0)
    (hy : (0 ≤ vo l k ∧ vo l k < (q : Int) ∧ y = x.set k (vo l k)) ∨ (¬ (0 ≤ vo l k ∧ vo l k < (q : Int)) ∧ y = x)) : y.length = l.length ∧ ∀ j, vo y j = if j < k + 1 then ((inE q (vo l j) : Nat) : Int) else 0 := by
  rcases hy with ⟨h1, h2, rfl⟩ | ⟨h1, rfl⟩
  · refine ⟨by simp [hx], fun j => ?_⟩
    rw [vo_set]
    by_cases hj : k = j
    · subst hj; rw [if_pos ⟨rfl, by omega⟩, if_pos (by omega), inE_is ⟨h1, h2⟩]
    · rw [if_neg (fun e => hj e.1), h j]
      by_cases hj2 : j < k
      · rw [if_pos hj2, if_pos (by omega)]
      · rw [if_neg hj2, if_neg (by omega)]
  · refine ⟨hx, fun j => ?_⟩
    rw [h j]
    by_cases hj : j = k
    · subst hj; rw [if_neg (by omega), if_pos (by omega), inE_not h1]; rfl
    · by_cases hj2 : j < k
      · rw [if_pos hj2, if_pos (by omega)]
      · rw [if_neg hj2, if_neg (by omega)]
theorem cl_end {q : Nat} {l x : List Int} {k : Nat} (hk : l.length ≤ k) (hx : x.length = l.length) (h : ∀ j, vo x j = if j < k then ((inE q (vo l j) : Nat) : Int) else 0) : x = cl q l :=
 vo_ext (by rw [hx, cl_len]) fun i hi => by rw [h i, if_pos (by omega), cl_at (by omega)]
theorem v_rClean (F : FV P M mf p m v) {l : List Int} {Q : List Int → Prop} (hl : l.length ≤ LB) (h : Q (cl (p ^ m) l)) : V_rClean P M mf l Q := by
 have hq := F.q; unfold LB at hl; refine v_rOrder ?_; rw [F.ord]; refine ⟨⟨by omega, by omega, by omega⟩, fun x z => ∃ k : Nat, z = k ∧ k ≤ l.length ∧ x.length = l.length ∧ ∀ j, vo x j = if j < k then ((inE (p ^ m) (vo l j) : Nat) : Int) else 0, fun x z => (l.length - z).toNat, ⟨0, rfl, Nat.zero_le _, by simp, fun j => ?_⟩, ?_⟩
 ·rw [if_neg (by omega)]; exact vo_rep _ _
 rintro x _ ⟨k, rfl, hk, hx, hv⟩; dsimp only; rw [gi_nat, si_nat]; refine ⟨fun hlt => ?_, fun hge => by rw [cl_end (by omega) hx hv]; exact h⟩; have hlt' : k < l.length := by omega
 refine ⟨fun y b => y.length = l.length ∧ ∀ j, vo y j = if j < k + 1 then ((inE (p ^ m) (vo l j) : Nat) : Int) else 0, ⟨⟨by omega, by omega⟩, fun h0 => ⟨⟨by omega, by omega⟩, fun h1 => ⟨⟨by omega, by omega⟩, ⟨by omega, by omega⟩, cl_step hlt' hx hv (.inl ⟨h0, h1, rfl⟩)⟩, fun h1 => cl_step hlt' hx hv (.inr ⟨fun e => h1 e.2, rfl⟩)⟩, fun h0 => cl_step hlt' hx hv (.inr ⟨fun e => h0 e.1, rfl⟩)⟩, ?_⟩; rintro y b ⟨hy, hyv⟩; exact ⟨⟨by omega, by omega⟩, ⟨k + 1, by push_cast; rfl, by omega, hy, hyv⟩, by omega⟩
end
section
variable {F : GFv} {p m v g : Nat}
theorem v_Clean (K : GFk F p m v g) {l : List Int} {Q : List Int → Prop} (hl : l.length ≤ LB) (h : Q (cl (p ^ m) l)) : V_Clean F l Q := by
 unfold LB at hl; refine ⟨⟨by omega, by omega, by omega⟩, fun x z => ∃ k : Nat, z = k ∧ k ≤ l.length ∧ x.length = l.length ∧ ∀ j, vo x j = if j < k then ((inE (p ^ m) (vo l j) : Nat) : Int) else 0, fun x z => (l.length - z).toNat, ⟨0, rfl, Nat.zero_le _, by simp, fun j => ?_⟩, ?_⟩
 ·rw [if_neg (by omega)]; exact vo_rep _ _
 rintro x _ ⟨k, rfl, hk, hx, hv⟩; dsimp only; rw [gi_nat, si_nat]; refine ⟨fun hlt => ?_, fun hge => by rw [cl_end (by omega) hx hv]; exact h⟩; have hlt' : k < l.length := by omega
 refine ⟨fun y b => y.length = l.length ∧ ∀ j, vo y j = if j < k + 1 then ((inE (p ^ m) (vo l j) : Nat) : Int) else 0, ⟨⟨by omega, by omega⟩, v_Is K ⟨fun hb => ?_, fun hb => ?_⟩⟩, ?_⟩
 ·have hb := of_decide_eq_true hb; exact ⟨⟨by omega, by omega⟩, cl_step hlt' hx hv (.inl ⟨hb.1, hb.2, rfl⟩)⟩
 ·exact cl_step hlt' hx hv (.inr ⟨of_decide_eq_false hb, rfl⟩)
 ·rintro y b ⟨hy, hyv⟩; exact ⟨⟨by omega, by omega⟩, ⟨k + 1, by push_cast; rfl, by omega, hy, hyv⟩, by omega⟩
end
def lex : List Int → List Int → Int
  | [], [] => 0
  | [], _ :: _ => -1
  | _ :: _, [] => 1
  | a :: us, b :: bs => if a < b then -1 else if b < a then 1 else lex us bs
theorem lex_cons (a b : Int) (us bs : List Int) : lex (a :: us) (b :: bs) = if a < b then -1 else if b < a then 1 else lex us bs := rfl
theorem lex_self : ∀ a, lex a a = 0
 | [] => rfl
 | a :: us => by unfold lex; rw [if_neg (by omega), if_neg (by omega)]; exact lex_self us
theorem lex_eq : ∀ {a b}, lex a b = 0 → a = b
 | [], [], _ => rfl
 | [], _ :: _, h => by cases h
 | _ :: _, [], h => by cases h
 | a :: us, b :: bs, h => by
  unfold lex at h; split at h
  ·cases h
  ·split at h
   ·cases h
   ·rw [lex_eq h, show a = b by omega]
theorem lex_iff {a b : List Int} : lex a b = 0 ↔ a = b := ⟨lex_eq, fun h => by rw [h]; exact lex_self b⟩
theorem drop_vo {l : List Int} {k : Nat} (h : k < l.length) : l.drop k = vo l k :: l.drop (k + 1) := by
 rw [List.drop_eq_getElem_cons h]; congr 1; unfold vo; rw [List.getD_eq_getElem?_getD, List.getElem?_eq_getElem h]; rfl
theorem v_cmp {x y : Int} {Q : Int → Prop} (h : Q (if x < y then -1 else if y < x then 1 else 0)) : V_cmp x y Q := by
 refine ⟨fun e => absurd e (by simp), fun _ => ⟨fun e => absurd e (by simp), fun _ => ⟨fun c => ?_, fun c => ⟨fun d => ?_, fun d => ?_⟩⟩⟩⟩
 ·rw [if_pos c] at h; exact h
 ·rw [if_neg c, if_pos d] at h; exact h
 ·rw [if_neg c, if_neg d] at h; exact h
theorem v_scompare {a b : List Int} {Q : Int → Prop} (ha : a.length ≤ 4611686018427387904) (h : Q (lex a b)) : V_scompare a b Q := by
 refine ⟨fun z => ∃ k : Nat, z = k ∧ k ≤ a.length ∧ k ≤ b.length ∧ lex a b = lex (a.drop k) (b.drop k), fun z => (a.length - z).toNat, ⟨0, rfl, Nat.zero_le _, Nat.zero_le _, rfl⟩, ?_⟩; rintro _ ⟨k, rfl, hk, hkb, hx⟩; rw [gi_nat, gi_nat]; dsimp only; refine ⟨fun hlt => ⟨⟨by omega, by omega⟩, fun hb => ?_, fun hb => ⟨⟨by omega, by omega⟩, v_cmp ?_⟩⟩, fun hge => ⟨fun h1 => ?_, fun h1 => ?_⟩⟩
 ·rw [drop_vo (l := a) (by omega), List.drop_of_length_le (l := b) (by omega)] at hx; rw [hx] at h; exact h
 ·rw [drop_vo (l := a) (by omega), drop_vo (l := b) (by omega), lex_cons] at hx; by_cases c : vo a k < vo b k
  ·rw [if_pos c] at hx ⊢; exact ⟨fun _ => by rw [hx] at h; exact h, fun e => absurd (by decide) e⟩
  ·rw [if_neg c] at hx ⊢; by_cases d : vo b k < vo a k
   ·rw [if_pos d] at hx ⊢; exact ⟨fun _ => by rw [hx] at h; exact h, fun e => absurd (by decide) e⟩
   ·rw [if_neg d] at hx ⊢; exact ⟨fun e => absurd rfl e, fun _ => ⟨⟨by omega, by omega⟩, ⟨k + 1, by push_cast; rfl, by omega, by omega, hx⟩, by omega⟩⟩
 ·rw [List.drop_of_length_le (l := a) (by omega), drop_vo (l := b) (by omega)] at hx; rw [hx] at h; exact h
 ·rw [List.drop_of_length_le (l := a) (by omega), List.drop_of_length_le (l := b) (by omega)] at hx; rw [hx] at h; exact h
theorem v_Compare {a b : List Int} {Q : Int → Prop} (ha : a.length ≤ 4611686018427387904) (h : Q (lex a b)) : V_Compare a b Q := v_scompare ha h
theorem v_rCompare {a b : List Int} {Q : Int → Prop} (ha : a.length ≤ 4611686018427387904) (h : Q (lex a b)) : V_rCompare a b Q := by
 refine ⟨∃ k : Nat, k ≤ a.length ∧ k ≤ b.length ∧ (k = a.length ∨ k = b.length) ∧ lex a b = lex (a.drop k) (b.drop k), ⟨fun z => ∃ k : Nat, z = k ∧ k ≤ a.length ∧ k ≤ b.length ∧ lex a b = lex (a.drop k) (b.drop k), fun z => (a.length - z).toNat, ⟨0, rfl, Nat.zero_le _, Nat.zero_le _, rfl⟩, ?_⟩, ?_⟩
 ·rintro _ ⟨k, rfl, hk, hkb, hx⟩; rw [gi_nat, gi_nat]; refine ⟨fun hlt => ⟨fun hlb => ?_, fun hb => ⟨k, hk, hkb, .inr (by omega), hx⟩⟩, fun hge => ⟨k, hk, hkb, .inl (by omega), hx⟩⟩; dsimp only; rw [drop_vo (l := a) (by omega), drop_vo (l := b) (by omega), lex_cons] at hx; refine ⟨⟨by omega, by omega⟩, ⟨by omega, by omega⟩, fun c => ?_, fun c => ⟨⟨by omega, by omega⟩, ⟨by omega, by omega⟩, fun d => ?_, fun d => ?_⟩⟩
  ·rw [if_pos c] at hx; rw [hx] at h; exact h
  ·rw [if_neg c, if_pos d] at hx; rw [hx] at h; exact h
  ·rw [if_neg c, if_neg d] at hx; exact ⟨⟨by omega, by omega⟩, ⟨k + 1, by push_cast; rfl, by omega, by omega, hx⟩, by omega⟩
 ·rintro ⟨k, hk, hkb, ho, hx⟩; refine ⟨fun c => ?_, fun c => ⟨fun d => ?_, fun d => ?_⟩⟩
  ·rw [List.drop_of_length_le (l := a) (by omega), drop_vo (l := b) (by omega)] at hx; rw [hx] at h; exact h
  ·rw [drop_vo (l := a) (by omega), List.drop_of_length_le (l := b) (by omega)] at hx; rw [hx] at h; exact h
  ·rw [List.drop_of_length_le (l := a) (by omega), List.drop_of_length_le (l := b) (by omega)] at hx; rw [hx] at h; exact h
theorem v_rwSame {a b : List Int} {Q : Bool → Prop} (ha : a.length ≤ 4611686018427387904) (h : Q (decide (a = b))) : V_rwSame a b Q := by
 refine v_rCompare ha ?_
 rwa [decide_eq_decide.2 lex_iff]
end Go.Proofs.Ytcmfjjbbcfddpaa
set_option linter.unusedVariables false
set_option linter.unusedSimpArgs false
namespace Go.Proofs.Ytcmfjjbbcfddpaa
def pos (f : Nat → Bool) (k : Nat) : List Int := ((List.range k).filter f).map fun (i : Nat) => (i : Int)
def cnp (f : Nat → Bool) (k : Nat) : Nat := ((List.range k).filter f).length
theorem pos_succ (f : Nat → Bool) (k : Nat) : pos f (k + 1) = if f k = true then pos f k ++ [(k : Int)] else pos f k := by
 unfold pos; rw [List.range_succ, List.filter_append, List.map_append]; cases h : f k <;> simp [h]
theorem cnp_succ (f : Nat → Bool) (k : Nat) : cnp f (k + 1) = cnp f k + if f k = true then 1 else 0 := by
 unfold cnp; rw [List.range_succ, List.filter_append, List.length_append]; cases h : f k <;> simp [h]
theorem pos_len (f : Nat → Bool) (k : Nat) : (pos f k).length = cnp f k := by simp [pos, cnp]
theorem cnp_le (f : Nat → Bool) : ∀ k, cnp f k ≤ k
 | 0 => Nat.le_refl _
 | k + 1 => by rw [cnp_succ]; have := cnp_le f k; split <;> omega
def nzf (q : Nat) (l : List Int) (i : Nat) : Bool := decide (inE q (vo l i) ≠ 0)
def spt (q : Nat) (l : List Int) : List Int := pos (nzf q l) l.length
theorem spt_len (q : Nat) (l : List Int) : (spt q l).length = cnp (nzf q l) l.length := pos_len _ _
theorem nz_iff {q : Nat} {x : Int} : inE q x ≠ 0 ↔ x ≠ 0 ∧ 0 ≤ x ∧ x < (q : Int) := by
 unfold inE; split
 ·omega
 ·exact ⟨fun h => absurd rfl h, fun h => by omega⟩
theorem pos_yes {f : Nat → Bool} {k : Nat} (h : f k = true) : pos f k ++ [(k : Int)] = pos f (k + 1) := by rw [pos_succ, if_pos h]
theorem pos_no {f : Nat → Bool} {k : Nat} (h : f k = false) : pos f k = pos f (k + 1) := by rw [pos_succ, if_neg (by rw [h]; decide)]
section
variable {F : GFv} {p m v g : Nat}
theorem v_Support (K : GFk F p m v g) {l : List Int} {Q : List Int → Prop} (hl : l.length ≤ LB) (h : Q (spt (p ^ m) l)) : V_Support F l Q := by
 unfold LB at hl; refine ⟨fun x z => ∃ k : Nat, z = k ∧ k ≤ l.length ∧ x = pos (nzf (p ^ m) l) k, fun x z => (l.length - z).toNat, ⟨0, rfl, Nat.zero_le _, rfl⟩, ?_⟩; rintro x _ ⟨k, rfl, hk, rfl⟩; have hpl := pos_len (nzf (p ^ m) l) k; have hcl := cnp_le (nzf (p ^ m) l) k; dsimp only; rw [gi_nat]; refine ⟨fun hlt => ?_, fun hge => by rw [show k = l.length by omega]; exact h⟩; refine ⟨fun y b => y = pos (nzf (p ^ m) l) (k + 1), ⟨⟨by omega, by omega⟩, fun h0 => v_Is K ⟨fun hb => ?_, fun hb => ?_⟩, fun h0 => ?_⟩, ?_⟩
 ·have hb := of_decide_eq_true hb; exact ⟨by omega, pos_yes (decide_eq_true (nz_iff.2 ⟨h0, hb⟩))⟩
 ·have hb := of_decide_eq_false hb; exact pos_no (decide_eq_false fun e => hb (nz_iff.1 e).2)
 ·exact pos_no (decide_eq_false fun e => h0 (nz_iff.1 e).1)
 ·rintro y b rfl; exact ⟨⟨by omega, by omega⟩, ⟨k + 1, by push_cast; rfl, by omega, rfl⟩, by omega⟩
theorem v_Weight (K : GFk F p m v g) {l : List Int} {Q : Int → Prop} (hl : l.length ≤ LB) (h : Q ((cnp (nzf (p ^ m) l) l.length : Nat) : Int)) : V_Weight F l Q := by
 refine v_Support K hl ?_; rw [spt_len]; exact h
end
def zwf (f : Int → Int → Int) (a b : List Int) : List Int := (List.range a.length).map fun i => f (vo a i) (vo b i)
theorem zwf_len (f : Int → Int → Int) (a b : List Int) : (zwf f a b).length = a.length := by simp [zwf]
theorem zwf_at {f : Int → Int → Int} {a b : List Int} {i : Nat} (h : i < a.length) : vo (zwf f a b) i = f (vo a i) (vo b i) := by
 unfold zwf; show List.getD _ _ _ = _; rw [List.getD_eq_getElem?_getD, List.getElem?_map, List.getElem?_range h]; rfl
theorem zw_step {f : Int → Int → Int} {a b x : List Int} {k : Nat} (hk : k < a.length) (hx : x.length = a.length) (h : ∀ j, j < k → vo x j = f (vo a j) (vo b j)) : (x.set k (f (vo a k) (vo b k))).length = a.length ∧ ∀ j, j < k + 1 → vo (x.set k (f (vo a k) (vo b k))) j = f (vo a j) (vo b j) := by
 refine ⟨by simp [hx], fun j hj => ?_⟩; rw [vo_set]; by_cases e : k = j
 ·subst e; rw [if_pos ⟨rfl, by omega⟩]
 ·rw [if_neg (fun c => e c.1)]; exact h j (by omega)
theorem zw_end {f : Int → Int → Int} {a b x : List Int} {k : Nat} (hk : a.length ≤ k) (hx : x.length = a.length) (h : ∀ j, j < k → vo x j = f (vo a j) (vo b j)) : x = zwf f a b :=
 vo_ext (by rw [hx, zwf_len]) fun i hi => by rw [h i (by omega), zwf_at (by omega)]
theorem v_pairwise {op : Int → Int → (Int → Prop) → Prop} {f : Int → Int → Int} {a b : List Int} {Q : List Int × Int → Prop} (hop : ∀ x y R, R (f x y) → op x y R) (hl : a.length ≤ LB)
  (h0 : a.length ≠ b.length → Q ([], 4)) (h1 : a.length = b.length → Q (zwf f a b, 0)) : V_pairwise op a b Q := by
 unfold LB at hl; refine ⟨fun e => h0 (by omega), fun e => ⟨⟨by omega, by omega, by omega⟩, fun x z => ∃ k : Nat, z = k ∧ k ≤ a.length ∧ x.length = a.length ∧ ∀ j, j < k → vo x j = f (vo a j) (vo b j), fun x z => (a.length - z).toNat, ⟨0, rfl, Nat.zero_le _, by simp, fun j hj => absurd hj (Nat.not_lt_zero _)⟩, ?_⟩⟩; rintro x _ ⟨k, rfl, hk, hx, hv⟩; dsimp only; rw [gi_nat, gi_nat]; refine ⟨fun hlt => ⟨⟨by omega, by omega⟩, ⟨by omega, by omega⟩, hop _ _ _ ?_⟩, fun hge => by rw [zw_end (by omega) hx hv]; exact h1 (by omega)⟩; obtain ⟨s1, s2⟩ := zw_step (f := f) (a := a) (b := b) (k := k) (by omega) hx hv; exact ⟨⟨by omega, by omega⟩, ⟨by omega, by omega⟩, ⟨k + 1, by push_cast; rfl, by omega, s1, s2⟩, by omega⟩
def esub (p m : Nat) (x y : Int) : Int := ((fadd p m (inE (p ^ m) x) (fneg p m (inE (p ^ m) y)) : Nat) : Int)
section
variable {F : GFv} {p m v g : Nat}
theorem v_wSub (K : GFk F p m v g) {a b : List Int} {Q : List Int × Int → Prop} (hl : a.length ≤ LB) (h0 : a.length ≠ b.length → Q ([], 4)) (h1 : a.length = b.length → Q (zwf (esub p m) a b, 0)) : V_wSub F a b Q :=
 v_pairwise (fun x y R hR => v_Sub K hR) hl h0 h1
end
section
variable {F : GFv} {p m v g : Nat}
end
section
variable {P M : Int} {mf : List Int} {p m v : Nat}
end
end Go.Proofs.Ytcmfjjbbcfddpaa
set_option linter.unusedVariables false
set_option linter.unusedSimpArgs false
namespace Go.Proofs.Ytcmfjjbbcfddpaa
section
variable {P M : Int} {mf : List Int} {p m v : Nat}
end
section
variable {F : GFv} {p m v g : Nat}
end
theorem i64N {n : Nat} (h : n ≤ 9223372036854775807) : I64 (n : Int) := ⟨by omega, by omega⟩
theorem le_divN {a b t : Nat} (hb : 0 < b) : a ≤ t / b ↔ a * b ≤ t := Nat.le_div_iff_mul_le hb
theorem v_times {a b t : Nat} {Q : Int × Int → Prop} (hb : 0 < b) (ht : t ≤ 9223372036854775807) (h0 : t < a * b → Q (0, 8)) (h1 : a * b ≤ t → Q (((a * b : Nat) : Int), 0)) : V_times a b t Q := by
 have hd : t / b ≤ t := Nat.div_le_self _ _; have hl := le_divN (a := a) (b := b) (t := t) hb; refine ⟨⟨by omega, ?_⟩, fun c => ?_, fun c => ?_⟩
 ·rw [tdivN]; exact i64N (Nat.le_trans hd ht)
 ·rw [tdivN] at c; exact h0 (by omega)
 ·rw [tdivN] at c; have := hl.1 (by omega); rw [← Int.natCast_mul]; exact ⟨⟨by omega, by omega⟩, h1 this⟩
def cnS (q n t : Nat) : Int × Int := if q ^ n ≤ t then (((q ^ n : Nat) : Int), 0) else (0, 8)
theorem v_Exp {q n t : Nat} {Q : Int × Int → Prop} (hq : 2 ≤ q) (hn : n ≤ 1000) (h1t : 1 ≤ t) (ht : t ≤ 9223372036854775807) (h : Q (cnS q n t)) : V_Exp q n t Q := by
 refine ⟨fun e => absurd e (by omega), fun _ => ⟨fun e => absurd e (by omega), fun _ => ⟨fun e => absurd e (by omega), fun _ => ⟨fun e => absurd e (by omega), fun _ => ?_⟩⟩⟩⟩; refine ⟨fun z => z = (n : Int), ⟨fun e => absurd e (by omega), fun _ => rfl⟩, ?_⟩; rintro _ rfl; refine v_times (a := 1) (b := 1) (t := t) (by omega) ht (fun e => absurd e (by omega)) fun _ => ?_; refine ⟨fun r e => (r, e) = cnS q n t, ?_, fun r e hre => by rw [hre]; exact h⟩; refine ⟨fun z r e => ∃ i : Nat, i ≤ n ∧ z = ((n - i : Nat) : Int) ∧ ((r = ((q ^ i : Nat) : Int) ∧ e = 0 ∧ q ^ i ≤ t) ∨ (r = 0 ∧ e = 8 ∧ t < q ^ i)), fun z r e => z.toNat, ⟨0, Nat.zero_le _, rfl, .inl ⟨rfl, rfl, by simpa using h1t⟩⟩, ?_⟩; rintro z r e ⟨i, hi, rfl, hre⟩; dsimp only; refine ⟨fun hz => ⟨fun he => ?_, fun he => ?_⟩, fun hz => ?_⟩
 ·obtain ⟨rfl, _, hle⟩ | ⟨_, rfl, _⟩ := hre
  ·refine v_times (a := q ^ i) (b := q) (t := t) (by omega) ht (fun e => ?_) fun e => ?_
   ·exact ⟨⟨by omega, by omega⟩, ⟨i + 1, by omega, by omega, .inr ⟨rfl, rfl, by rw [Nat.pow_succ]; exact e⟩⟩, by omega⟩
   ·exact ⟨⟨by omega, by omega⟩, ⟨i + 1, by omega, by omega, .inl ⟨by rw [Nat.pow_succ], rfl, by rw [Nat.pow_succ]; exact e⟩⟩, by omega⟩
  ·omega
 ·obtain ⟨_, rfl, _⟩ | ⟨rfl, rfl, hlt⟩ := hre
  ·omega
  ·have := Nat.pow_le_pow_right (n := q) (by omega) hi; unfold cnS; rw [if_neg (by omega)]
 ·obtain rfl : i = n := by omega
  obtain ⟨rfl, rfl, hle⟩ | ⟨rfl, rfl, hlt⟩ := hre
  ·unfold cnS; rw [if_pos hle]
  ·unfold cnS; rw [if_neg (by omega)]
def cW (q : Nat) (n : Int) : Int × Int := if n < 0 ∨ 64 < n then (0, 6) else cnS q n.toNat 65536
theorem v_Count {F : GFv} {p m v g : Nat} (K : GFk F p m v g) {n : Int} {Q : Int × Int → Prop} (h : Q (cW (p ^ m) n)) : V_Count F n Q := by
 have hq := K.fv.q; have h2 := K.fv.ring.q2; unfold cW at h; refine ⟨fun e => ?_, fun e => ⟨fun e2 => ?_, fun e2 => ?_⟩⟩
 ·rw [if_pos (.inl e)] at h; exact h
 ·rw [if_pos (.inr e2)] at h; exact h
 ·rw [if_neg (by omega)] at h; show V_Exp F.q n 65536 _; rw [K.q, show n = ((n.toNat : Nat) : Int) by omega]; exact v_Exp (t := 65536) h2 (by omega) (by omega) (by omega) h
theorem v_rCount {P M : Int} {mf : List Int} {p m v : Nat} (F : FV P M mf p m v) {n : Int} {Q : Int × Int → Prop} (h : Q (cW (p ^ m) n)) : V_rCount P M mf n Q := by
 have hq := F.q; have h2 := F.ring.q2; unfold cW at h; refine ⟨fun e => ?_, fun e => ⟨fun e2 => ?_, fun e2 => ?_⟩⟩
 ·rw [if_pos (.inl e)] at h; exact h
 ·rw [if_pos (.inr e2)] at h; exact h
 ·rw [if_neg (by omega)] at h; refine v_rOrder ?_; rw [F.ord]; obtain ⟨k, rfl⟩ : ∃ k : Nat, n = k := ⟨n.toNat, by omega⟩
  generalize p ^ m = q at *
  refine ⟨fun z i => ∃ j : Nat, i = j ∧ j ≤ k ∧ z = ((q ^ j : Nat) : Int) ∧ q ^ j ≤ 65536, fun z i => (k - i).toNat, ⟨0, rfl, Nat.zero_le _, rfl, by simp⟩, ?_⟩; rintro _ _ ⟨j, rfl, hj, rfl, hle⟩; have hl := le_divN (a := q ^ j) (b := q) (t := 65536) (by omega); have hdl : 65536 / q ≤ 65536 := Nat.div_le_self _ _; have ed : (65536 : Int).tdiv (q : Int) = ((65536 / q : Nat) : Int) := tdivN 65536 q; dsimp only; rw [ed]; refine ⟨fun hlt => ⟨⟨by omega, i64N (Nat.le_trans hdl (by decide))⟩, fun c => ?_, fun c => ?_⟩, fun hge => ?_⟩
  ·have : ¬ q ^ j * q ≤ 65536 := fun e => by have := hl.2 e; omega
   have hm := Nat.pow_le_pow_right (n := q) (by omega) (show j + 1 ≤ k by omega); rw [Nat.pow_succ] at hm; unfold cnS at h; rw [if_neg (by simp only [Int.toNat_natCast]; omega)] at h; exact h
  ·have := hl.1 (by omega); rw [← Int.natCast_mul]; exact ⟨⟨by omega, by omega⟩, ⟨by omega, by omega⟩, ⟨j + 1, by push_cast; rfl, by omega, by rw [Nat.pow_succ], by rw [Nat.pow_succ]; exact this⟩, by omega⟩
  ·obtain rfl : j = k := by omega
   unfold cnS at h; rw [if_pos (by simp only [Int.toNat_natCast]; exact hle)] at h; exact h
def hv (q : Nat) : List Int → Int
  | [] => 0
  | x :: l => x * ((q ^ l.length : Nat) : Int) + hv q l
def Dig (q : Nat) (l : List Int) : Prop := ∀ x ∈ l, 0 ≤ x ∧ x < (q : Int)
theorem hv_bd {q : Nat} : ∀ {l : List Int}, Dig q l → 0 ≤ hv q l ∧ hv q l < ((q ^ l.length : Nat) : Int)
 | [], _ => by simp [hv]
 | x :: l, h => by
  have h1 := hv_bd (l := l) fun y hy => h y (List.mem_cons_of_mem _ hy); obtain ⟨h2, h3⟩ := h x List.mem_cons_self; unfold hv; simp only [List.length_cons, Nat.pow_succ]; generalize hS : (q ^ l.length : Nat) = S at *
  have e0 : 0 ≤ x * (S : Int) := Int.mul_nonneg h2 (by omega); have e1 : (x + 1) * (S : Int) ≤ (q : Int) * (S : Int) := Int.mul_le_mul_of_nonneg_right (by omega) (by omega); rw [Int.add_mul, Int.one_mul] at e1; rw [Int.natCast_mul, Int.mul_comm (S : Int) (q : Int)]; omega
theorem hv_take {q : Nat} {l : List Int} {k : Nat} (hk : k < l.length) : hv q (l.take (k + 1)) = hv q (l.take k) * (q : Int) + vo l k := by
 induction l generalizing k with
 | nil => simp at hk
 | cons x l ih =>
  cases k with
  | zero => simp [hv, vo]
  | succ k =>
   simp only [List.length_cons] at hk; have hk' : k < l.length := by omega
   have h1 := ih hk'; rw [List.take_succ_cons, List.take_succ_cons]; unfold hv; rw [h1]; have e1 : (l.take (k + 1)).length = k + 1 := by rw [List.length_take]; omega
   have e2 : (l.take k).length = k := by rw [List.length_take]; omega
   have e3 : vo (x :: l) (k + 1) = vo l k := rfl; rw [e1, e2, e3, Nat.pow_succ, Int.natCast_mul, Int.add_mul, ← Int.mul_assoc]; omega
theorem cl_dig {q : Nat} (hq : 0 < q) (l : List Int) : Dig q (cl q l) := by
 intro x hx; obtain ⟨y, _, rfl⟩ := List.mem_map.1 hx; have := inE_lt hq y; exact ⟨by omega, by omega⟩
theorem dig_take {q : Nat} {l : List Int} (h : Dig q l) (k : Nat) : Dig q (l.take k) := fun x hx => h x (List.mem_of_mem_take hx)
theorem dig_at {q : Nat} (hq : 0 < q) {l : List Int} (h : Dig q l) (i : Nat) : 0 ≤ vo l i ∧ vo l i < (q : Int) := by
 by_cases hi : i < l.length
 ·have : vo l i ∈ l := by unfold vo; rw [List.getD_eq_getElem?_getD, List.getElem?_eq_getElem hi]; exact List.getElem_mem hi
  exact h _ this
 ·rw [vo_hi (by omega)]; omega
theorem hv_step {q n : Nat} (hq : 2 ≤ q) {l : List Int} (hd : Dig q l) (hn : l.length = n) (hle : q ^ n ≤ 65536) {k : Nat} (hk : k < l.length) :
    (0 ≤ hv q (l.take k) ∧ hv q (l.take k) ≤ 65536) ∧ (0 ≤ hv q (l.take k) * (q : Int) ∧ hv q (l.take k) * (q : Int) ≤ 65536) ∧ (0 ≤ hv q (l.take k) * (q : Int) + vo l k ∧ hv q (l.take k) * (q : Int) + vo l k ≤ 65536) := by
  have h1 := hv_bd (dig_take hd k)
  have h2 := hv_bd (dig_take hd (k + 1))
  rw [hv_take hk] at h2
  have e1 : (l.take (k + 1)).length = k + 1 := by rw [List.length_take]; omega
  have e2 : (l.take k).length = k := by rw [List.length_take]; omega
  rw [e1] at h2; rw [e2] at h1
  have p1 := Nat.pow_le_pow_right (n := q) (by omega) (show k + 1 ≤ n by omega)
  have p2 := Nat.pow_le_pow_right (n := q) (by omega) (show k ≤ n by omega)
  have d := dig_at (by omega) hd k
  have e0 : 0 ≤ hv q (l.take k) * (q : Int) := Int.mul_nonneg h1.1 (by omega)
  refine ⟨⟨h1.1, by omega⟩, ⟨e0, by omega⟩, by omega, by omega⟩
def ixS (q : Nat) (l : List Int) : Int × Int := if (cW q l.length).2 = 0 then (hv q (cl q l), 0) else (0, (cW q l.length).2)
theorem cW_ok {q : Nat} {n : Nat} (h : (cW q n).2 = 0) : n ≤ 64 ∧ q ^ n ≤ 65536 ∧ cW q n = (((q ^ n : Nat) : Int), 0) := by
 unfold cW cnS at *
 split at h
 ·simp at h
 ·rename_i c
  rw [if_neg c]; simp only [Int.toNat_natCast] at *
  split at h
  ·rename_i d; rw [if_pos d]; exact ⟨by omega, d, rfl⟩
  ·simp at h
theorem v_Index {F : GFv} {p m v g : Nat} (K : GFk F p m v g) {l : List Int} {Q : Int × Int → Prop} (hl : l.length ≤ LB) (h : Q (ixS (p ^ m) l)) : V_Index F l Q := by
 have hq2 := K.fv.ring.q2; refine v_Count K ?_; have hq := K.q; have hq256 := K.fv.q; unfold ixS at h; generalize hc : cW (p ^ m) l.length = c at h ⊢; obtain ⟨c1, c2⟩ := c; refine ⟨fun e => by rw [if_neg e] at h; exact h, fun e => ?_⟩; have e : c2 = 0 := by simpa using e
 rw [if_pos e] at h; obtain ⟨hn, hle, _⟩ := cW_ok (q := p ^ m) (n := l.length) (by rw [hc]; exact e); refine v_Clean K hl ?_; have hcl := cl_len (p ^ m) l; have hd := cl_dig (by omega) l (q := p ^ m); generalize p ^ m = q at *
 generalize cl q l = d at *
 refine ⟨fun z i => ∃ k : Nat, i = k ∧ k ≤ d.length ∧ z = hv q (d.take k), fun z i => (d.length - i).toNat, ⟨0, rfl, Nat.zero_le _, rfl⟩, ?_⟩; rintro _ _ ⟨k, rfl, hk, rfl⟩; dsimp only; rw [gi_nat]; refine ⟨fun hlt => ⟨⟨by omega, by omega⟩, ?_⟩, fun hge => by rw [List.take_of_length_le (by omega)]; exact h⟩; obtain ⟨s1, s2, s3⟩ := hv_step hq2 hd hcl hle (k := k) (by omega); show I64 (_ * F.q) ∧ _; rw [hq]; exact ⟨⟨by omega, by omega⟩, ⟨by omega, by omega⟩, ⟨by omega, by omega⟩, ⟨k + 1, by push_cast; rfl, by omega, (hv_take (by omega)).symm⟩, by omega⟩
theorem cl_of_dig {q : Nat} {l : List Int} (h : Dig q l) : cl q l = l := by
 unfold cl
 conv => rhs; rw [← List.map_id l]
 exact List.map_congr_left fun x hx => inE_is (h x hx)
end Go.Proofs.Ytcmfjjbbcfddpaa
set_option linter.unusedSimpArgs false
set_option linter.unusedVariables false
set_option maxRecDepth 4000
set_option maxHeartbeats 4000000
namespace Go.Proofs.Ytcmfjjbbcfddpaa
open Go.RowKit
def V_rBinomial (n : Int) (k : Int) (Q : Int × Int → Prop) : Prop :=
  ((n < (0 : Int)) → (Q ((0 : Int), (6 : Int)))) ∧ (¬ (n < (0 : Int)) → ((((64 : Int) < n) → (Q ((0 : Int), (6 : Int)))) ∧ (¬ ((64 : Int) < n) → (((k < (0 : Int)) → (Q ((0 : Int), (0 : Int)))) ∧ (¬ (k < (0 : Int)) → (((n < k) → (Q ((0 : Int), (0 : Int)))) ∧ (¬ (n < k) → ((I64 (n + (1 : Int))) ∧ ((0 ≤ (n + (1 : Int)) ∧ (n + (1 : Int)) * 8 ≤ 281474976710656 ∧ (n + (1 : Int)) ≤ 281474976710656) ∧ ((0 ≤ (0 : Int) ∧ (0 : Int) < ((n + (1 : Int)).toNat : Nat)) ∧ (∃ (I28 : List Int → Int → Prop) (μ29 : List Int → Int → Nat), I28 (si (List.replicate (n + (1 : Int)).toNat (0 : Int)) (0 : Int) (1 : Int)) (1 : Int) ∧ ∀ (x26 : List Int) (z27 : Int), (I28 x26 z27 → (((z27 ≤ n) → (∃ (I38 : List Int → Int → Prop) (μ39 : List Int → Int → Nat), I38 x26 z27 ∧ ∀ (x36 : List Int) (z37 : Int), (I38 x36 z37 → ((((1 : Int) ≤ z37) → ((0 ≤ z37 ∧ z37 < ((n + (1 : Int)).toNat : Nat)) ∧ ((I64 (z37 - (1 : Int))) ∧ ((0 ≤ (z37 - (1 : Int)) ∧ (z37 - (1 : Int)) < ((n + (1 : Int)).toNat : Nat)) ∧ ((I64 ((gi x36 z37) + (gi x36 (z37 - (1 : Int))))) ∧ ((0 ≤ z37 ∧ z37 < ((n + (1 : Int)).toNat : Nat)) ∧ ((I64 (z37 - (1 : Int))) ∧ (I38 (si x36 z37 ((gi x36 z37) + (gi x36 (z37 - (1 : Int))))) (z37 - (1 : Int)) ∧ μ39 (si x36 z37 ((gi x36 z37) + (gi x36 (z37 - (1 : Int))))) (z37 - (1 : Int)) < μ39 x36 z37)))))))) ∧ (¬ ((1 : Int) ≤ z37) → ((I64 (z27 + (1 : Int))) ∧ (I28 x36 (z27 + (1 : Int)) ∧ μ29 x36 (z27 + (1 : Int)) < μ29 x26 z27))))))) ∧ (¬ (z27 ≤ n) → ((0 ≤ k ∧ k < ((n + (1 : Int)).toNat : Nat)) ∧ (Q ((gi x26 k), (0 : Int))))))))))))))))))
theorem ok_rBinomial {w : World} {Q : Int × Int → Prop} {n : Int} {k : Int}  (hv : V_rBinomial n k Q) :
   Calls Try.prog 46 #[.int .i64 n, .int .i64 k] w fun e w' => ∃ v Qr, e = .returned v ∧ w.grownBy w' none ∧ Rows w.heap.size none w' Qr ∧ News w.heap.size Qr ∧ ∃ (r0 : Int) (r1 : Int), v = .tuple #[.int .i64 r0, .int .i64 r1] ∧ Qr = [] ∧ Q (r0, r1) := by
 refine calls_swap <| calls_of_W (vs := [.int .i64 n, .int .i64 k]) [4, 5] XF46 rfl rfl rfl rfl ?_; have hS := St.start w; unfold V_rBinomial at hv; refine W.seq <| W.region <| WL.assign rfl rfl <| WL.assign rfl rfl <| WL.done <| W.seq <| W.seq <| W.region <| WL.move rfl rfl <| WL.lssD rfl rfl rfl <| WL.move rfl rfl ?_; by_cases g11 : n < (0 : Int)
 ·have hv := hv.1 g11; rw [decide_eq_true g11]; refine WL.pass rfl rfl rfl <| WL.pass rfl rfl rfl <| WL.pick rfl rfl rfl <| WL.done <| W.condT rfl <| W.seq <| W.region <| WL.assign rfl rfl <| WL.assign rfl rfl <| WL.done <| W.ret <| ⟨_, rfl, Fin.nil ?_⟩
  exact ⟨_, hS.ext, (hS.pick [] rfl).rows, News.of (hS.pick [] rfl).rows rfl, ⟨(0 : Int), (6 : Int), rfl, rfl, hv⟩⟩
 have hv := hv.2 g11; rw [decide_eq_false g11]; refine WL.take rfl <| WL.move rfl rfl <| WL.take rfl <| WL.gtrD rfl rfl rfl <| WL.pick rfl rfl rfl <| WL.done <| W.cond2 rfl (fun c12 => ?_) (fun c12 => ?_)
 ·have hv := hv.1 (of_decide_eq_true c12); refine W.seq <| W.region <| WL.assign rfl rfl <| WL.assign rfl rfl <| WL.done <| W.ret <| ⟨_, rfl, Fin.nil ?_⟩
  exact ⟨_, hS.ext, (hS.pick [] rfl).rows, News.of (hS.pick [] rfl).rows rfl, ⟨(0 : Int), (6 : Int), rfl, rfl, hv⟩⟩
 have hv := hv.2 (of_decide_eq_false c12); refine W.skip <| W.seq <| W.seq <| W.region <| WL.move rfl rfl <| WL.lssD rfl rfl rfl <| WL.move rfl rfl ?_; by_cases g13 : k < (0 : Int)
 ·have hv := hv.1 g13; rw [decide_eq_true g13]; refine WL.pass rfl rfl rfl <| WL.pass rfl rfl rfl <| WL.pass rfl rfl rfl <| WL.pick rfl rfl rfl <| WL.done <| W.condT rfl <| W.seq <| W.region <| WL.assign rfl rfl <| WL.assign rfl rfl <| WL.done <| W.ret <| ⟨_, rfl, Fin.nil ?_⟩
  exact ⟨_, hS.ext, (hS.pick [] rfl).rows, News.of (hS.pick [] rfl).rows rfl, ⟨(0 : Int), (0 : Int), rfl, rfl, hv⟩⟩
 have hv := hv.2 g13; rw [decide_eq_false g13]; refine WL.take rfl <| WL.move rfl rfl <| WL.take rfl <| WL.move rfl rfl <| WL.take rfl <| WL.gtrD rfl rfl rfl <| WL.pick rfl rfl rfl <| WL.done <| W.cond2 rfl (fun c14 => ?_) (fun c14 => ?_)
 ·have hv := hv.1 (of_decide_eq_true c14); refine W.seq <| W.region <| WL.assign rfl rfl <| WL.assign rfl rfl <| WL.done <| W.ret <| ⟨_, rfl, Fin.nil ?_⟩
  exact ⟨_, hS.ext, (hS.pick [] rfl).rows, News.of (hS.pick [] rfl).rows rfl, ⟨(0 : Int), (0 : Int), rfl, rfl, hv⟩⟩
 have hv := hv.2 (of_decide_eq_false c14); refine W.skip <| W.seq <| W.region <| WL.move rfl rfl ?_; obtain ⟨o15, hv⟩ := hv; refine WL.add (r := (n + (1 : Int))) rfl rfl (wr o15) rfl ?_; obtain ⟨o16, hv⟩ := hv; refine SL.make (J := (n + (1 : Int))) hS XU22 XE3 rfl rfl o16 (made_is _) rfl ?_; intro A17 w18 hS; refine WL.assign rfl rfl <| WL.done <| W.seq <| W.region <| WL.move rfl rfl ?_; obtain ⟨o20, hv⟩ := hv; refine SL.index XU22 XE3 (hS.rd (i := 0) rfl) rfl rfl o20 rfl <| SL.store (cs' := is (si (List.replicate (n + (1 : Int)).toNat (0 : Int)) (0 : Int) (1 : Int))) 0 (0 : Int).toNat hS rfl XE3 rfl rfl rfl (is_lt (hS.rd (i := 0) rfl) o20) (is_set _ _ _) ?_; intro w21 hS; refine WL.done <| W.seq <| W.seq <| W.region <| WL.assign rfl rfl <| WL.done <| W.block ?_; obtain ⟨I28, μ29, hv, hk62⟩ := hv; refine W.loop (σ := List Int × Int) (fun q w1 => match q with | (x26, z27) => I28 x26 z27 ∧ St TT w none w1 [.row 3 1 A17 ((n + (1 : Int)).toNat) ((n + (1 : Int)).toNat) (is x26)]) (fun q => match q with | (x26, z27) => [(0, .int .i64 n), (1, .int .i64 k), (4, .int .i64 (0 : Int)), (5, .int .i64 (0 : Int)), (6, .slice A17 ((n + (1 : Int)).toNat) ((n + (1 : Int)).toNat)), (7, .int .i64 z27)]) (fun q => match q with | (x26, z27) => μ29 x26 z27) (si (List.replicate (n + (1 : Int)).toNat (0 : Int)) (0 : Int) (1 : Int), (1 : Int)) ⟨hv, hS⟩ ⟨rfl, rfl, rfl, rfl, rfl, rfl, trivial⟩ ?_; rintro ⟨x26, z27⟩ w30 ⟨hv, hS⟩; have hv := hk62 x26 z27 hv; refine W.seq <| W.seq <| W.region <| WL.move rfl rfl <| WL.move rfl rfl <| WL.leqD rfl rfl rfl <| WL.done <| W.cond2 rfl (fun c31 => ?_) (fun c31 => ?_)
 ·have hv := hv.1 (of_decide_eq_true c31); refine W.skip <| W.seq <| W.block <| W.seq <| W.region <| WL.move rfl rfl <| WL.assign rfl rfl <| WL.done <| W.block ?_; obtain ⟨I38, μ39, hv, hk60⟩ := hv; refine W.loop (σ := List Int × Int) (fun q w1 => match q with | (x36, z37) => I38 x36 z37 ∧ St TT w none w1 [.row 3 1 A17 ((n + (1 : Int)).toNat) ((n + (1 : Int)).toNat) (is x36)]) (fun q => match q with | (x36, z37) => [(0, .int .i64 n), (1, .int .i64 k), (4, .int .i64 (0 : Int)), (5, .int .i64 (0 : Int)), (6, .slice A17 ((n + (1 : Int)).toNat) ((n + (1 : Int)).toNat)), (7, .int .i64 z27), (8, .int .i64 z37), (29, .bool (decide (z27 ≤ n)))]) (fun q => match q with | (x36, z37) => μ39 x36 z37) (x26, z27) ⟨hv, hS⟩ ⟨rfl, rfl, rfl, rfl, rfl, rfl, rfl, rfl, trivial⟩ ?_; rintro ⟨x36, z37⟩ w40 ⟨hv, hS⟩; have hv := hk60 x36 z37 hv; refine W.seq <| W.seq <| W.region <| WL.move rfl rfl <| WL.geqD rfl rfl rfl <| WL.done <| W.cond2 rfl (fun c41 => ?_) (fun c41 => ?_)
  ·have hv := hv.1 (of_decide_eq_true c41); refine W.skip <| W.seq <| W.block ?_; obtain ⟨o45, hv⟩ := hv; obtain ⟨o50, hv⟩ := hv; obtain ⟨o52, hv⟩ := hv; refine W.drawV 9 [⟨[], [6], true⟩, ⟨[], [8], true⟩, ⟨[0, 1], [], true⟩, ⟨[2], [], false⟩, ⟨[], [6], true⟩, ⟨[], [8], true⟩, ⟨[5], [], true⟩, ⟨[4, 6], [], true⟩, ⟨[7], [], false⟩] [[(6, .slice A17 ((n + (1 : Int)).toNat) ((n + (1 : Int)).toNat))], [(8, .int .i64 z37)], [], [], [(6, .slice A17 ((n + (1 : Int)).toNat) ((n + (1 : Int)).toNat))], [(8, .int .i64 z37)], [], [], []] [(37, .slice A17 ((n + (1 : Int)).toNat) ((n + (1 : Int)).toNat)), (38, .int .i64 z37), (39, .pointer (some ((adOf A17).add z37.toNat))), (40, .int .i64 (gi x36 z37)), (41, .slice A17 ((n + (1 : Int)).toNat) ((n + (1 : Int)).toNat)), (42, .int .i64 z37), (43, .int .i64 (z37 - (1 : Int))), (44, .pointer (some ((adOf A17).add ((z37 - (1 : Int)).toNat)))), (45, .int .i64 (gi x36 (z37 - (1 : Int))))] Try.mixed (by kernel_rfl) rfl rfl ?_ ?_
   ·refine ⟨⟨rfl, ⟨rfl, trivial⟩, fun _ _ _ => WL.move rfl rfl <| WL.done ⟨rfl, rfl⟩⟩, ⟨rfl, ⟨rfl, trivial⟩, fun _ _ _ => WL.move rfl rfl <| WL.done ⟨rfl, rfl⟩⟩, ⟨rfl, trivial, fun _ _ _ => SL.index XU22 XE3 (hS.rd (i := 0) rfl) rfl rfl o45 rfl <| WL.done ⟨rfl, rfl⟩⟩, ⟨rfl, trivial, fun _ hE _ => have hS := hS.grow (hE rfl); WL.load XU3 rfl rfl (Rd.gi (hS.rd (i := 0) rfl) o45) rfl <| WL.done ⟨rfl, ext_refl _⟩⟩, ⟨rfl, ⟨rfl, trivial⟩, fun _ _ _ => WL.move rfl rfl <| WL.done ⟨rfl, rfl⟩⟩, ⟨rfl, ⟨rfl, trivial⟩, fun _ _ _ => WL.move rfl rfl <| WL.done ⟨rfl, rfl⟩⟩, ⟨rfl, trivial, fun _ _ _ => WL.sub (r := (z37 - (1 : Int))) rfl rfl (wr o50) rfl <| WL.done ⟨rfl, rfl⟩⟩, ⟨rfl, trivial, fun _ _ _ => SL.index XU22 XE3 (hS.rd (i := 0) rfl) rfl rfl o52 rfl <| WL.done ⟨rfl, rfl⟩⟩, ⟨rfl, trivial, fun _ hE _ => have hS := hS.grow (hE rfl); WL.load XU3 rfl rfl (Rd.gi (hS.rd (i := 0) rfl) o52) rfl <| WL.done ⟨rfl, ext_refl _⟩⟩, trivial⟩
   intro w54 hT; have hS := hS.grow hT; refine WA.step1 9 (by decide +kernel) rfl ?_; obtain ⟨o55, hv⟩ := hv; refine WL.add (r := ((gi x36 z37) + (gi x36 (z37 - (1 : Int))))) rfl rfl (wr o55) rfl <| WL.done <| WA.step1 10 (by decide +kernel) rfl ?_; obtain ⟨o56, hv⟩ := hv; refine SL.index XU22 XE3 (hS.rd (i := 0) rfl) rfl rfl o56 rfl <| WL.done <| WA.step1 11 (by decide +kernel) rfl <| SL.store (cs' := is (si x36 z37 ((gi x36 z37) + (gi x36 (z37 - (1 : Int)))))) 0 z37.toNat hS rfl XE3 rfl rfl rfl (is_lt (hS.rd (i := 0) rfl) o56) (is_set _ _ _) ?_; intro w57 hS; refine WL.done <| WA.done (by decide +kernel) <| W.region <| WL.move rfl rfl ?_; obtain ⟨o58, hv⟩ := hv; refine WL.sub (r := (z37 - (1 : Int))) rfl rfl (wr o58) rfl <| WL.assign rfl rfl <| WL.done ?_; exact ⟨(si x36 z37 ((gi x36 z37) + (gi x36 (z37 - (1 : Int)))), (z37 - (1 : Int))), ⟨rfl, rfl, rfl, rfl, rfl, rfl, rfl, rfl, trivial⟩, hv.2, rfl, hv.1, hS⟩
  have hv := hv.2 (of_decide_eq_false c41); refine W.exit <| W.region <| WL.move rfl rfl ?_; obtain ⟨o59, hv⟩ := hv; refine WL.add (r := (z27 + (1 : Int))) rfl rfl (wr o59) rfl <| WL.assign rfl rfl <| WL.done ?_; exact ⟨(x36, (z27 + (1 : Int))), ⟨rfl, rfl, rfl, rfl, rfl, rfl, trivial⟩, hv.2, rfl, hv.1, hS⟩
 have hv := hv.2 (of_decide_eq_false c31); refine W.exit <| W.seq <| W.region <| WL.move rfl rfl <| WL.move rfl rfl ?_; obtain ⟨o61, hv⟩ := hv; refine SL.index XU22 XE3 (hS.rd (i := 0) rfl) rfl rfl o61 rfl <| WL.load XU3 rfl rfl (Rd.gi (hS.rd (i := 0) rfl) o61) rfl <| WL.assign rfl rfl <| WL.assign rfl rfl <| WL.done <| W.ret <| ⟨_, rfl, Fin.nil ?_⟩
 exact ⟨_, hS.ext, (hS.pick [] rfl).rows, News.of (hS.pick [] rfl).rows rfl, ⟨(gi x26 k), (0 : Int), rfl, rfl, hv⟩⟩
end Go.Proofs.Ytcmfjjbbcfddpaa
set_option linter.unusedVariables false
set_option linter.unusedSimpArgs false
namespace Go.Proofs.Ytcmfjjbbcfddpaa
theorem choose_symm_add : ∀ a b : Nat, choose (a + b) a = choose (a + b) b
  | 0, b => by rw [Nat.zero_add, choose_zero, choose_self]
  | a + 1, 0 => by rw [Nat.add_zero, choose_zero, choose_self]
  | a + 1, b + 1 => by
    have h1 := choose_symm_add a (b + 1)
    have h2 := choose_symm_add (a + 1) b
    rw [show a + 1 + (b + 1) = (a + (b + 1)) + 1 by omega, choose_succ, choose_succ, h1]
    rw [show a + 1 + b = a + (b + 1) by omega] at h2
    rw [h2]; omega
theorem choose_symm {n k : Nat} (h : k ≤ n) : choose n (n - k) = choose n k := by
 have := choose_symm_add (n - k) k; rw [show n - k + k = n by omega] at this; exact this
theorem choose_pos : ∀ {n k : Nat}, k ≤ n → 0 < choose n k
 | n, 0, _ => by rw [choose_zero]; decide
 | n + 1, k + 1, h => by rw [choose_succ]; have := choose_pos (show k ≤ n by omega); omega
theorem choose_min {n k : Nat} (h : k ≤ n) : choose n (min k (n - k)) = choose n k := by
 rcases Nat.le_total k (n - k) with h1 | h1
 ·rw [Nat.min_eq_left h1]
 ·rw [Nat.min_eq_right h1, choose_symm h]
theorem choose_step (m i : Nat) : choose (m + i + 1) (i + 1) * (i + 1) = choose (m + i) i * (m + i + 1) := by
 have := choose_absorb (m + i) i; rw [← this, Nat.mul_comm]
theorem choose_red {c i s r : Nat} (hi : 0 < i) (hc : 0 < c) (h : r * i = c * s) : i / Nat.gcd c i ∣ s ∧ 0 < i / Nat.gcd c i ∧ c / Nat.gcd c i * (s / (i / Nat.gcd c i)) = r := by
  have hg : 0 < Nat.gcd c i := Nat.gcd_pos_of_pos_right _ hi
  obtain ⟨c1, hc1⟩ := Nat.gcd_dvd_left c i
  obtain ⟨i1, hi1⟩ := Nat.gcd_dvd_right c i
  have hcop : Nat.gcd c1 i1 = 1 := by
    have h2 := Nat.gcd_mul_left (Nat.gcd c i) c1 i1
    rw [← hc1, ← hi1] at h2
    have h3 : Nat.gcd c i * Nat.gcd c1 i1 = Nat.gcd c i * 1 := by omega
    exact Nat.eq_of_mul_eq_mul_left hg h3
  generalize Nat.gcd c i = g at *
  subst hc1; subst hi1
  rw [Nat.mul_div_cancel_left _ hg, Nat.mul_div_cancel_left _ hg]
  have hi10 : 0 < i1 := Nat.pos_of_mul_pos_left hi
  have h4 : r * i1 = c1 * s := by
    have h5 : g * (r * i1) = g * (c1 * s) := by rw [← Nat.mul_assoc, Nat.mul_comm g r, Nat.mul_assoc, h, Nat.mul_assoc]
    exact Nat.eq_of_mul_eq_mul_left hg h5
  have hd : i1 ∣ s := Nat.Coprime.dvd_of_dvd_mul_left (k := i1) (n := s) (m := c1) (by rw [Nat.Coprime, Nat.gcd_comm]; exact hcop) ⟨r, by rw [← h4, Nat.mul_comm]⟩
  refine ⟨hd, hi10, ?_⟩
  obtain ⟨t, rfl⟩ := hd
  rw [Nat.mul_div_cancel_left _ hi10]
  exact Nat.eq_of_mul_eq_mul_left hi10 (by rw [Nat.mul_comm i1 r, h4, Nat.mul_left_comm])
theorem choose_hi : ∀ n k : Nat, choose (n + 3) k ≤ 3 * 2 ^ n
 | 0, 0 => by decide
 | 0, 1 => by decide
 | 0, 2 => by decide
 | 0, 3 => by decide
 | 0, k + 4 => by rw [choose_big (by omega)]; omega
 | n + 1, 0 => by rw [choose_zero]; have := Nat.pow_pos (n := n + 1) (show 0 < 2 by decide); omega
 | n + 1, k + 1 => by
  rw [show n + 1 + 3 = (n + 3) + 1 by omega, choose_succ, Nat.pow_succ]; have := choose_hi n k; have := choose_hi n (k + 1); omega
theorem choose_row (n k : Nat) : choose n k ≤ choose (n + 1) k := by
 cases k with
 | zero => rw [choose_zero, choose_zero]; exact Nat.le_refl _
 | succ k => rw [choose_succ]; omega
theorem choose_rows (n k d : Nat) : choose n k ≤ choose (n + d) k := by
 induction d with
 | zero => exact Nat.le_refl _
 | succ d ih => exact Nat.le_trans ih (choose_row _ _)
def cB : Nat := 6917529027641081856
theorem choose_cB {n : Nat} (h : n ≤ 64) (k : Nat) : choose n k ≤ cB := by
 refine Nat.le_trans (choose_rows n k (64 - n)) ?_; rw [show n + (64 - n) = 61 + 3 by omega]; exact choose_hi 61 k
theorem nat_i64 {n : Nat} {x : Int} (h : n ≤ 9223372036854775807) (hx : x = n ∨ x = -(n : Int)) : I64 x := by
  rcases hx with rfl | rfl <;> exact ⟨by omega, by omega⟩
theorem v_cofactor {a b : Nat} {Q : Int × Int → Prop} (ha : 0 < a) (ha2 : a ≤ 9223372036854775807) (hb2 : b ≤ 9223372036854775807) (h : ∀ x : Int, Q (((Nat.gcd a b : Nat) : Int), x)) : V_cofactor a b Q := by
 refine ⟨fun z19 z20 z21 z22 => ∃ c d s t : Nat, z19 = c ∧ z20 = d ∧ 0 < c ∧ c ≤ 9223372036854775807 ∧ d ≤ 9223372036854775807 ∧ Nat.gcd c d = Nat.gcd a b ∧ ((z21 = s ∧ z22 = -(t : Int)) ∨ (z21 = -(s : Int) ∧ z22 = t)) ∧ t * c + s * d = b, fun z19 z20 z21 z22 => z20.toNat, ⟨a, b, 1, 0, rfl, rfl, ha, ha2, hb2, rfl, .inl ⟨rfl, rfl⟩, by omega⟩, ?_⟩; rintro _ _ z21 z22 ⟨c, d, s, t, rfl, rfl, hc, hc2, hd2, hg, hs, he⟩; dsimp only; refine ⟨fun hd => ?_, fun hd => ?_⟩
 ·have hd : 0 < d := by omega
  obtain ⟨q, hq⟩ : ∃ q, q = c / d := ⟨_, rfl⟩
  obtain ⟨r, hr⟩ : ∃ r, r = c % d := ⟨_, rfl⟩
  have hqr : c = d * q + r := by rw [hq, hr]; exact (Nat.div_add_mod c d).symm
  have hrd : r < d := by rw [hr]; exact Nat.mod_lt _ hd
  have hqc : q ≤ c := by rw [hq]; exact Nat.div_le_self _ _
  have e0 : (c : Int).tdiv (d : Int) = (q : Int) := by rw [tdivN, hq]
  rw [e0]; have e1 : (q : Int) * (d : Int) = ((d * q : Nat) : Int) := by rw [Int.natCast_mul, Int.mul_comm]
  rw [e1]; have e2 : (c : Int) - ((d * q : Nat) : Int) = (r : Int) := by omega
  rw [e2]; have f1 : q * t * d = t * (d * q) := by rw [Nat.mul_comm q t, Nat.mul_assoc, Nat.mul_comm q d]
  have f2 : (s + q * t) * d + t * r = b := by
   rw [Nat.add_mul, f1]; rw [hqr, Nat.mul_add] at he; omega
  have f3 : s + q * t ≤ b := Nat.le_trans (Nat.le_mul_of_pos_right _ hd) (by omega); have hgcd : Nat.gcd d r = Nat.gcd a b := by rw [← hg, hr, Nat.gcd_comm d, ← Nat.gcd_rec, Nat.gcd_comm]
  have key : ∃ z1 z2 : Int, (q : Int) * z22 = z1 ∧ (z1 = ((q * t : Nat) : Int) ∨ z1 = -((q * t : Nat) : Int)) ∧ z21 - z1 = z2 ∧ ((z22 = (t : Int) ∧ z2 = -((s + q * t : Nat) : Int)) ∨ (z22 = -(t : Int) ∧ z2 = ((s + q * t : Nat) : Int))) := by
   rcases hs with ⟨rfl, rfl⟩ | ⟨rfl, rfl⟩
   ·exact ⟨-((q * t : Nat) : Int), _, by rw [Int.mul_neg, Int.natCast_mul], .inr rfl, rfl, .inr ⟨rfl, by omega⟩⟩
   ·exact ⟨((q * t : Nat) : Int), _, by rw [Int.natCast_mul], .inl rfl, rfl, .inl ⟨rfl, by omega⟩⟩
  obtain ⟨z1, z2, k1, k2, k3, k4⟩ := key; rw [k1, k3]; refine ⟨⟨by omega, i64N (by omega)⟩, i64N (by omega), i64N (by omega), nat_i64 (n := q * t) (by omega) k2, nat_i64 (n := s + q * t) (by omega) ?_, ⟨d, r, t, s + q * t, rfl, rfl, hd, hd2, by omega, hgcd, ?_, f2⟩, by omega⟩
  ·rcases k4 with ⟨_, k⟩ | ⟨_, k⟩
   ·exact .inr k
   ·exact .inl k
  ·rcases k4 with k | k
   ·exact .inl k
   ·exact .inr k
 ·obtain rfl : d = 0 := by omega
  rw [Nat.gcd_zero_right] at hg; subst hg; exact h _
theorem v_Choose {n k : Nat} {Q : Int × Int → Prop} (hn : n ≤ 64) (hk : k ≤ 9223372036854775807) (h : Q (((choose n k : Nat) : Int), 0)) : V_Choose n k 9223372036854775807 Q := by
 unfold V_Choose; refine ⟨fun e => absurd e (by omega), fun _ => ⟨fun e => absurd e (by omega), fun _ => ⟨fun e => absurd e (by decide), fun _ => ⟨fun e => ?_, fun e => ?_⟩⟩⟩⟩
 ·rw [choose_big (by omega)] at h; exact h
 ·have hkn : k ≤ n := by omega
  have em : min (k : Int) ((n : Int) - (k : Int)) = ((min k (n - k) : Nat) : Int) := by omega
  rw [em]; have hce := choose_min hkn; have hKn : min k (n - k) ≤ n := by omega
  generalize min k (n - k) = K at *
  refine ⟨⟨by omega, by omega⟩, v_times (a := 1) (b := 1) (t := 9223372036854775807) (by omega) (by omega) (fun e => absurd e (by omega)) fun _ => ?_⟩; refine ⟨fun x y => x = ((choose n k : Nat) : Int) ∧ y = 0, ?_, fun x y ⟨hx, hy⟩ => by rw [hx, hy]; exact h⟩; refine ⟨fun c e st => ∃ i : Nat, st = (i : Int) + 1 ∧ i ≤ K ∧ e = 0 ∧ c = ((choose (n - K + i) i : Nat) : Int), fun c e st => (K + 1 - st).toNat, ⟨0, rfl, Nat.zero_le _, rfl, by rw [choose_zero]⟩, ?_⟩; rintro _ _ _ ⟨i, rfl, hi, rfl, rfl⟩; dsimp only; refine ⟨fun hlt => ⟨fun _ => ?_, fun e => absurd rfl e⟩, fun hge => ?_⟩
  ·have hc0 : 0 < choose (n - K + i) i := choose_pos (by omega); have hcb := choose_cB (n := n - K + i) (by omega) i; have hcb2 := choose_cB (n := n - K + i + 1) (by omega) (i + 1); unfold cB at hcb hcb2; have hst := choose_step (n - K) i; obtain ⟨r1, r2, r3⟩ := choose_red (c := choose (n - K + i) i) (i := i + 1) (s := n - K + i + 1) (by omega) hc0 hst; have e1 : ((i : Int) + 1) = ((i + 1 : Nat) : Int) := by omega
   rw [e1]; refine v_cofactor hc0 (by omega) (by omega) fun x => ?_; have hg : 0 < Nat.gcd (choose (n - K + i) i) (i + 1) := Nat.gcd_pos_of_pos_right _ (by omega); generalize hgg : Nat.gcd (choose (n - K + i) i) (i + 1) = g at *
   have e2 : ((n : Int) - (K : Int)) + ((i + 1 : Nat) : Int) = ((n - K + i + 1 : Nat) : Int) := by omega
   dsimp only; rw [e2, tdivN, tdivN, tdivN]; have b1 : choose (n - K + i) i / g ≤ choose (n - K + i) i := Nat.div_le_self _ _; have b2 : (i + 1) / g ≤ i + 1 := Nat.div_le_self _ _; have b3 : (n - K + i + 1) / ((i + 1) / g) ≤ n - K + i + 1 := Nat.div_le_self _ _; have b4 : 0 < (n - K + i + 1) / ((i + 1) / g) := Nat.div_pos (Nat.le_of_dvd (by omega) r1) r2; refine ⟨⟨by omega, i64N (Nat.le_trans b1 (by omega))⟩, ⟨by omega, by omega⟩, i64N (by omega), ⟨by omega, i64N (Nat.le_trans b2 (by omega))⟩, ⟨by omega, i64N (Nat.le_trans b3 (by omega))⟩, _, _, v_times (t := 9223372036854775807) b4 (by omega) (fun e => absurd e ?_) fun _ => rfl, ⟨by omega, by omega⟩, ⟨i + 1, by omega, by omega, rfl, ?_⟩, by omega⟩
   ·rw [r3]; omega
   ·rw [r3, show n - K + (i + 1) = n - K + i + 1 by omega]
  ·obtain rfl : i = K := by omega
   rw [show n - i + i = n by omega, hce]; exact ⟨rfl, rfl⟩
def bS (n k : Int) : Int × Int := if n < 0 ∨ 64 < n then (0, 6) else if k < 0 then (0, 0) else (((choose n.toNat k.toNat : Nat) : Int), 0)
theorem bS_nat {n k : Nat} (h : n ≤ 64) : bS n k = (((choose n k : Nat) : Int), 0) := by
 unfold bS; rw [if_neg (by omega), if_neg (by omega)]; rfl
theorem v_Binomial {n k : Int} {Q : Int × Int → Prop} (hk : k ≤ 9223372036854775807) (h : Q (bS n k)) : V_Binomial n k Q := by
 unfold bS at h; refine ⟨fun e => by rw [if_pos (.inl e)] at h; exact h, fun e => ⟨fun e2 => by rw [if_pos (.inr e2)] at h; exact h, fun e2 => ⟨fun e3 => ?_, fun e3 => ?_⟩⟩⟩
 ·rw [if_neg (by omega), if_pos e3] at h; exact h
 ·rw [if_neg (by omega), if_neg e3] at h; obtain ⟨a, rfl⟩ : ∃ a : Nat, n = a := ⟨n.toNat, by omega⟩
  obtain ⟨b, rfl⟩ : ∃ b : Nat, k = b := ⟨k.toNat, by omega⟩
  exact v_Choose (by omega) (by omega) h
theorem v_rBinomial {n k : Int} {Q : Int × Int → Prop} (h : Q (bS n k)) : V_rBinomial n k Q := by
 unfold bS at h; refine ⟨fun e => by rw [if_pos (.inl e)] at h; exact h, fun e => ⟨fun e2 => by rw [if_pos (.inr e2)] at h; exact h, fun e2 => ⟨fun e3 => ?_, fun e3 => ⟨fun e4 => ?_, fun e4 => ?_⟩⟩⟩⟩
 ·rw [if_neg (by omega), if_pos e3] at h; exact h
 ·rw [if_neg (by omega), if_neg e3, choose_big (by omega)] at h; exact h
 ·rw [if_neg (by omega), if_neg e3] at h; obtain ⟨a, rfl⟩ : ∃ a : Nat, n = a := ⟨n.toNat, by omega⟩
  obtain ⟨b, rfl⟩ : ∃ b : Nat, k = b := ⟨k.toNat, by omega⟩
  simp only [Int.toNat_natCast] at h; have ha : a ≤ 64 := by omega
  have hba : b ≤ a := by omega
  clear e e2 e3 e4; have en : ((a : Int) + 1).toNat = a + 1 := by omega
  rw [en]; refine ⟨⟨by omega, by omega⟩, ⟨by omega, by omega, by omega⟩, ⟨by omega, by omega⟩, fun x z => ∃ i : Nat, z = (i : Int) + 1 ∧ i ≤ a ∧ x.length = a + 1 ∧ ∀ t, t ≤ a → vo x t = ((choose i t : Nat) : Int), fun x z => (a + 1 - z).toNat, ⟨0, rfl, Nat.zero_le _, by unfold si; simp, fun t ht => ?_⟩, ?_⟩
  ·rw [show si (List.replicate (a + 1) 0) 0 1 = (List.replicate (a + 1) (0 : Int)).set 0 1 from rfl, vo_set]; cases t with
   | zero => rw [if_pos ⟨rfl, by simp⟩, choose_zero]; rfl
   | succ t => rw [if_neg (by omega), vo_rep, choose_big (by omega)]; rfl
  rintro x _ ⟨i, rfl, hi, hx, hv⟩; dsimp only; refine ⟨fun hlt => ?_, fun hge => ?_⟩
  ·refine ⟨fun y z => ∃ j : Nat, z = (j : Int) ∧ j ≤ i + 1 ∧ y.length = a + 1 ∧ ∀ t, t ≤ a → vo y t = if j < t then ((choose (i + 1) t : Nat) : Int) else ((choose i t : Nat) : Int), fun y z => z.toNat, ⟨i + 1, by push_cast; rfl, Nat.le_refl _, hx, fun t ht => ?_⟩, ?_⟩
   ·rw [hv t ht]; split
    ·rw [choose_big (by omega), choose_big (n := i + 1) (by omega)]
    ·rfl
   rintro y _ ⟨j, rfl, hj, hy, hyv⟩; dsimp only; refine ⟨fun h1 => ?_, fun h1 => ?_⟩
   ·obtain ⟨j, rfl⟩ : ∃ l, j = l + 1 := ⟨j - 1, by omega⟩
    have e1 : ((j + 1 : Nat) : Int) - 1 = (j : Int) := by omega
    rw [e1, gi_nat, gi_nat, si_nat]; have v1 := hyv (j + 1) (by omega); have v0 := hyv j (by omega); rw [if_neg (by omega)] at v1 v0; have hs : vo y (j + 1) + vo y j = ((choose (i + 1) (j + 1) : Nat) : Int) := by rw [v1, v0, choose_succ]; omega
    have hcb := choose_cB (n := i + 1) (by omega) (j + 1); unfold cB at hcb; rw [hs]; refine ⟨⟨by omega, by omega⟩, ⟨by omega, by omega⟩, ⟨by omega, by omega⟩, i64N (by omega), ⟨by omega, by omega⟩, ⟨by omega, by omega⟩, ⟨j, rfl, by omega, by rw [List.length_set, hy], fun t ht => ?_⟩, by omega⟩; rw [vo_set]; by_cases c : j + 1 = t
    ·subst c; rw [if_pos ⟨rfl, by omega⟩, if_pos (by omega)]
    ·rw [if_neg (fun q => c q.1), hyv t ht]; by_cases d : j + 1 < t
     ·rw [if_pos d, if_pos (by omega)]
     ·rw [if_neg d, if_neg (by omega)]
   ·obtain rfl : j = 0 := by omega
    refine ⟨⟨by omega, by omega⟩, ⟨i + 1, by push_cast; rfl, by omega, hy, fun t ht => ?_⟩, by omega⟩; rw [hyv t ht]; cases t with
    | zero => rw [if_neg (by omega), choose_zero, choose_zero]
    | succ t => rw [if_pos (by omega)]
  ·obtain rfl : i = a := by omega
   rw [gi_nat, hv b hba]; exact ⟨⟨by omega, by omega⟩, h⟩
theorem v_countFrom {n y k : Nat} {Q : Int → Prop} (hn : n ≤ 64) (hy : y < n) (hk : k ≤ 64) (h : Q ((choose (n - 1 - y) k : Nat) : Int)) : V_countFrom n y ((k : Int) + 1) Q := by
 refine ⟨⟨by omega, by omega⟩, ⟨by omega, by omega⟩, ⟨by omega, by omega⟩, v_Binomial (by omega) ?_⟩; rw [show (n : Int) - 1 - y = ((n - 1 - y : Nat) : Int) by omega, show (k : Int) + 1 - 1 = (k : Int) by omega, bS_nat (by omega)]; exact h
def csS (n k : Int) : Int × Int := if k < 0 ∨ n < k ∨ 64 < n then (0, 6) else (((choose n.toNat k.toNat : Nat) : Int), 0)
theorem v_countSubsets {n k : Int} {Q : Int × Int → Prop} (hk : k ≤ 9223372036854775807) (h : Q (csS n k)) : V_countSubsets n k Q := by
 unfold csS at h; refine ⟨fun e => by rw [if_pos (.inl e)] at h; exact h, fun e => ⟨fun e2 => by rw [if_pos (.inr (.inl e2))] at h; exact h, fun e2 => v_Binomial hk ?_⟩⟩; unfold bS; by_cases c : 64 < n
 ·rw [if_pos (.inr (.inr c))] at h; rw [if_pos (.inr c)]; exact h
 ·rw [if_neg (by omega)] at h; rw [if_neg (by omega), if_neg (by omega)]; exact h
end Go.Proofs.Ytcmfjjbbcfddpaa
set_option linter.unusedVariables false
set_option linter.unusedSimpArgs false
namespace Go.Proofs.Ytcmfjjbbcfddpaa
def asc (x n : Int) : List Int → Bool
  | [] => true
  | y :: s => decide (x < y ∧ y < n) && asc y n s
theorem ascE (x n y : Int) (s : List Int) : asc x n (y :: s) = (decide (x < y ∧ y < n) && asc y n s) := rfl
theorem asc_cons {x n y : Int} {s : List Int} : asc x n (y :: s) = true ↔ (x < y ∧ y < n) ∧ asc y n s = true := by
 show (decide (x < y ∧ y < n) && asc y n s) = true ↔ _; rw [Bool.and_eq_true, decide_eq_true_iff]
theorem v_isSubset {n : Int} {s : List Int} {Q : Bool → Prop} (hl : s.length ≤ 4611686018427387904) (h : Q (asc (-1) n s)) : V_isSubset n s Q := by
 refine ⟨fun x z => ∃ k : Nat, z = k ∧ k ≤ s.length ∧ asc (-1) n s = asc x n (s.drop k), fun x z => (s.length - z).toNat, ⟨0, rfl, Nat.zero_le _, rfl⟩, ?_⟩; rintro x _ ⟨k, rfl, hk, hx⟩; dsimp only; rw [gi_nat]; refine ⟨fun hlt => ?_, fun hge => ?_⟩
 ·rw [drop_vo (by omega), ascE] at hx; refine ⟨⟨by omega, by omega⟩, fun c => ?_, fun c => ⟨fun d => ?_, fun d => ?_⟩⟩
  ·rw [decide_eq_false (by omega), Bool.false_and] at hx; rw [hx] at h; exact h
  ·rw [decide_eq_false (by omega), Bool.false_and] at hx; rw [hx] at h; exact h
  ·rw [decide_eq_true (by omega), Bool.true_and] at hx; exact ⟨⟨by omega, by omega⟩, ⟨k + 1, by push_cast; rfl, by omega, hx⟩, by omega⟩
 ·rw [List.drop_of_length_le (by omega)] at hx; rw [hx] at h; exact h
def rk : Nat → Int → List Int → Nat
  | _, _, [] => 0
  | 0, _, _ :: _ => 0
  | m + 1, x, y :: s => if y = x then rk m (x + 1) s else choose m s.length + rk m (x + 1) (y :: s)
def unr : Nat → Int → Nat → Nat → List Int
  | _, _, 0, _ => []
  | 0, _, _ + 1, _ => []
  | m + 1, x, k + 1, r => if r < choose m k then x :: unr m (x + 1) k r else unr m (x + 1) (k + 1) (r - choose m k)
theorem rk_nil (m : Nat) (x : Int) : rk m x [] = 0 := by cases m <;> rfl
theorem unr_zero (m : Nat) (x : Int) (r : Nat) : unr m x 0 r = [] := by cases m <;> rfl
theorem rk_cons (m : Nat) (x y : Int) (s : List Int) : rk (m + 1) x (y :: s) = if y = x then rk m (x + 1) s else choose m s.length + rk m (x + 1) (y :: s) := rfl
theorem unr_succ (m : Nat) (x : Int) (k r : Nat) : unr (m + 1) x (k + 1) r = if r < choose m k then x :: unr m (x + 1) k r else unr m (x + 1) (k + 1) (r - choose m k) := rfl
theorem asc_low {x y n z : Int} {s : List Int} (h : asc x n (z :: s) = true) (hy : y < z) : asc y n (z :: s) = true := by
 rw [asc_cons] at h ⊢; exact ⟨⟨hy, h.1.2⟩, h.2⟩
theorem asc_next {m : Nat} {x y : Int} {s : List Int} (h : asc (x - 1) (x + ((m + 1 : Nat) : Int)) (y :: s) = true) : (y = x → asc (x + 1 - 1) (x + 1 + (m : Int)) s = true) ∧ (y ≠ x → asc (x + 1 - 1) (x + 1 + (m : Int)) (y :: s) = true) := by
 rw [show x + ((m + 1 : Nat) : Int) = x + 1 + (m : Int) by omega] at h; refine ⟨fun e => ?_, fun e => asc_low h ?_⟩
 ·subst e; rw [asc_cons] at h; rw [show y + 1 - 1 = y by omega]; exact h.2
 ·rw [asc_cons] at h; omega
theorem rk_lt : ∀ (m : Nat) (x : Int) (s : List Int), asc (x - 1) (x + (m : Int)) s = true → rk m x s < choose m s.length
 | m, x, [], _ => by rw [rk_nil, List.length_nil, choose_zero]; decide
 | 0, x, y :: s, h => by rw [asc_cons] at h; omega
 | m + 1, x, y :: s, h => by
  obtain ⟨h1, h2⟩ := asc_next h; rw [rk_cons, List.length_cons, choose_succ]; by_cases e : y = x
  ·rw [if_pos e]; have := rk_lt m (x + 1) s (h1 e); omega
  ·rw [if_neg e]; have := rk_lt m (x + 1) (y :: s) (h2 e); rw [List.length_cons] at this; omega
def rkS (n : Int) (s : List Int) : Int × Int := if n < 0 ∨ 64 < n then (0, 6) else if asc (-1) n s = true then (((rk n.toNat 0 s : Nat) : Int), 0) else (0, 5)
theorem asc_len : ∀ {s : List Int} {x n : Int}, asc x n s = true → x < n → (s.length : Int) ≤ n - 1 - x
 | [], x, n, _, h => by simp only [List.length_nil]; omega
 | y :: s, x, n, h, _ => by
  rw [asc_cons] at h; have := asc_len h.2 h.1.2; rw [List.length_cons]; omega
theorem asc_len64 {n : Nat} {s : List Int} (h : asc (-1) n s = true) : s.length ≤ n := by
 have := asc_len h (by omega); omega
theorem asc_zero {n : Nat} {s : List Int} : asc (0 - 1) (0 + (n : Int)) s = asc (-1) n s := by rw [Int.zero_add]; rfl
def RkI (n : Nat) (s : List Int) (acc y : Int) (k : Nat) : Prop := ∃ A b : Nat, acc = A ∧ y = b ∧ b ≤ n ∧ k ≤ s.length ∧ A + rk (n - b) b (s.drop k) = rk n 0 s ∧ asc ((b : Int) - 1) n (s.drop k) = true
theorem rki_start {n : Nat} {s : List Int} (h : asc (-1) n s = true) : RkI n s 0 0 0 := ⟨0, 0, rfl, rfl, Nat.zero_le _, Nat.zero_le _, by rw [Nat.zero_add]; rfl, h⟩
theorem rki_in {n : Nat} {s : List Int} {acc y : Int} {k : Nat} (hn : n ≤ 64) (ha : asc (-1) n s = true) (h : RkI n s acc y k) (hk : k < s.length) (hy : y < vo s k) :
  ∃ b : Nat, y = b ∧ b < n ∧ s.length ≤ n ∧ RkI n s (acc + ((choose (n - 1 - b) (s.length - k - 1) : Nat) : Int)) (y + 1) k ∧ I64 (acc + ((choose (n - 1 - b) (s.length - k - 1) : Nat) : Int)) := by
 obtain ⟨A, b, rfl, rfl, hb, hk', hr, has⟩ := h; have hlen := asc_len64 ha; rw [drop_vo hk] at hr has; have hyn := (asc_cons.1 has).1.2; obtain ⟨m, hm⟩ : ∃ m, n - b = m + 1 := ⟨n - b - 1, by omega⟩
 rw [hm, rk_cons, if_neg (by omega)] at hr; have hdl : (s.drop (k + 1)).length = s.length - k - 1 := by rw [List.length_drop]; omega
 rw [hdl] at hr; have e1 : n - 1 - b = m := by omega
 have hlt := rk_lt n 0 s (by rw [asc_zero]; exact ha); have hcb := choose_cB (n := n) hn s.length; unfold cB at hcb; refine ⟨b, ?_⟩; rw [e1]; refine ⟨rfl, by omega, hlen, ⟨A + choose m (s.length - k - 1), b + 1, by omega, by omega, by omega, hk', ?_, ?_⟩, by omega, by omega⟩
 ·rw [drop_vo hk, show n - (b + 1) = m by omega, show ((b + 1 : Nat) : Int) = (b : Int) + 1 by omega]; omega
 ·rw [drop_vo hk]; exact asc_low has (by omega)
theorem rki_out {n : Nat} {s : List Int} {acc y : Int} {k : Nat} (h : RkI n s acc y k) (hk : k < s.length) (hy : ¬ y < vo s k) : RkI n s acc (vo s k + 1) (k + 1) ∧ (0 ≤ vo s k ∧ vo s k < n) := by
 obtain ⟨A, b, rfl, rfl, hb, hk', hr, has⟩ := h; rw [drop_vo hk] at hr has; have hyn := asc_cons.1 has; have e : vo s k = (b : Int) := by omega
 obtain ⟨m, hm⟩ : ∃ m, n - b = m + 1 := ⟨n - b - 1, by omega⟩
 rw [hm, rk_cons, if_pos e] at hr; refine ⟨⟨A, b + 1, rfl, by omega, by omega, by omega, ?_, ?_⟩, by omega⟩
 ·rw [show n - (b + 1) = m by omega, show ((b + 1 : Nat) : Int) = (b : Int) + 1 by omega]; exact hr
 ·rw [show ((b + 1 : Nat) : Int) - 1 = vo s k by omega]; exact hyn.2
theorem rki_end {n : Nat} {s : List Int} {acc y : Int} {k : Nat} (h : RkI n s acc y k) (hk : s.length ≤ k) : acc = ((rk n 0 s : Nat) : Int) := by
 obtain ⟨A, b, rfl, rfl, hb, hk', hr, has⟩ := h; rw [List.drop_of_length_le hk, rk_nil] at hr; rw [← hr]; rfl
theorem v_Rank {n : Int} {s : List Int} {Q : Int × Int → Prop} (hl : s.length ≤ 4611686018427387904) (h : Q (rkS n s)) : V_Rank n s Q := by
 unfold rkS at h; refine ⟨fun e => by rw [if_pos (.inl e)] at h; exact h, fun e => ⟨fun e2 => by rw [if_pos (.inr e2)] at h; exact h, fun e2 => v_isSubset hl ?_⟩⟩; rw [if_neg (by omega)] at h; obtain ⟨n, rfl⟩ : ∃ a : Nat, n = a := ⟨n.toNat, by omega⟩
 cases ha : asc (-1) (n : Int) s with
 | false => rw [if_neg (by rw [ha]; decide)] at h; exact ⟨fun _ => h, fun c => absurd c (by decide)⟩
 | true =>
  rw [if_pos ha] at h; refine ⟨fun c => absurd c (by decide), fun _ => ?_⟩; have hlen := asc_len64 ha; refine ⟨fun acc y z => ∃ k : Nat, z = k ∧ RkI n s acc y k, fun acc y z => (s.length - z).toNat, ⟨0, rfl, rki_start ha⟩, ?_⟩; rintro acc y _ ⟨k, rfl, hI⟩; dsimp only; rw [gi_nat]; have hk : k ≤ s.length := by obtain ⟨_, _, _, _, _, hk, _⟩ := hI; exact hk
  refine ⟨fun hlt => ⟨⟨by omega, by omega⟩, fun acc y => RkI n s acc y k, fun acc y => (vo s k - y).toNat, hI, fun acc y hI => ⟨fun hy => ?_, fun hy => ?_⟩⟩, fun hge => by rw [rki_end hI (by omega)]; exact h⟩
  ·obtain ⟨b, rfl, hb, hsn, s1, s2⟩ := rki_in (by omega) ha hI (by omega) hy; have eL : (s.length : Int) - (k : Int) = ((s.length - k - 1 : Nat) : Int) + 1 := by omega
   rw [eL]; exact ⟨⟨by omega, by omega⟩, v_countFrom (by omega) hb (by omega) ⟨s2, ⟨by omega, by omega⟩, s1, by dsimp only; omega⟩⟩
  ·obtain ⟨s1, s2⟩ := rki_out hI (by omega) hy; exact ⟨⟨by omega, by omega⟩, ⟨by omega, by omega⟩, ⟨k + 1, by push_cast; rfl, s1⟩, by omega⟩
def unS (n k r : Int) : List Int × Int := if k < 0 ∨ n < k ∨ 64 < n ∨ r < 0 ∨ ((choose n.toNat k.toNat : Nat) : Int) ≤ r then ([], 6) else (unr n.toNat 0 k.toNat r.toNat, 0)
def UnI (n k r : Nat) (o : List Int) (z y : Int) : Prop := ∃ c b : Nat, z = c ∧ y = b ∧ b ≤ n ∧ o.length ≤ k ∧ c < choose (n - b) (k - o.length) ∧ o ++ unr (n - b) b (k - o.length) c = unr n 0 k r
theorem uni_start {n k r : Nat} (h : r < choose n k) : UnI n k r [] r 0 := ⟨r, 0, rfl, rfl, Nat.zero_le _, Nat.zero_le _, h, rfl⟩
theorem uni_end {n k r : Nat} {o : List Int} {z y : Int} (h : UnI n k r o z y) (hk : k ≤ o.length) : o = unr n 0 k r := by
 obtain ⟨c, b, rfl, rfl, hb, ho, hc, he⟩ := h; rw [show k - o.length = 0 by omega, unr_zero, List.append_nil] at he; exact he
theorem uni_step {n k r : Nat} {o : List Int} {z y : Int} (h : UnI n k r o z y) (hk : o.length < k) : ∃ b : Nat, y = b ∧ b < n ∧ 0 ≤ z ∧ (z < ((choose (n - 1 - b) (k - o.length - 1) : Nat) : Int) → UnI n k r (o ++ [y]) z (y + 1)) ∧
  (¬ z < ((choose (n - 1 - b) (k - o.length - 1) : Nat) : Int) → UnI n k r o (z - ((choose (n - 1 - b) (k - o.length - 1) : Nat) : Int)) (y + 1) ∧ 0 ≤ z - ((choose (n - 1 - b) (k - o.length - 1) : Nat) : Int)) ∧ z ≤ ((choose (n - b) (k - o.length) : Nat) : Int) := by
 obtain ⟨c, b, rfl, rfl, hb, ho, hc, he⟩ := h; have hbn : b < n := by
  rcases Nat.lt_or_ge b n with h | h
  ·exact h
  ·rw [show n - b = 0 by omega, choose_big (by omega)] at hc; omega
 obtain ⟨m, hm⟩ : ∃ m, n - b = m + 1 := ⟨n - b - 1, by omega⟩
 obtain ⟨l, hl⟩ : ∃ l, k - o.length = l + 1 := ⟨k - o.length - 1, by omega⟩
 have e1 : n - 1 - b = m := by omega
 have e2 : k - o.length - 1 = l := by omega
 refine ⟨b, ?_⟩; rw [hm, hl] at hc he ⊢; have eb : ((b + 1 : Nat) : Int) = (b : Int) + 1 := by omega
 rw [e1, Nat.add_sub_cancel]; rw [choose_succ] at hc; rw [unr_succ] at he; refine ⟨rfl, hbn, Int.natCast_nonneg _, fun h1 => ⟨c, b + 1, rfl, by omega, by omega, by rw [List.length_append]; simp only [List.length_cons, List.length_nil]; omega, ?_, ?_⟩, fun h1 => ⟨⟨c - choose m l, b + 1, by omega, by omega, by omega, ho, ?_, ?_⟩, by omega⟩, by rw [choose_succ]; omega⟩
 ·rw [show n - (b + 1) = m by omega, show k - (o ++ [(b : Int)]).length = l by rw [List.length_append]; simp only [List.length_cons, List.length_nil]; omega]; omega
 ·rw [if_pos (by omega)] at he; rw [show n - (b + 1) = m by omega, show k - (o ++ [(b : Int)]).length = l by rw [List.length_append]; simp only [List.length_cons, List.length_nil]; omega, eb, List.append_assoc]; exact he
 ·rw [show n - (b + 1) = m by omega, hl]; omega
 ·rw [if_neg (by omega)] at he; rw [show n - (b + 1) = m by omega, hl, eb]; exact he
theorem v_Unrank {n k r : Int} {Q : List Int × Int → Prop} (hk : k ≤ 9223372036854775807) (h : Q (unS n k r)) : V_Unrank n k r Q := by
 refine v_countSubsets hk ?_; unfold unS at h; unfold csS; by_cases c : k < 0 ∨ n < k ∨ 64 < n
 ·rw [if_pos c]; rw [if_pos (by omega)] at h; exact ⟨fun _ => h, fun e => absurd (by decide) e⟩
 ·rw [if_neg c]; refine ⟨fun e => absurd rfl e, fun _ => ⟨fun e => by rw [if_pos (by omega)] at h; exact h, fun e => ⟨fun e2 => by rw [if_pos (by omega)] at h; exact h, fun e2 => ?_⟩⟩⟩; rw [if_neg (by omega)] at h; obtain ⟨n, rfl⟩ : ∃ a : Nat, n = a := ⟨n.toNat, by omega⟩
  obtain ⟨k, rfl⟩ : ∃ a : Nat, k = a := ⟨k.toNat, by omega⟩
  obtain ⟨r, rfl⟩ : ∃ a : Nat, r = a := ⟨r.toNat, by omega⟩
  simp only [Int.toNat_natCast] at h e2; have hn : n ≤ 64 := by omega
  refine ⟨⟨by omega, by omega, by omega⟩, UnI n k r, fun o z y => (n - y).toNat, uni_start (by omega), fun o z y hI => ⟨fun hlt => ?_, fun hge => by rw [uni_end hI (by omega)]; exact h⟩⟩; obtain ⟨b, rfl, hb, h0, s1, s2, s3⟩ := uni_step hI (by omega); have hcb := choose_cB (n := n - b) (by omega) (k - o.length); unfold cB at hcb; have eL : (k : Int) - (o.length : Int) = ((k - o.length - 1 : Nat) : Int) + 1 := by omega
  refine ⟨fun o z c bb => UnI n k r o z ((b : Int) + 1), ⟨⟨by omega, by omega⟩, ?_⟩, fun o z c bb hI => ⟨⟨by omega, by omega⟩, hI, by dsimp only; omega⟩⟩; rw [eL]; refine v_countFrom (by omega) hb (by omega) ⟨fun c => ⟨by omega, s1 c⟩, fun c => ⟨⟨by omega, by omega⟩, (s2 c).1⟩⟩
end Go.Proofs.Ytcmfjjbbcfddpaa
set_option linter.unusedVariables false
set_option linter.unusedSimpArgs false
namespace Go.Proofs.Ytcmfjjbbcfddpaa
def asd (s : List Int) (i : Nat) (x : Int) : List Int := (List.range s.length).map fun (t : Nat) => if t < i then vo s t else x + ((t - i : Nat) : Int)
def ad (n : Int) (s : List Int) : Nat → List Int
  | 0 => s
  | i + 1 => if vo s i < n - (s.length : Int) + (i : Int) then asd s i (vo s i + 1) else ad n s i
end Go.Proofs.Ytcmfjjbbcfddpaa
