/- Contracts of functions of the program, and what they lean on: D5, D6, Fa, Fb, Fg, Fp, Fk. -/
import Derived.Test.YtcmfjjbbcfddpaaWordAddsG3
set_option linter.unusedSimpArgs false
set_option linter.unusedVariables false
set_option maxRecDepth 4000
set_option maxHeartbeats 4000000
namespace Go.Proofs.Ytcmfjjbbcfddpaa
open Go.RowKit
def V_Is (Fg : GFv) (x : Int) (Q : Bool → Prop) : Prop :=
  (((0 : Int) ≤ x) → (Q (decide (x < Fg.q)))) ∧ (¬ ((0 : Int) ≤ x) → Q false)
theorem ok_Is {w : World} {Q : Bool → Prop} {Fg : GFv} {x : Int} {ag : Addr} {Bg : Nat} (hgg : GFR Bg w ag Fg) (hv : V_Is Fg x Q) :
   Calls Try.prog 56 #[.pointer (some ag), .int .i64 x] w fun e w' => ∃ v Qr, e = .returned v ∧ w.grownBy w' none ∧ Rows w.heap.size none w' Qr ∧ News w.heap.size Qr ∧ ∃ (r0 : Bool), v = .bool r0 ∧ Qr = [] ∧ Q r0 := by
 have hgg_ := hgg; obtain ⟨Ag_mod, kg_mod, Ag_exp, kg_exp, Ag_log, kg_log, Ag_above, kg_above, hg_c, hg_mod, hg_exp, hg_log, hg_above⟩ := hgg_; refine calls_swap <| calls_of_W (vs := [.pointer (some ag), .int .i64 x]) [4] XF56 rfl rfl rfl rfl ?_; have hS := St.start w; unfold V_Is at hv; refine W.seq <| W.region <| WL.assign rfl rfl <| WL.done <| W.seq <| W.region <| WL.move rfl rfl <| WL.geqD rfl rfl rfl <| WL.move rfl rfl ?_; by_cases g11 : (0 : Int) ≤ x
 ·have hv := hv.1 g11; rw [decide_eq_true g11]; refine WL.take rfl <| WL.move rfl rfl <| WL.take rfl <| WL.move rfl rfl <| WL.take rfl <| WL.nilCheck rfl rfl <| WL.take rfl <| WL.fieldA (off := 3) XA93_1 rfl rfl <| WL.take rfl <| WL.load XU3 rfl rfl (Rd.at_ (hS.ro hg_c) (j := 3) rfl) rfl <| WL.take rfl <| WL.lssD rfl rfl rfl <| WL.pick rfl rfl rfl <| WL.assign rfl rfl <| WL.done <| W.ret <| ⟨_, rfl, Fin.nil ?_⟩
  exact ⟨_, hS.ext, (hS.pick [] rfl).rows, News.of (hS.pick [] rfl).rows rfl, ⟨(decide (x < Fg.q)), rfl, rfl, hv⟩⟩
 have hv := hv.2 g11; rw [decide_eq_false g11]; refine WL.pass rfl rfl rfl <| WL.pass rfl rfl rfl <| WL.pass rfl rfl rfl <| WL.pass rfl rfl rfl <| WL.pass rfl rfl rfl <| WL.pass rfl rfl rfl <| WL.pick rfl rfl rfl <| WL.assign rfl rfl <| WL.done <| W.ret <| ⟨_, rfl, Fin.nil ?_⟩
 exact ⟨_, hS.ext, (hS.pick [] rfl).rows, News.of (hS.pick [] rfl).rows rfl, ⟨false, rfl, rfl, hv⟩⟩
def V_isUnit (Fg : GFv) (x : Int) (Q : Bool → Prop) : Prop :=
  (((0 : Int) < x) → (Q (decide (x < Fg.q)))) ∧ (¬ ((0 : Int) < x) → Q false)
theorem ok_isUnit {w : World} {Q : Bool → Prop} {Fg : GFv} {x : Int} {ag : Addr} {Bg : Nat} (hgg : GFR Bg w ag Fg) (hv : V_isUnit Fg x Q) :
   Calls Try.prog 104 #[.pointer (some ag), .int .i64 x] w fun e w' => ∃ v Qr, e = .returned v ∧ w.grownBy w' none ∧ Rows w.heap.size none w' Qr ∧ News w.heap.size Qr ∧ ∃ (r0 : Bool), v = .bool r0 ∧ Qr = [] ∧ Q r0 := by
 have hgg_ := hgg; obtain ⟨Ag_mod, kg_mod, Ag_exp, kg_exp, Ag_log, kg_log, Ag_above, kg_above, hg_c, hg_mod, hg_exp, hg_log, hg_above⟩ := hgg_; refine calls_swap <| calls_of_W (vs := [.pointer (some ag), .int .i64 x]) [4] XF104 rfl rfl rfl rfl ?_; have hS := St.start w; unfold V_isUnit at hv; refine W.seq <| W.region <| WL.assign rfl rfl <| WL.done <| W.seq <| W.region <| WL.move rfl rfl <| WL.gtrD rfl rfl rfl <| WL.move rfl rfl ?_; by_cases g11 : (0 : Int) < x
 ·have hv := hv.1 g11; rw [decide_eq_true g11]; refine WL.take rfl <| WL.move rfl rfl <| WL.take rfl <| WL.move rfl rfl <| WL.take rfl <| WL.nilCheck rfl rfl <| WL.take rfl <| WL.fieldA (off := 3) XA93_1 rfl rfl <| WL.take rfl <| WL.load XU3 rfl rfl (Rd.at_ (hS.ro hg_c) (j := 3) rfl) rfl <| WL.take rfl <| WL.lssD rfl rfl rfl <| WL.pick rfl rfl rfl <| WL.assign rfl rfl <| WL.done <| W.ret <| ⟨_, rfl, Fin.nil ?_⟩
  exact ⟨_, hS.ext, (hS.pick [] rfl).rows, News.of (hS.pick [] rfl).rows rfl, ⟨(decide (x < Fg.q)), rfl, rfl, hv⟩⟩
 have hv := hv.2 g11; rw [decide_eq_false g11]; refine WL.pass rfl rfl rfl <| WL.pass rfl rfl rfl <| WL.pass rfl rfl rfl <| WL.pass rfl rfl rfl <| WL.pass rfl rfl rfl <| WL.pass rfl rfl rfl <| WL.pick rfl rfl rfl <| WL.assign rfl rfl <| WL.done <| W.ret <| ⟨_, rfl, Fin.nil ?_⟩
 exact ⟨_, hS.ext, (hS.pick [] rfl).rows, News.of (hS.pick [] rfl).rows rfl, ⟨false, rfl, rfl, hv⟩⟩
def V_element (Fg : GFv) (x : Int) (Q : Int → Prop) : Prop :=
  V_Is Fg x (fun r12 => ((r12 = true) → Q x) ∧ (r12 = false → (Q (0 : Int))))
theorem ok_element {w : World} {Q : Int → Prop} {Fg : GFv} {x : Int} {ag : Addr} {Bg : Nat} (hgg : GFR Bg w ag Fg) (hv : V_element Fg x Q) :
   Calls Try.prog 87 #[.pointer (some ag), .int .i64 x] w fun e w' => ∃ v Qr, e = .returned v ∧ w.grownBy w' none ∧ Rows w.heap.size none w' Qr ∧ News w.heap.size Qr ∧ ∃ (r0 : Int), v = .int .i64 r0 ∧ Qr = [] ∧ Q r0 := by
 have hgg_ := hgg; obtain ⟨Ag_mod, kg_mod, Ag_exp, kg_exp, Ag_log, kg_log, Ag_above, kg_above, hg_c, hg_mod, hg_exp, hg_log, hg_above⟩ := hgg_; refine calls_swap <| calls_of_W (vs := [.pointer (some ag), .int .i64 x]) [4] XF87 rfl rfl rfl rfl ?_; have hS := St.start w; unfold V_element at hv; refine W.seq <| W.region <| WL.assign rfl rfl <| WL.done <| W.seq <| W.seq <| W.region <| WL.move rfl rfl <| WL.move rfl rfl <| SL.call hS (ok_Is (GFR.ext (GFR.norm hgg) hS.ext) hv) XF56 rfl XN56 rfl rfl ?_; rintro _ _ w11 ⟨r12, rfl, rfl, hv⟩ hGw11 hS; have hS := hS.n0; refine WL.done <| W.cond2 rfl (fun c13 => ?_) (fun c13 => ?_)
 ·have hv := hv.1 (c13); refine W.seq <| W.region <| WL.move rfl rfl <| WL.assign rfl rfl <| WL.done <| W.ret <| ⟨_, rfl, Fin.nil ?_⟩
  exact ⟨_, hS.ext, (hS.pick [] rfl).rows, News.of (hS.pick [] rfl).rows rfl, ⟨x, rfl, rfl, hv⟩⟩
 have hv := hv.2 (c13); refine W.skip <| W.seq <| W.region <| WL.assign rfl rfl <| WL.done <| W.ret <| ⟨_, rfl, Fin.nil ?_⟩
 exact ⟨_, hS.ext, (hS.pick [] rfl).rows, News.of (hS.pick [] rfl).rows rfl, ⟨(0 : Int), rfl, rfl, hv⟩⟩
def V_Mul (Fg : GFv) (x : Int) (y : Int) (Q : Int → Prop) : Prop :=
  V_isUnit Fg x (fun r12 => (((!r12) = true) → (Q (0 : Int))) ∧ ((!r12) = false → (V_isUnit Fg y (fun r15 => (((!r15) = true) → (Q (0 : Int))) ∧ ((!r15) = false → ((0 ≤ x ∧ x < (Fg.log.length : Nat)) ∧ ((0 ≤ y ∧ y < (Fg.log.length : Nat)) ∧ ((I64 ((gi Fg.log x) + (gi Fg.log y))) ∧ ((0 ≤ ((gi Fg.log x) + (gi Fg.log y)) ∧ ((gi Fg.log x) + (gi Fg.log y)) < (Fg.exp.length : Nat)) ∧ (Q (gi Fg.exp ((gi Fg.log x) + (gi Fg.log y)))))))))))))
theorem ok_Mul {w : World} {Q : Int → Prop} {Fg : GFv} {x : Int} {y : Int} {ag : Addr} {Bg : Nat} (hgg : GFR Bg w ag Fg) (hv : V_Mul Fg x y Q) :
   Calls Try.prog 89 #[.pointer (some ag), .int .i64 x, .int .i64 y] w fun e w' => ∃ v Qr, e = .returned v ∧ w.grownBy w' none ∧ Rows w.heap.size none w' Qr ∧ News w.heap.size Qr ∧ ∃ (r0 : Int), v = .int .i64 r0 ∧ Qr = [] ∧ Q r0 := by
 have hgg_ := hgg; obtain ⟨Ag_mod, kg_mod, Ag_exp, kg_exp, Ag_log, kg_log, Ag_above, kg_above, hg_c, hg_mod, hg_exp, hg_log, hg_above⟩ := hgg_; refine calls_swap <| calls_of_W (vs := [.pointer (some ag), .int .i64 x, .int .i64 y]) [6] XF89 rfl rfl rfl rfl ?_; have hS := St.start w; unfold V_Mul at hv; refine W.seq <| W.region <| WL.assign rfl rfl <| WL.done <| W.seq <| W.seq <| W.region <| WL.move rfl rfl <| WL.move rfl rfl <| SL.call hS (ok_isUnit (GFR.ext (GFR.norm hgg) hS.ext) hv) XF104 rfl XN104 rfl rfl ?_; rintro _ _ w11 ⟨r12, rfl, rfl, hv⟩ hGw11 hS; have hS := hS.n0; refine WL.not rfl rfl <| WL.move rfl rfl ?_; rcases g13 : (!r12) with _ | _
 ·have hv := hv.2 g13; refine WL.take rfl <| WL.move rfl rfl <| WL.take rfl <| WL.move rfl rfl <| WL.take rfl <| SL.call hS (ok_isUnit (GFR.ext (GFR.norm hgg) hS.ext) hv) XF104 rfl XN104 rfl rfl ?_; rintro _ _ w14 ⟨r15, rfl, rfl, hv⟩ hGw14 hS; have hS := hS.n0; refine WL.take rfl <| WL.not rfl rfl <| WL.pick rfl rfl rfl <| WL.done <| W.cond2 rfl (fun c16 => ?_) (fun c16 => ?_)
  ·have hv := hv.1 (c16); refine W.seq <| W.region <| WL.assign rfl rfl <| WL.done <| W.ret <| ⟨_, rfl, Fin.nil ?_⟩
   exact ⟨_, hS.ext, (hS.pick [] rfl).rows, News.of (hS.pick [] rfl).rows rfl, ⟨(0 : Int), rfl, rfl, hv⟩⟩
  have hv := hv.2 (c16); refine W.skip <| W.seq ?_; obtain ⟨o27, hv⟩ := hv; obtain ⟨o35, hv⟩ := hv; obtain ⟨o38, hv⟩ := hv; obtain ⟨o40, hv⟩ := hv; refine W.drawV 22 [⟨[], [0], true⟩, ⟨[0], [], true⟩, ⟨[1], [], true⟩, ⟨[2], [], false⟩, ⟨[], [0], true⟩, ⟨[4], [], true⟩, ⟨[5], [], true⟩, ⟨[6], [], false⟩, ⟨[], [1], true⟩, ⟨[7, 8], [], true⟩, ⟨[9], [], false⟩, ⟨[], [0], true⟩, ⟨[11], [], true⟩, ⟨[12], [], true⟩, ⟨[13], [], false⟩, ⟨[], [2], true⟩, ⟨[14, 15], [], true⟩, ⟨[16], [], false⟩, ⟨[10, 17], [], true⟩, ⟨[3, 18], [], true⟩, ⟨[19], [], false⟩, ⟨[20], [], true⟩] [[(0, .pointer (some ag))], [], [], [], [(0, .pointer (some ag))], [], [], [], [(1, .int .i64 x)], [], [], [(0, .pointer (some ag))], [], [], [], [(2, .int .i64 y)], [], [], [], [], [], []] [(17, .pointer (some ag)), (18, .pointer (some ag)), (19, .pointer (some (ag.add 4))), (20, .slice Ag_exp Fg.exp.length kg_exp), (21, .pointer (some ag)), (22, .pointer (some ag)), (23, .pointer (some (ag.add 5))), (24, .slice Ag_log Fg.log.length kg_log), (25, .int .i64 x), (26, .pointer (some ((adOf Ag_log).add x.toNat))), (27, .int .i64 (gi Fg.log x)), (28, .pointer (some ag)), (29, .pointer (some ag)), (30, .pointer (some (ag.add 5))), (31, .slice Ag_log Fg.log.length kg_log), (32, .int .i64 y), (33, .pointer (some ((adOf Ag_log).add y.toNat))), (34, .int .i64 (gi Fg.log y)), (35, .int .i64 ((gi Fg.log x) + (gi Fg.log y))), (36, .pointer (some ((adOf Ag_exp).add (((gi Fg.log x) + (gi Fg.log y)).toNat)))), (37, .int .i64 (gi Fg.exp ((gi Fg.log x) + (gi Fg.log y)))), (6, .int .i64 (gi Fg.exp ((gi Fg.log x) + (gi Fg.log y))))] Try.mixed (by kernel_rfl) rfl rfl ?_ ?_
  ·refine ⟨⟨rfl, ⟨rfl, trivial⟩, fun _ _ _ => WL.move rfl rfl <| WL.done ⟨rfl, rfl⟩⟩, ⟨rfl, trivial, fun _ _ _ => WL.nilCheck rfl rfl <| WL.done ⟨rfl, rfl⟩⟩, ⟨rfl, trivial, fun _ _ _ => WL.fieldA (off := 4) XA93_2 rfl rfl <| WL.done ⟨rfl, rfl⟩⟩, ⟨rfl, trivial, fun _ hE _ => have hS := hS.grow (hE rfl); WL.load XU22 rfl rfl (Rd.at_ (hS.ro hg_c) (j := 4) rfl) rfl <| WL.done ⟨rfl, ext_refl _⟩⟩, ⟨rfl, ⟨rfl, trivial⟩, fun _ _ _ => WL.move rfl rfl <| WL.done ⟨rfl, rfl⟩⟩, ⟨rfl, trivial, fun _ _ _ => WL.nilCheck rfl rfl <| WL.done ⟨rfl, rfl⟩⟩, ⟨rfl, trivial, fun _ _ _ => WL.fieldA (off := 5) XA93_3 rfl rfl <| WL.done ⟨rfl, rfl⟩⟩, ⟨rfl, trivial, fun _ hE _ => have hS := hS.grow (hE rfl); WL.load XU22 rfl rfl (Rd.at_ (hS.ro hg_c) (j := 5) rfl) rfl <| WL.done ⟨rfl, ext_refl _⟩⟩, ⟨rfl, ⟨rfl, trivial⟩, fun _ _ _ => WL.move rfl rfl <| WL.done ⟨rfl, rfl⟩⟩, ⟨rfl, trivial, fun _ _ _ => SL.index XU22 XE3 (hS.ro hg_log) rfl rfl o27 rfl <| WL.done ⟨rfl, rfl⟩⟩, ⟨rfl, trivial, fun _ hE _ => have hS := hS.grow (hE rfl); WL.load XU3 rfl rfl (Rd.gi (hS.ro hg_log) o27) rfl <| WL.done ⟨rfl, ext_refl _⟩⟩, ⟨rfl, ⟨rfl, trivial⟩, fun _ _ _ => WL.move rfl rfl <| WL.done ⟨rfl, rfl⟩⟩, ⟨rfl, trivial, fun _ _ _ => WL.nilCheck rfl rfl <| WL.done ⟨rfl, rfl⟩⟩, ⟨rfl, trivial, fun _ _ _ => WL.fieldA (off := 5) XA93_3 rfl rfl <| WL.done ⟨rfl, rfl⟩⟩, ⟨rfl, trivial, fun _ hE _ => have hS := hS.grow (hE rfl); WL.load XU22 rfl rfl (Rd.at_ (hS.ro hg_c) (j := 5) rfl) rfl <| WL.done ⟨rfl, ext_refl _⟩⟩, ⟨rfl, ⟨rfl, trivial⟩, fun _ _ _ => WL.move rfl rfl <| WL.done ⟨rfl, rfl⟩⟩, ⟨rfl, trivial, fun _ _ _ => SL.index XU22 XE3 (hS.ro hg_log) rfl rfl o35 rfl <| WL.done ⟨rfl, rfl⟩⟩, ⟨rfl, trivial, fun _ hE _ => have hS := hS.grow (hE rfl); WL.load XU3 rfl rfl (Rd.gi (hS.ro hg_log) o35) rfl <| WL.done ⟨rfl, ext_refl _⟩⟩, ⟨rfl, trivial, fun _ _ _ => WL.add (r := ((gi Fg.log x) + (gi Fg.log y))) rfl rfl (wr o38) rfl <| WL.done ⟨rfl, rfl⟩⟩, ⟨rfl, trivial, fun _ _ _ => SL.index XU22 XE3 (hS.ro hg_exp) rfl rfl o40 rfl <| WL.done ⟨rfl, rfl⟩⟩, ⟨rfl, trivial, fun _ hE _ => have hS := hS.grow (hE rfl); WL.load XU3 rfl rfl (Rd.gi (hS.ro hg_exp) o40) rfl <| WL.done ⟨rfl, ext_refl _⟩⟩, ⟨rfl, trivial, fun _ _ _ => WL.assign rfl rfl <| WL.done ⟨rfl, rfl⟩⟩, trivial⟩
  intro w43 hT; have hS := hS.grow hT; refine WA.done (by decide +kernel) <| W.ret <| ⟨_, rfl, Fin.nil ?_⟩
  exact ⟨_, hS.ext, (hS.pick [] rfl).rows, News.of (hS.pick [] rfl).rows rfl, ⟨(gi Fg.exp ((gi Fg.log x) + (gi Fg.log y))), rfl, rfl, hv⟩⟩
 have hv := hv.1 g13; refine WL.pass rfl rfl rfl <| WL.pass rfl rfl rfl <| WL.pass rfl rfl rfl <| WL.pass rfl rfl rfl <| WL.pick rfl rfl rfl <| WL.done <| W.condT rfl <| W.seq <| W.region <| WL.assign rfl rfl <| WL.done <| W.ret <| ⟨_, rfl, Fin.nil ?_⟩
 exact ⟨_, hS.ext, (hS.pick [] rfl).rows, News.of (hS.pick [] rfl).rows rfl, ⟨(0 : Int), rfl, rfl, hv⟩⟩
def V_Neg (Fg : GFv) (x : Int) (Q : Int → Prop) : Prop :=
  (I64 (Fg.P - (1 : Int))) ∧ (V_Mul Fg (Fg.P - (1 : Int)) x (fun r13 => Q r13))
theorem ok_Neg {w : World} {Q : Int → Prop} {Fg : GFv} {x : Int} {ag : Addr} {Bg : Nat} (hgg : GFR Bg w ag Fg) (hv : V_Neg Fg x Q) :
  Calls Try.prog 86 #[.pointer (some ag), .int .i64 x] w fun e w' => ∃ v Qr, e = .returned v ∧ w.grownBy w' none ∧ Rows w.heap.size none w' Qr ∧ News w.heap.size Qr ∧ ∃ (r0 : Int), v = .int .i64 r0 ∧ Qr = [] ∧ Q r0 := by
 have hgg_ := hgg; obtain ⟨Ag_mod, kg_mod, Ag_exp, kg_exp, Ag_log, kg_log, Ag_above, kg_above, hg_c, hg_mod, hg_exp, hg_log, hg_above⟩ := hgg_; refine calls_swap <| calls_of_W (vs := [.pointer (some ag), .int .i64 x]) [4] XF86 rfl rfl rfl rfl ?_; have hS := St.start w; unfold V_Neg at hv; refine W.seq <| W.region <| WL.assign rfl rfl <| WL.done <| W.seq <| W.region <| WL.move rfl rfl <| WL.move rfl rfl <| WL.nilCheck rfl rfl <| WL.fieldA (off := 0) XA93_0 rfl rfl <| WL.fieldA (off := 0) XA24_0 rfl rfl <| WL.load XU3 rfl rfl (Rd.at_ (hS.ro hg_c) (j := 0) rfl) rfl ?_; obtain ⟨o11, hv⟩ := hv; refine WL.sub (r := (Fg.P - (1 : Int))) rfl rfl (wr o11) rfl <| WL.move rfl rfl <| SL.call hS (ok_Mul (GFR.ext (GFR.norm hgg) hS.ext) hv) XF89 rfl XN89 rfl rfl ?_; rintro _ _ w12 ⟨r13, rfl, rfl, hv⟩ hGw12 hS; have hS := hS.n0; refine WL.assign rfl rfl <| WL.done <| W.ret <| ⟨_, rfl, Fin.nil ?_⟩
 exact ⟨_, hS.ext, (hS.pick [] rfl).rows, News.of (hS.pick [] rfl).rows rfl, ⟨r13, rfl, rfl, hv⟩⟩
def V_Add (Fg : GFv) (x : Int) (y : Int) (Q : Int → Prop) : Prop :=
  V_element Fg x (fun r12 => V_element Fg y (fun r14 => ((Fg.P = (2 : Int)) → ((0 ≤ r12 ∧ r12 < 9223372036854775808 ∧ 0 ≤ r14 ∧ r14 < 9223372036854775808) ∧ (Q (ixor r12 r14)))) ∧ (¬ (Fg.P = (2 : Int)) → (((r12 = (0 : Int)) → Q r14) ∧ (¬ (r12 = (0 : Int)) → (((r14 = (0 : Int)) → Q r12) ∧ (¬ (r14 = (0 : Int)) → ((0 ≤ r14 ∧ r14 < (Fg.log.length : Nat)) ∧ ((0 ≤ r12 ∧ r12 < (Fg.log.length : Nat)) ∧ ((I64 ((gi Fg.log r14) - (gi Fg.log r12))) ∧ (∃ J40 : Int → Prop, (((((gi Fg.log r14) - (gi Fg.log r12)) < (0 : Int)) → ((I64 (Fg.q - (1 : Int))) ∧ ((I64 (((gi Fg.log r14) - (gi Fg.log r12)) + (Fg.q - (1 : Int)))) ∧ (J40 (((gi Fg.log r14) - (gi Fg.log r12)) + (Fg.q - (1 : Int))))))) ∧ (¬ (((gi Fg.log r14) - (gi Fg.log r12)) < (0 : Int)) → (J40 ((gi Fg.log r14) - (gi Fg.log r12))))) ∧ ∀ (z39 : Int), (J40 z39 → ((0 ≤ z39 ∧ z39 < (Fg.above.length : Nat)) ∧ ((((gi Fg.above z39) = (-1 : Int)) → (Q (0 : Int))) ∧ (¬ ((gi Fg.above z39) = (-1 : Int)) → ((0 ≤ r12 ∧ r12 < (Fg.log.length : Nat)) ∧ ((I64 ((gi Fg.log r12) + (gi Fg.above z39))) ∧ ((0 ≤ ((gi Fg.log r12) + (gi Fg.above z39)) ∧ ((gi Fg.log r12) + (gi Fg.above z39)) < (Fg.exp.length : Nat)) ∧ (Q (gi Fg.exp ((gi Fg.log r12) + (gi Fg.above z39))))))))))))))))))))))
theorem ok_Add {w : World} {Q : Int → Prop} {Fg : GFv} {x : Int} {y : Int} {ag : Addr} {Bg : Nat} (hgg : GFR Bg w ag Fg) (hv : V_Add Fg x y Q) :
   Calls Try.prog 59 #[.pointer (some ag), .int .i64 x, .int .i64 y] w fun e w' => ∃ v Qr, e = .returned v ∧ w.grownBy w' none ∧ Rows w.heap.size none w' Qr ∧ News w.heap.size Qr ∧ ∃ (r0 : Int), v = .int .i64 r0 ∧ Qr = [] ∧ Q r0 := by
 have hgg_ := hgg; obtain ⟨Ag_mod, kg_mod, Ag_exp, kg_exp, Ag_log, kg_log, Ag_above, kg_above, hg_c, hg_mod, hg_exp, hg_log, hg_above⟩ := hgg_; refine calls_swap <| calls_of_W (vs := [.pointer (some ag), .int .i64 x, .int .i64 y]) [6] XF59 rfl rfl rfl rfl ?_; have hS := St.start w; unfold V_Add at hv; refine W.seq <| W.region <| WL.assign rfl rfl <| WL.done <| W.seq <| W.region <| WL.move rfl rfl <| WL.move rfl rfl <| SL.call hS (ok_element (GFR.ext (GFR.norm hgg) hS.ext) hv) XF87 rfl XN87 rfl rfl ?_; rintro _ _ w11 ⟨r12, rfl, rfl, hv⟩ hGw11 hS; have hS := hS.n0; refine WL.move rfl rfl <| WL.move rfl rfl <| SL.call hS (ok_element (GFR.ext (GFR.norm hgg) hS.ext) hv) XF87 rfl XN87 rfl rfl ?_; rintro _ _ w13 ⟨r14, rfl, rfl, hv⟩ hGw13 hS; have hS := hS.n0; refine WL.assign rfl rfl <| WL.assign rfl rfl <| WL.done <| W.seq <| W.block <| W.seq <| W.region <| WL.move rfl rfl <| WL.nilCheck rfl rfl <| WL.fieldA (off := 0) XA93_0 rfl rfl <| WL.fieldA (off := 0) XA24_0 rfl rfl <| WL.load XU3 rfl rfl (Rd.at_ (hS.ro hg_c) (j := 0) rfl) rfl <| WL.eqlD rfl rfl rfl <| WL.assign rfl rfl <| WL.done <| W.cond2 rfl (fun c15 => ?_) (fun c15 => ?_)
 ·have hv := hv.1 (of_decide_eq_true c15); refine W.seq <| W.region <| WL.move rfl rfl <| WL.move rfl rfl ?_; obtain ⟨o16, hv⟩ := hv; refine WL.bits (r := (ixor r12 r14)) rfl rfl (by decide) (run_ixor o16) rfl <| WL.assign rfl rfl <| WL.done <| W.ret <| ⟨_, rfl, Fin.nil ?_⟩
  exact ⟨_, hS.ext, (hS.pick [] rfl).rows, News.of (hS.pick [] rfl).rows rfl, ⟨(ixor r12 r14), rfl, rfl, hv⟩⟩
 have hv := hv.2 (of_decide_eq_false c15); refine W.seq <| W.region <| WL.move rfl rfl <| WL.eqlD rfl rfl rfl <| WL.assign rfl rfl <| WL.done <| W.cond2 rfl (fun c17 => ?_) (fun c17 => ?_)
 ·have hv := hv.1 (of_decide_eq_true c17); refine W.seq <| W.region <| WL.move rfl rfl <| WL.assign rfl rfl <| WL.done <| W.ret <| ⟨_, rfl, Fin.nil ?_⟩
  exact ⟨_, hS.ext, (hS.pick [] rfl).rows, News.of (hS.pick [] rfl).rows rfl, ⟨r14, rfl, rfl, hv⟩⟩
 have hv := hv.2 (of_decide_eq_false c17); refine W.seq <| W.region <| WL.move rfl rfl <| WL.eqlD rfl rfl rfl <| WL.assign rfl rfl <| WL.done <| W.cond2 rfl (fun c18 => ?_) (fun c18 => ?_)
 ·have hv := hv.1 (of_decide_eq_true c18); refine W.seq <| W.region <| WL.move rfl rfl <| WL.assign rfl rfl <| WL.done <| W.ret <| ⟨_, rfl, Fin.nil ?_⟩
  exact ⟨_, hS.ext, (hS.pick [] rfl).rows, News.of (hS.pick [] rfl).rows rfl, ⟨r12, rfl, rfl, hv⟩⟩
 have hv := hv.2 (of_decide_eq_false c18); refine W.skip <| W.seq ?_; obtain ⟨o25, hv⟩ := hv; obtain ⟨o33, hv⟩ := hv; obtain ⟨o36, hv⟩ := hv; refine W.drawV 16 [⟨[], [0], true⟩, ⟨[0], [], true⟩, ⟨[1], [], true⟩, ⟨[2], [], false⟩, ⟨[], [2], true⟩, ⟨[3, 4], [], true⟩, ⟨[5], [], false⟩, ⟨[], [0], true⟩, ⟨[7], [], true⟩, ⟨[8], [], true⟩, ⟨[9], [], false⟩, ⟨[], [1], true⟩, ⟨[10, 11], [], true⟩, ⟨[12], [], false⟩, ⟨[6, 13], [], true⟩, ⟨[14], [], true⟩] [[(0, .pointer (some ag))], [], [], [], [(2, .int .i64 r14)], [], [], [(0, .pointer (some ag))], [], [], [], [(1, .int .i64 r12)], [], [], [], []] [(33, .pointer (some ag)), (34, .pointer (some ag)), (35, .pointer (some (ag.add 5))), (36, .slice Ag_log Fg.log.length kg_log), (37, .int .i64 r14), (38, .pointer (some ((adOf Ag_log).add r14.toNat))), (39, .int .i64 (gi Fg.log r14)), (40, .pointer (some ag)), (41, .pointer (some ag)), (42, .pointer (some (ag.add 5))), (43, .slice Ag_log Fg.log.length kg_log), (44, .int .i64 r12), (45, .pointer (some ((adOf Ag_log).add r12.toNat))), (46, .int .i64 (gi Fg.log r12)), (47, .int .i64 ((gi Fg.log r14) - (gi Fg.log r12))), (7, .int .i64 ((gi Fg.log r14) - (gi Fg.log r12)))] Try.mixed (by kernel_rfl) rfl rfl ?_ ?_
 · refine ⟨⟨rfl, ⟨rfl, trivial⟩, fun _ _ _ => WL.move rfl rfl <| WL.done ⟨rfl, rfl⟩⟩, ⟨rfl, trivial, fun _ _ _ => WL.nilCheck rfl rfl <| WL.done ⟨rfl, rfl⟩⟩, ⟨rfl, trivial, fun _ _ _ => WL.fieldA (off := 5) XA93_3 rfl rfl <| WL.done ⟨rfl, rfl⟩⟩, ⟨rfl, trivial, fun _ hE _ => have hS := hS.grow (hE rfl); WL.load XU22 rfl rfl (Rd.at_ (hS.ro hg_c) (j := 5) rfl) rfl <| WL.done ⟨rfl, ext_refl _⟩⟩, ⟨rfl, ⟨rfl, trivial⟩, fun _ _ _ => WL.move rfl rfl <| WL.done ⟨rfl, rfl⟩⟩, ⟨rfl, trivial, fun _ _ _ => SL.index XU22 XE3 (hS.ro hg_log) rfl rfl o25 rfl <| WL.done ⟨rfl, rfl⟩⟩, ⟨rfl, trivial, fun _ hE _ => have hS := hS.grow (hE rfl); WL.load XU3 rfl rfl (Rd.gi (hS.ro hg_log) o25) rfl <| WL.done ⟨rfl, ext_refl _⟩⟩, ⟨rfl, ⟨rfl, trivial⟩, fun _ _ _ => WL.move rfl rfl <| WL.done ⟨rfl, rfl⟩⟩, ⟨rfl, trivial, fun _ _ _ => WL.nilCheck rfl rfl <| WL.done ⟨rfl, rfl⟩⟩, ⟨rfl, trivial, fun _ _ _ => WL.fieldA (off := 5) XA93_3 rfl rfl <| WL.done ⟨rfl, rfl⟩⟩, ⟨rfl, trivial, fun _ hE _ => have hS := hS.grow (hE rfl); WL.load XU22 rfl rfl (Rd.at_ (hS.ro hg_c) (j := 5) rfl) rfl <| WL.done ⟨rfl, ext_refl _⟩⟩, ⟨rfl, ⟨rfl, trivial⟩, fun _ _ _ => WL.move rfl rfl <| WL.done ⟨rfl, rfl⟩⟩, ⟨rfl, trivial, fun _ _ _ => SL.index XU22 XE3 (hS.ro hg_log) rfl rfl o33 rfl <| WL.done ⟨rfl, rfl⟩⟩, ⟨rfl, trivial, fun _ hE _ => have hS := hS.grow (hE rfl); WL.load XU3 rfl rfl (Rd.gi (hS.ro hg_log) o33) rfl <| WL.done ⟨rfl, ext_refl _⟩⟩, ⟨rfl, trivial, fun _ _ _ => WL.sub (r := ((gi Fg.log r14) - (gi Fg.log r12))) rfl rfl (wr o36) rfl <| WL.done ⟨rfl, rfl⟩⟩, ⟨rfl, trivial, fun _ _ _ => WL.assign rfl rfl <| WL.done ⟨rfl, rfl⟩⟩, trivial⟩
 intro w38 hT; have hS := hS.grow hT; refine WA.done (by decide +kernel) <| W.seq <| W.seq <| W.region <| WL.move rfl rfl <| WL.lssD rfl rfl rfl <| WL.done ?_; obtain ⟨J40, hv, hk67⟩ := hv; refine W.cutN (σ := Int) (fun z39 w1 => J40 z39 ∧ St TT w none w1 []) (fun z39 => [(0, .pointer (some ag)), (1, .int .i64 r12), (6, .int .i64 (0 : Int)), (7, .int .i64 z39)]) ?_ ?_
 ·refine W.cond2 rfl (fun c41 => ?_) (fun c41 => ?_)
  ·have hv := hv.1 (of_decide_eq_true c41); refine W.region <| WL.move rfl rfl <| WL.move rfl rfl <| WL.nilCheck rfl rfl <| WL.fieldA (off := 3) XA93_1 rfl rfl <| WL.load XU3 rfl rfl (Rd.at_ (hS.ro hg_c) (j := 3) rfl) rfl ?_; obtain ⟨o42, hv⟩ := hv; refine WL.sub (r := (Fg.q - (1 : Int))) rfl rfl (wr o42) rfl ?_; obtain ⟨o43, hv⟩ := hv; refine WL.add (r := (((gi Fg.log r14) - (gi Fg.log r12)) + (Fg.q - (1 : Int)))) rfl rfl (wr o43) rfl <| WL.assign rfl rfl <| WL.done ?_; exact ⟨(((gi Fg.log r14) - (gi Fg.log r12)) + (Fg.q - (1 : Int))), ⟨rfl, rfl, rfl, rfl, trivial⟩, rfl, hv, hS⟩
  have hv := hv.2 (of_decide_eq_false c41); refine W.skip ?_; exact ⟨((gi Fg.log r14) - (gi Fg.log r12)), ⟨rfl, rfl, rfl, rfl, trivial⟩, rfl, hv, hS⟩
 rintro z39 w44 ⟨hv, hS⟩; have hv := hk67 z39 hv; refine W.seq <| W.region <| WL.move rfl rfl <| WL.nilCheck rfl rfl <| WL.fieldA (off := 6) XA93_4 rfl rfl <| WL.load XU22 rfl rfl (Rd.at_ (hS.ro hg_c) (j := 6) rfl) rfl <| WL.move rfl rfl ?_; obtain ⟨o45, hv⟩ := hv; refine SL.index XU22 XE3 (hS.ro hg_above) rfl rfl o45 rfl <| WL.load XU3 rfl rfl (Rd.gi (hS.ro hg_above) o45) rfl <| WL.assign rfl rfl <| WL.done <| W.seq <| W.seq <| W.region <| WL.move rfl rfl <| WL.eqlD rfl rfl rfl <| WL.done <| W.cond2 rfl (fun c46 => ?_) (fun c46 => ?_)
 ·have hv := hv.1 (of_decide_eq_true c46); refine W.seq <| W.region <| WL.assign rfl rfl <| WL.done <| W.ret <| ⟨_, rfl, Fin.nil ?_⟩
  exact ⟨_, hS.ext, (hS.pick [] rfl).rows, News.of (hS.pick [] rfl).rows rfl, ⟨(0 : Int), rfl, rfl, hv⟩⟩
 have hv := hv.2 (of_decide_eq_false c46); refine W.skip <| W.seq ?_; obtain ⟨o57, hv⟩ := hv; obtain ⟨o61, hv⟩ := hv; obtain ⟨o63, hv⟩ := hv; refine W.drawV 16 [⟨[], [0], true⟩, ⟨[0], [], true⟩, ⟨[1], [], true⟩, ⟨[2], [], false⟩, ⟨[], [0], true⟩, ⟨[4], [], true⟩, ⟨[5], [], true⟩, ⟨[6], [], false⟩, ⟨[], [1], true⟩, ⟨[7, 8], [], true⟩, ⟨[9], [], false⟩, ⟨[], [8], true⟩, ⟨[10, 11], [], true⟩, ⟨[3, 12], [], true⟩, ⟨[13], [], false⟩, ⟨[14], [], true⟩] [[(0, .pointer (some ag))], [], [], [], [(0, .pointer (some ag))], [], [], [], [(1, .int .i64 r12)], [], [], [(8, .int .i64 (gi Fg.above z39))], [], [], [], []] [(66, .pointer (some ag)), (67, .pointer (some ag)), (68, .pointer (some (ag.add 4))), (69, .slice Ag_exp Fg.exp.length kg_exp), (70, .pointer (some ag)), (71, .pointer (some ag)), (72, .pointer (some (ag.add 5))), (73, .slice Ag_log Fg.log.length kg_log), (74, .int .i64 r12), (75, .pointer (some ((adOf Ag_log).add r12.toNat))), (76, .int .i64 (gi Fg.log r12)), (77, .int .i64 (gi Fg.above z39)), (78, .int .i64 ((gi Fg.log r12) + (gi Fg.above z39))), (79, .pointer (some ((adOf Ag_exp).add (((gi Fg.log r12) + (gi Fg.above z39)).toNat)))), (80, .int .i64 (gi Fg.exp ((gi Fg.log r12) + (gi Fg.above z39)))), (6, .int .i64 (gi Fg.exp ((gi Fg.log r12) + (gi Fg.above z39))))] Try.mixed (by kernel_rfl) rfl rfl ?_ ?_
 · refine ⟨⟨rfl, ⟨rfl, trivial⟩, fun _ _ _ => WL.move rfl rfl <| WL.done ⟨rfl, rfl⟩⟩, ⟨rfl, trivial, fun _ _ _ => WL.nilCheck rfl rfl <| WL.done ⟨rfl, rfl⟩⟩, ⟨rfl, trivial, fun _ _ _ => WL.fieldA (off := 4) XA93_2 rfl rfl <| WL.done ⟨rfl, rfl⟩⟩, ⟨rfl, trivial, fun _ hE _ => have hS := hS.grow (hE rfl); WL.load XU22 rfl rfl (Rd.at_ (hS.ro hg_c) (j := 4) rfl) rfl <| WL.done ⟨rfl, ext_refl _⟩⟩, ⟨rfl, ⟨rfl, trivial⟩, fun _ _ _ => WL.move rfl rfl <| WL.done ⟨rfl, rfl⟩⟩, ⟨rfl, trivial, fun _ _ _ => WL.nilCheck rfl rfl <| WL.done ⟨rfl, rfl⟩⟩, ⟨rfl, trivial, fun _ _ _ => WL.fieldA (off := 5) XA93_3 rfl rfl <| WL.done ⟨rfl, rfl⟩⟩, ⟨rfl, trivial, fun _ hE _ => have hS := hS.grow (hE rfl); WL.load XU22 rfl rfl (Rd.at_ (hS.ro hg_c) (j := 5) rfl) rfl <| WL.done ⟨rfl, ext_refl _⟩⟩, ⟨rfl, ⟨rfl, trivial⟩, fun _ _ _ => WL.move rfl rfl <| WL.done ⟨rfl, rfl⟩⟩, ⟨rfl, trivial, fun _ _ _ => SL.index XU22 XE3 (hS.ro hg_log) rfl rfl o57 rfl <| WL.done ⟨rfl, rfl⟩⟩, ⟨rfl, trivial, fun _ hE _ => have hS := hS.grow (hE rfl); WL.load XU3 rfl rfl (Rd.gi (hS.ro hg_log) o57) rfl <| WL.done ⟨rfl, ext_refl _⟩⟩, ⟨rfl, ⟨rfl, trivial⟩, fun _ _ _ => WL.move rfl rfl <| WL.done ⟨rfl, rfl⟩⟩, ⟨rfl, trivial, fun _ _ _ => WL.add (r := ((gi Fg.log r12) + (gi Fg.above z39))) rfl rfl (wr o61) rfl <| WL.done ⟨rfl, rfl⟩⟩, ⟨rfl, trivial, fun _ _ _ => SL.index XU22 XE3 (hS.ro hg_exp) rfl rfl o63 rfl <| WL.done ⟨rfl, rfl⟩⟩, ⟨rfl, trivial, fun _ hE _ => have hS := hS.grow (hE rfl); WL.load XU3 rfl rfl (Rd.gi (hS.ro hg_exp) o63) rfl <| WL.done ⟨rfl, ext_refl _⟩⟩, ⟨rfl, trivial, fun _ _ _ => WL.assign rfl rfl <| WL.done ⟨rfl, rfl⟩⟩, trivial⟩
 intro w66 hT; have hS := hS.grow hT; refine WA.done (by decide +kernel) <| W.ret <| ⟨_, rfl, Fin.nil ?_⟩
 exact ⟨_, hS.ext, (hS.pick [] rfl).rows, News.of (hS.pick [] rfl).rows rfl, ⟨(gi Fg.exp ((gi Fg.log r12) + (gi Fg.above z39))), rfl, rfl, hv⟩⟩
def V_Sub (Fg : GFv) (x : Int) (y : Int) (Q : Int → Prop) : Prop :=
  V_Neg Fg y (fun r12 => V_Add Fg x r12 (fun r14 => Q r14))
theorem ok_Sub {w : World} {Q : Int → Prop} {Fg : GFv} {x : Int} {y : Int} {ag : Addr} {Bg : Nat} (hgg : GFR Bg w ag Fg) (hv : V_Sub Fg x y Q) :
  Calls Try.prog 58 #[.pointer (some ag), .int .i64 x, .int .i64 y] w fun e w' => ∃ v Qr, e = .returned v ∧ w.grownBy w' none ∧ Rows w.heap.size none w' Qr ∧ News w.heap.size Qr ∧ ∃ (r0 : Int), v = .int .i64 r0 ∧ Qr = [] ∧ Q r0 := by
 have hgg_ := hgg; obtain ⟨Ag_mod, kg_mod, Ag_exp, kg_exp, Ag_log, kg_log, Ag_above, kg_above, hg_c, hg_mod, hg_exp, hg_log, hg_above⟩ := hgg_; refine calls_swap <| calls_of_W (vs := [.pointer (some ag), .int .i64 x, .int .i64 y]) [6] XF58 rfl rfl rfl rfl ?_; have hS := St.start w; unfold V_Sub at hv; refine W.seq <| W.region <| WL.assign rfl rfl <| WL.done <| W.seq <| W.region <| WL.move rfl rfl <| WL.move rfl rfl <| WL.move rfl rfl <| WL.move rfl rfl <| SL.call hS (ok_Neg (GFR.ext (GFR.norm hgg) hS.ext) hv) XF86 rfl XN86 rfl rfl ?_; rintro _ _ w11 ⟨r12, rfl, rfl, hv⟩ hGw11 hS; have hS := hS.n0; refine SL.call hS (ok_Add (GFR.ext (GFR.norm hgg) hS.ext) hv) XF59 rfl XN59 rfl rfl ?_; rintro _ _ w13 ⟨r14, rfl, rfl, hv⟩ hGw13 hS; have hS := hS.n0; refine WL.assign rfl rfl <| WL.done <| W.ret <| ⟨_, rfl, Fin.nil ?_⟩
 exact ⟨_, hS.ext, (hS.pick [] rfl).rows, News.of (hS.pick [] rfl).rows rfl, ⟨r14, rfl, rfl, hv⟩⟩
end Go.Proofs.Ytcmfjjbbcfddpaa
set_option linter.unusedSimpArgs false
set_option linter.unusedVariables false
set_option maxRecDepth 4000
set_option maxHeartbeats 4000000
namespace Go.Proofs.Ytcmfjjbbcfddpaa
open Go.RowKit
def V_rdivides (l : List Int) (o : List Int) (p : Int) (Q : Bool → Prop) : Prop :=
  (((0 : Nat) + (o.length : Nat) : Int) * 8 ≤ 140737488355328) ∧ (((((([] : List Int) ++ o).length : Nat) + (1 : Nat) : Int) * 8 ≤ 140737488355328) ∧ ((I64 (((((([] : List Int) ++ o) ++ ([(1 : Int)] : List Int)).length : Nat) : Int) - (1 : Int))) ∧ (∃ (I32 : List Int → Int → Prop) (μ33 : List Int → Int → Nat), I32 ((([] : List Int) ++ o) ++ ([(1 : Int)] : List Int)) (((((([] : List Int) ++ o) ++ ([(1 : Int)] : List Int)).length : Nat) : Int) - (1 : Int)) ∧ ∀ (x30 : List Int) (z31 : Int), (I32 x30 z31 → (((((l.length : Nat) : Int) ≤ z31) → ((0 ≤ z31 ∧ z31 < (((([] : List Int) ++ o) ++ ([(1 : Int)] : List Int)).length : Nat)) ∧ (∃ (I43 : List Int → Int → Prop) (μ44 : List Int → Int → Nat), I43 x30 (0 : Int) ∧ ∀ (x41 : List Int) (z42 : Int), (I43 x41 z42 → (((z42 < ((l.length : Nat) : Int)) → ((I64 (z31 - ((l.length : Nat) : Int))) ∧ ((I64 ((z31 - ((l.length : Nat) : Int)) + z42)) ∧ ((I64 (z31 - ((l.length : Nat) : Int))) ∧ ((I64 ((z31 - ((l.length : Nat) : Int)) + z42)) ∧ ((0 ≤ ((z31 - ((l.length : Nat) : Int)) + z42) ∧ ((z31 - ((l.length : Nat) : Int)) + z42) < (((([] : List Int) ++ o) ++ ([(1 : Int)] : List Int)).length : Nat)) ∧ ((I64 (p - (gi x30 z31))) ∧ ((0 ≤ z42 ∧ z42 < (l.length : Nat)) ∧ ((I64 ((p - (gi x30 z31)) * (gi l z42))) ∧ ((I64 ((gi x41 ((z31 - ((l.length : Nat) : Int)) + z42)) + ((p - (gi x30 z31)) * (gi l z42)))) ∧ ((p ≠ 0) ∧ ((0 ≤ ((z31 - ((l.length : Nat) : Int)) + z42) ∧ ((z31 - ((l.length : Nat) : Int)) + z42) < (((([] : List Int) ++ o) ++ ([(1 : Int)] : List Int)).length : Nat)) ∧ ((I64 (z42 + (1 : Int))) ∧ (I43 (si x41 ((z31 - ((l.length : Nat) : Int)) + z42) (((gi x41 ((z31 - ((l.length : Nat) : Int)) + z42)) + ((p - (gi x30 z31)) * (gi l z42))).tmod p)) (z42 + (1 : Int)) ∧ μ44 (si x41 ((z31 - ((l.length : Nat) : Int)) + z42) (((gi x41 ((z31 - ((l.length : Nat) : Int)) + z42)) + ((p - (gi x30 z31)) * (gi l z42))).tmod p)) (z42 + (1 : Int)) < μ44 x41 z42)))))))))))))) ∧ (¬ (z42 < ((l.length : Nat) : Int)) → ((0 ≤ z31 ∧ z31 < (((([] : List Int) ++ o) ++ ([(1 : Int)] : List Int)).length : Nat)) ∧ ((I64 (z31 - (1 : Int))) ∧ (I32 (si x41 z31 (0 : Int)) (z31 - (1 : Int)) ∧ μ33 (si x41 z31 (0 : Int)) (z31 - (1 : Int)) < μ33 x30 z31))))))))) ∧ (¬ (((l.length : Nat) : Int) ≤ z31) → (∃ (I93 : Int → Prop) (μ94 : Int → Nat), I93 (0 : Int) ∧ ∀ (z92 : Int), (I93 z92 → (((z92 < ((((([] : List Int) ++ o) ++ ([(1 : Int)] : List Int)).length : Nat) : Int)) → ((0 ≤ z92 ∧ z92 < (((([] : List Int) ++ o) ++ ([(1 : Int)] : List Int)).length : Nat)) ∧ ((((gi x30 z92) ≠ (0 : Int)) → Q false) ∧ (¬ ((gi x30 z92) ≠ (0 : Int)) → ((I64 (z92 + (1 : Int))) ∧ (I93 (z92 + (1 : Int)) ∧ μ94 (z92 + (1 : Int)) < μ94 z92)))))) ∧ (¬ (z92 < ((((([] : List Int) ++ o) ++ ([(1 : Int)] : List Int)).length : Nat) : Int)) → Q true))))))))))
theorem ok_rdivides {w : World} {Q : Bool → Prop} {l : List Int} {o : List Int} {p : Int} {Bl : Nat} {Al : Option Addr} {nl kl : Nat} (hl : Rd Bl w 1 Al nl kl (is l)) {Bo : Nat} {Ao : Option Addr} {no ko : Nat} (ho : Rd Bo w 1 Ao no ko (is o)) (hv : V_rdivides l o p Q) :
   Calls Try.prog 103 #[.slice Al nl kl, .slice Ao no ko, .int .i64 p] w fun e w' => ∃ v Qr, e = .returned v ∧ w.grownBy w' none ∧ Rows w.heap.size none w' Qr ∧ News w.heap.size Qr ∧ ∃ (r0 : Bool), v = .bool r0 ∧ Qr = [] ∧ Q r0 := by
 have hnl := hl.ilen; subst hnl; have hno := ho.ilen; subst hno; refine calls_swap <| calls_of_W (vs := [.slice Al l.length kl, .slice Ao o.length ko, .int .i64 p]) [6] XF103 rfl rfl rfl rfl ?_; have hS := St.start w; unfold V_rdivides at hv; refine W.seq <| W.region <| WL.assign rfl rfl <| WL.done <| W.seq <| W.region <| WL.move rfl rfl <| WL.len XU22 rfl rfl <| WL.assign rfl rfl <| WL.done <| W.seq <| W.region <| SL.lit1 (vs := is ([] : List Int)) hS XU22 XE3 rfl rfl rfl rfl (is_one _) rfl ?_; intro A11 w12 hS; refine WL.move rfl rfl ?_; obtain ⟨o14, hv⟩ := hv; refine SL.append (cs := is ([] : List Int)) (cs' := is o) 0 ((([] : List Int) ++ o).length) (is (([] : List Int) ++ o)) hS rfl XU22 XE3 (hS.ro ho) (is_one _) rfl rfl (apk o14).1 (apk o14).2 (is_ap (hS.rd (i := 0) rfl) (hS.ro ho)) (is_append _ _) rfl ?_; intro A15 k16 w17 hS; refine WL.assign rfl rfl <| WL.done <| W.seq <| W.region <| WL.move rfl rfl <| SL.lit1 (vs := is ([(1 : Int)] : List Int)) hS XU22 XE3 rfl rfl rfl rfl (is_one _) rfl ?_; intro A18 w19 hS; obtain ⟨o21, hv⟩ := hv; refine SL.append (cs := is (([] : List Int) ++ o)) (cs' := is ([(1 : Int)] : List Int)) 1 (((([] : List Int) ++ o) ++ ([(1 : Int)] : List Int)).length) (is ((([] : List Int) ++ o) ++ ([(1 : Int)] : List Int))) hS rfl XU22 XE3 (hS.rd (i := 0) rfl) (is_one _) rfl rfl (apk o21).1 (apk o21).2 (is_ap (hS.rd (i := 1) rfl) (hS.rd (i := 0) rfl)) (is_append _ _) rfl ?_; intro A22 k23 w24 hS; refine WL.assign rfl rfl <| WL.done <| W.seq <| W.seq <| W.region <| WL.move rfl rfl <| WL.len XU22 rfl rfl ?_; obtain ⟨o25, hv⟩ := hv; refine WL.sub (r := (((((([] : List Int) ++ o) ++ ([(1 : Int)] : List Int)).length : Nat) : Int) - (1 : Int))) rfl rfl (wr o25) rfl <| WL.assign rfl rfl <| WL.done <| W.block ?_; obtain ⟨I32, μ33, hv, hk101⟩ := hv; refine W.loop (σ := List Int × Int) (fun q w1 => match q with | (x30, z31) => I32 x30 z31 ∧ St TT w none w1 [.row 3 1 A18 1 1 (is ([(1 : Int)] : List Int)), .row 3 1 A22 (((([] : List Int) ++ o) ++ ([(1 : Int)] : List Int)).length) k23 (is x30)]) (fun q => match q with | (x30, z31) => [(0, .slice Al l.length kl), (2, .int .i64 p), (6, .bool false), (7, .int .i64 ((l.length : Nat) : Int)), (8, .slice A22 (((([] : List Int) ++ o) ++ ([(1 : Int)] : List Int)).length) k23), (9, .int .i64 z31)]) (fun q => match q with | (x30, z31) => μ33 x30 z31) ((([] : List Int) ++ o) ++ ([(1 : Int)] : List Int), (((((([] : List Int) ++ o) ++ ([(1 : Int)] : List Int)).length : Nat) : Int) - (1 : Int))) ⟨hv, hS⟩ ⟨rfl, rfl, rfl, rfl, rfl, rfl, trivial⟩ ?_; rintro ⟨x30, z31⟩ w34 ⟨hv, hS⟩; have hv := hk101 x30 z31 hv; refine W.seq <| W.seq <| W.region <| WL.move rfl rfl <| WL.move rfl rfl <| WL.geqD rfl rfl rfl <| WL.done <| W.cond2 rfl (fun c35 => ?_) (fun c35 => ?_)
 ·have hv := hv.1 (of_decide_eq_true c35); refine W.skip <| W.seq <| W.block <| W.seq <| W.region <| WL.move rfl rfl <| WL.move rfl rfl ?_; obtain ⟨o36, hv⟩ := hv; refine SL.index XU22 XE3 (hS.rd (i := 1) rfl) rfl rfl o36 rfl <| WL.load XU3 rfl rfl (Rd.gi (hS.rd (i := 1) rfl) o36) rfl <| WL.assign rfl rfl <| WL.done <| W.seq <| W.seq <| W.region <| WL.assign rfl rfl <| WL.done <| W.block ?_; obtain ⟨I43, μ44, hv, hk89⟩ := hv; refine W.loop (σ := List Int × Int) (fun q w1 => match q with | (x41, z42) => I43 x41 z42 ∧ St TT w none w1 [.row 3 1 A18 1 1 (is ([(1 : Int)] : List Int)), .row 3 1 A22 (((([] : List Int) ++ o) ++ ([(1 : Int)] : List Int)).length) k23 (is x41)]) (fun q => match q with | (x41, z42) => [(0, .slice Al l.length kl), (2, .int .i64 p), (6, .bool false), (7, .int .i64 ((l.length : Nat) : Int)), (8, .slice A22 (((([] : List Int) ++ o) ++ ([(1 : Int)] : List Int)).length) k23), (9, .int .i64 z31), (10, .int .i64 (gi x30 z31)), (11, .int .i64 z42), (26, .bool (decide (((l.length : Nat) : Int) ≤ z31)))]) (fun q => match q with | (x41, z42) => μ44 x41 z42) (x30, (0 : Int)) ⟨hv, hS⟩ ⟨rfl, rfl, rfl, rfl, rfl, rfl, rfl, rfl, rfl, trivial⟩ ?_; rintro ⟨x41, z42⟩ w45 ⟨hv, hS⟩; have hv := hk89 x41 z42 hv; refine W.seq <| W.seq <| W.region <| WL.move rfl rfl <| WL.move rfl rfl <| WL.lssD rfl rfl rfl <| WL.done <| W.cond2 rfl (fun c46 => ?_) (fun c46 => ?_)
  ·have hv := hv.1 (of_decide_eq_true c46); refine W.skip <| W.seq <| W.block ?_; obtain ⟨o51, hv⟩ := hv; obtain ⟨o54, hv⟩ := hv; obtain ⟨o59, hv⟩ := hv; obtain ⟨o62, hv⟩ := hv; obtain ⟨o64, hv⟩ := hv; obtain ⟨o69, hv⟩ := hv; obtain ⟨o73, hv⟩ := hv; obtain ⟨o76, hv⟩ := hv; obtain ⟨o78, hv⟩ := hv; obtain ⟨o81, hv⟩ := hv; refine W.drawV 25 [⟨[], [8], true⟩, ⟨[], [9], true⟩, ⟨[], [7], true⟩, ⟨[1, 2], [], true⟩, ⟨[], [11], true⟩, ⟨[3, 4], [], true⟩, ⟨[], [8], true⟩, ⟨[], [9], true⟩, ⟨[], [7], true⟩, ⟨[7, 8], [], true⟩, ⟨[], [11], true⟩, ⟨[9, 10], [], true⟩, ⟨[6, 11], [], true⟩, ⟨[12], [], false⟩, ⟨[], [2], true⟩, ⟨[], [10], true⟩, ⟨[14, 15], [], true⟩, ⟨[], [0], true⟩, ⟨[], [11], true⟩, ⟨[17, 18], [], true⟩, ⟨[19], [], false⟩, ⟨[16, 20], [], true⟩, ⟨[13, 21], [], true⟩, ⟨[], [2], true⟩, ⟨[22, 23], [], true⟩] [[(8, .slice A22 (((([] : List Int) ++ o) ++ ([(1 : Int)] : List Int)).length) k23)], [(9, .int .i64 z31)], [(7, .int .i64 ((l.length : Nat) : Int))], [], [(11, .int .i64 z42)], [], [(8, .slice A22 (((([] : List Int) ++ o) ++ ([(1 : Int)] : List Int)).length) k23)], [(9, .int .i64 z31)], [(7, .int .i64 ((l.length : Nat) : Int))], [], [(11, .int .i64 z42)], [], [], [], [(2, .int .i64 p)], [(10, .int .i64 (gi x30 z31))], [], [(0, .slice Al l.length kl)], [(11, .int .i64 z42)], [], [], [], [], [(2, .int .i64 p)], []] [(38, .slice A22 (((([] : List Int) ++ o) ++ ([(1 : Int)] : List Int)).length) k23), (39, .int .i64 z31), (40, .int .i64 ((l.length : Nat) : Int)), (41, .int .i64 (z31 - ((l.length : Nat) : Int))), (42, .int .i64 z42), (43, .int .i64 ((z31 - ((l.length : Nat) : Int)) + z42)), (44, .slice A22 (((([] : List Int) ++ o) ++ ([(1 : Int)] : List Int)).length) k23), (45, .int .i64 z31), (46, .int .i64 ((l.length : Nat) : Int)), (47, .int .i64 (z31 - ((l.length : Nat) : Int))), (48, .int .i64 z42), (49, .int .i64 ((z31 - ((l.length : Nat) : Int)) + z42)), (50, .pointer (some ((adOf A22).add (((z31 - ((l.length : Nat) : Int)) + z42).toNat)))), (51, .int .i64 (gi x41 ((z31 - ((l.length : Nat) : Int)) + z42))), (52, .int .i64 p), (53, .int .i64 (gi x30 z31)), (54, .int .i64 (p - (gi x30 z31))), (55, .slice Al l.length kl), (56, .int .i64 z42), (57, .pointer (some ((adOf Al).add z42.toNat))), (58, .int .i64 (gi l z42)), (59, .int .i64 ((p - (gi x30 z31)) * (gi l z42))), (60, .int .i64 ((gi x41 ((z31 - ((l.length : Nat) : Int)) + z42)) + ((p - (gi x30 z31)) * (gi l z42)))), (61, .int .i64 p), (62, .int .i64 (((gi x41 ((z31 - ((l.length : Nat) : Int)) + z42)) + ((p - (gi x30 z31)) * (gi l z42))).tmod p))] Try.mixed (by kernel_rfl) rfl rfl ?_ ?_
   ·refine ⟨⟨rfl, ⟨rfl, trivial⟩, fun _ _ _ => WL.move rfl rfl <| WL.done ⟨rfl, rfl⟩⟩, ⟨rfl, ⟨rfl, trivial⟩, fun _ _ _ => WL.move rfl rfl <| WL.done ⟨rfl, rfl⟩⟩, ⟨rfl, ⟨rfl, trivial⟩, fun _ _ _ => WL.move rfl rfl <| WL.done ⟨rfl, rfl⟩⟩, ⟨rfl, trivial, fun _ _ _ => WL.sub (r := (z31 - ((l.length : Nat) : Int))) rfl rfl (wr o51) rfl <| WL.done ⟨rfl, rfl⟩⟩, ⟨rfl, ⟨rfl, trivial⟩, fun _ _ _ => WL.move rfl rfl <| WL.done ⟨rfl, rfl⟩⟩, ⟨rfl, trivial, fun _ _ _ => WL.add (r := ((z31 - ((l.length : Nat) : Int)) + z42)) rfl rfl (wr o54) rfl <| WL.done ⟨rfl, rfl⟩⟩, ⟨rfl, ⟨rfl, trivial⟩, fun _ _ _ => WL.move rfl rfl <| WL.done ⟨rfl, rfl⟩⟩, ⟨rfl, ⟨rfl, trivial⟩, fun _ _ _ => WL.move rfl rfl <| WL.done ⟨rfl, rfl⟩⟩, ⟨rfl, ⟨rfl, trivial⟩, fun _ _ _ => WL.move rfl rfl <| WL.done ⟨rfl, rfl⟩⟩, ⟨rfl, trivial, fun _ _ _ => WL.sub (r := (z31 - ((l.length : Nat) : Int))) rfl rfl (wr o59) rfl <| WL.done ⟨rfl, rfl⟩⟩, ⟨rfl, ⟨rfl, trivial⟩, fun _ _ _ => WL.move rfl rfl <| WL.done ⟨rfl, rfl⟩⟩, ⟨rfl, trivial, fun _ _ _ => WL.add (r := ((z31 - ((l.length : Nat) : Int)) + z42)) rfl rfl (wr o62) rfl <| WL.done ⟨rfl, rfl⟩⟩, ⟨rfl, trivial, fun _ _ _ => SL.index XU22 XE3 (hS.rd (i := 1) rfl) rfl rfl o64 rfl <| WL.done ⟨rfl, rfl⟩⟩, ⟨rfl, trivial, fun _ hE _ => have hS := hS.grow (hE rfl); WL.load XU3 rfl rfl (Rd.gi (hS.rd (i := 1) rfl) o64) rfl <| WL.done ⟨rfl, ext_refl _⟩⟩, ⟨rfl, ⟨rfl, trivial⟩, fun _ _ _ => WL.move rfl rfl <| WL.done ⟨rfl, rfl⟩⟩, ⟨rfl, ⟨rfl, trivial⟩, fun _ _ _ => WL.move rfl rfl <| WL.done ⟨rfl, rfl⟩⟩, ⟨rfl, trivial, fun _ _ _ => WL.sub (r := (p - (gi x30 z31))) rfl rfl (wr o69) rfl <| WL.done ⟨rfl, rfl⟩⟩, ⟨rfl, ⟨rfl, trivial⟩, fun _ _ _ => WL.move rfl rfl <| WL.done ⟨rfl, rfl⟩⟩, ⟨rfl, ⟨rfl, trivial⟩, fun _ _ _ => WL.move rfl rfl <| WL.done ⟨rfl, rfl⟩⟩, ⟨rfl, trivial, fun _ _ _ => SL.index XU22 XE3 (hS.ro hl) rfl rfl o73 rfl <| WL.done ⟨rfl, rfl⟩⟩, ⟨rfl, trivial, fun _ hE _ => have hS := hS.grow (hE rfl); WL.load XU3 rfl rfl (Rd.gi (hS.ro hl) o73) rfl <| WL.done ⟨rfl, ext_refl _⟩⟩, ⟨rfl, trivial, fun _ _ _ => WL.mul (r := ((p - (gi x30 z31)) * (gi l z42))) rfl rfl (wr o76) rfl <| WL.done ⟨rfl, rfl⟩⟩, ⟨rfl, trivial, fun _ _ _ => WL.add (r := ((gi x41 ((z31 - ((l.length : Nat) : Int)) + z42)) + ((p - (gi x30 z31)) * (gi l z42)))) rfl rfl (wr o78) rfl <| WL.done ⟨rfl, rfl⟩⟩, ⟨rfl, ⟨rfl, trivial⟩, fun _ _ _ => WL.move rfl rfl <| WL.done ⟨rfl, rfl⟩⟩, ⟨rfl, trivial, fun _ _ _ => WL.rem (r := (((gi x41 ((z31 - ((l.length : Nat) : Int)) + z42)) + ((p - (gi x30 z31)) * (gi l z42))).tmod p)) rfl rfl o81 rfl rfl <| WL.done ⟨rfl, rfl⟩⟩, trivial⟩
   intro w82 hT; have hS := hS.grow hT; refine WA.step1 25 (by decide +kernel) rfl ?_; obtain ⟨o83, hv⟩ := hv; refine SL.index XU22 XE3 (hS.rd (i := 1) rfl) rfl rfl o83 rfl <| WL.done <| WA.step1 26 (by decide +kernel) rfl <| SL.store (cs' := is (si x41 ((z31 - ((l.length : Nat) : Int)) + z42) (((gi x41 ((z31 - ((l.length : Nat) : Int)) + z42)) + ((p - (gi x30 z31)) * (gi l z42))).tmod p))) 1 ((z31 - ((l.length : Nat) : Int)) + z42).toNat hS rfl XE3 rfl rfl rfl (is_lt (hS.rd (i := 1) rfl) o83) (is_set _ _ _) ?_; intro w84 hS; refine WL.done <| WA.done (by decide +kernel) <| W.region <| WL.move rfl rfl ?_; obtain ⟨o85, hv⟩ := hv; refine WL.add (r := (z42 + (1 : Int))) rfl rfl (wr o85) rfl <| WL.assign rfl rfl <| WL.done ?_; exact ⟨(si x41 ((z31 - ((l.length : Nat) : Int)) + z42) (((gi x41 ((z31 - ((l.length : Nat) : Int)) + z42)) + ((p - (gi x30 z31)) * (gi l z42))).tmod p), (z42 + (1 : Int))), ⟨rfl, rfl, rfl, rfl, rfl, rfl, rfl, rfl, rfl, trivial⟩, hv.2, rfl, hv.1, hS⟩
  have hv := hv.2 (of_decide_eq_false c46); refine W.exit <| W.region <| WL.move rfl rfl <| WL.move rfl rfl ?_; obtain ⟨o86, hv⟩ := hv; refine SL.index XU22 XE3 (hS.rd (i := 1) rfl) rfl rfl o86 rfl <| SL.store (cs' := is (si x41 z31 (0 : Int))) 1 z31.toNat hS rfl XE3 rfl rfl rfl (is_lt (hS.rd (i := 1) rfl) o86) (is_set _ _ _) ?_; intro w87 hS; refine WL.done <| W.region <| WL.move rfl rfl ?_; obtain ⟨o88, hv⟩ := hv; refine WL.sub (r := (z31 - (1 : Int))) rfl rfl (wr o88) rfl <| WL.assign rfl rfl <| WL.done ?_; exact ⟨(si x41 z31 (0 : Int), (z31 - (1 : Int))), ⟨rfl, rfl, rfl, rfl, rfl, rfl, trivial⟩, hv.2, rfl, hv.1, hS⟩
 have hv := hv.2 (of_decide_eq_false c35); refine W.exit <| W.seq <| W.seq <| W.region <| WL.assign rfl rfl <| WL.done <| W.block ?_; obtain ⟨I93, μ94, hv, hk100⟩ := hv; refine W.loop (σ := Int) (fun z92 w1 => I93 z92 ∧ St TT w none w1 [.row 3 1 A18 1 1 (is ([(1 : Int)] : List Int)), .row 3 1 A22 (((([] : List Int) ++ o) ++ ([(1 : Int)] : List Int)).length) k23 (is x30)]) (fun z92 => [(6, .bool false), (8, .slice A22 (((([] : List Int) ++ o) ++ ([(1 : Int)] : List Int)).length) k23), (12, .int .i64 z92)]) (fun z92 => μ94 z92) (0 : Int) ⟨hv, hS⟩ ⟨rfl, rfl, rfl, trivial⟩ ?_; rintro z92 w95 ⟨hv, hS⟩; have hv := hk100 z92 hv; refine W.seq <| W.seq <| W.region <| WL.move rfl rfl <| WL.move rfl rfl <| WL.len XU22 rfl rfl <| WL.lssD rfl rfl rfl <| WL.done <| W.cond2 rfl (fun c96 => ?_) (fun c96 => ?_)
 ·have hv := hv.1 (of_decide_eq_true c96); refine W.skip <| W.seq <| W.block <| W.seq <| W.region <| WL.move rfl rfl <| WL.move rfl rfl ?_; obtain ⟨o97, hv⟩ := hv; refine SL.index XU22 XE3 (hS.rd (i := 1) rfl) rfl rfl o97 rfl <| WL.load XU3 rfl rfl (Rd.gi (hS.rd (i := 1) rfl) o97) rfl <| WL.neqD rfl rfl rfl <| WL.done <| W.cond2 rfl (fun c98 => ?_) (fun c98 => ?_)
  ·have hv := hv.1 (of_decide_eq_true c98); refine W.seq <| W.region <| WL.assign rfl rfl <| WL.done <| W.ret <| ⟨_, rfl, Fin.nil ?_⟩
   exact ⟨_, hS.ext, (hS.pick [] rfl).rows, News.of (hS.pick [] rfl).rows rfl, ⟨false, rfl, rfl, hv⟩⟩
  have hv := hv.2 (of_decide_eq_false c98); refine W.skip <| W.region <| WL.move rfl rfl ?_; obtain ⟨o99, hv⟩ := hv; refine WL.add (r := (z92 + (1 : Int))) rfl rfl (wr o99) rfl <| WL.assign rfl rfl <| WL.done ?_; exact ⟨(z92 + (1 : Int)), ⟨rfl, rfl, rfl, trivial⟩, hv.2, rfl, hv.1, hS⟩
 have hv := hv.2 (of_decide_eq_false c96); refine W.exit <| W.seq <| W.region <| WL.assign rfl rfl <| WL.done <| W.ret <| ⟨_, rfl, Fin.nil ?_⟩
 exact ⟨_, hS.ext, (hS.pick [] rfl).rows, News.of (hS.pick [] rfl).rows rfl, ⟨true, rfl, rfl, hv⟩⟩
def V_rirr (l : List Int) (p : Int) (Q : Bool → Prop) : Prop :=
  ∃ (I17 : Int → Int → Prop) (μ18 : Int → Int → Nat), I17 (1 : Int) (1 : Int) ∧ ∀ (z15 : Int) (z16 : Int), (I17 z15 z16 → ((I64 ((2 : Int) * z16)) ∧ (((((2 : Int) * z16) ≤ ((l.length : Nat) : Int)) → ((I64 (z15 * p)) ∧ (∃ (I26 : Int → Prop) (μ27 : Int → Nat), I26 (0 : Int) ∧ ∀ (z25 : Int), (I26 z25 → (((z25 < (z15 * p)) → (V_rdigits z25 p z16 (fun x31 => V_rdivides x31 l p (fun r36 => ((r36 = true) → Q false) ∧ (r36 = false → ((I64 (z25 + (1 : Int))) ∧ (I26 (z25 + (1 : Int)) ∧ μ27 (z25 + (1 : Int)) < μ27 z25))))))) ∧ (¬ (z25 < (z15 * p)) → ((I64 (z16 + (1 : Int))) ∧ (I17 (z15 * p) (z16 + (1 : Int)) ∧ μ18 (z15 * p) (z16 + (1 : Int)) < μ18 z15 z16)))))))) ∧ (¬ (((2 : Int) * z16) ≤ ((l.length : Nat) : Int)) → Q true))))
theorem ok_rirr {w : World} {Q : Bool → Prop} {l : List Int} {p : Int} {Bl : Nat} {Al : Option Addr} {nl kl : Nat} (hl : Rd Bl w 1 Al nl kl (is l)) (hv : V_rirr l p Q) :
   Calls Try.prog 85 #[.slice Al nl kl, .int .i64 p] w fun e w' => ∃ v Qr, e = .returned v ∧ w.grownBy w' none ∧ Rows w.heap.size none w' Qr ∧ News w.heap.size Qr ∧ ∃ (r0 : Bool), v = .bool r0 ∧ Qr = [] ∧ Q r0 := by
 have hnl := hl.ilen; subst hnl; refine calls_swap <| calls_of_W (vs := [.slice Al l.length kl, .int .i64 p]) [4] XF85 rfl rfl rfl rfl ?_; have hS := St.start w; unfold V_rirr at hv; refine W.seq <| W.region <| WL.assign rfl rfl <| WL.done <| W.seq <| W.region <| WL.assign rfl rfl <| WL.done <| W.seq <| W.seq <| W.region <| WL.assign rfl rfl <| WL.done <| W.block ?_; obtain ⟨I17, μ18, hv, hk41⟩ := hv; refine W.loop (σ := Int × Int) (fun q w1 => match q with | (z15, z16) => I17 z15 z16 ∧ St TT w none w1 []) (fun q => match q with | (z15, z16) => [(0, .slice Al l.length kl), (1, .int .i64 p), (4, .bool false), (5, .int .i64 z15), (6, .int .i64 z16)]) (fun q => match q with | (z15, z16) => μ18 z15 z16) ((1 : Int), (1 : Int)) ⟨hv, hS⟩ ⟨rfl, rfl, rfl, rfl, rfl, trivial⟩ ?_; rintro ⟨z15, z16⟩ w19 ⟨hv, hS⟩; have hv := hk41 z15 z16 hv; refine W.seq <| W.seq <| W.region <| WL.move rfl rfl ?_; obtain ⟨o20, hv⟩ := hv; refine WL.mul (r := ((2 : Int) * z16)) rfl rfl (wr o20) rfl <| WL.move rfl rfl <| WL.len XU22 rfl rfl <| WL.leqD rfl rfl rfl <| WL.done <| W.cond2 rfl (fun c21 => ?_) (fun c21 => ?_)
 ·have hv := hv.1 (of_decide_eq_true c21); refine W.skip <| W.seq <| W.block <| W.seq <| W.region <| WL.move rfl rfl <| WL.move rfl rfl ?_; obtain ⟨o22, hv⟩ := hv; refine WL.mul (r := (z15 * p)) rfl rfl (wr o22) rfl <| WL.assign rfl rfl <| WL.done <| W.seq <| W.region <| WL.assign rfl rfl <| WL.done <| W.block ?_; obtain ⟨I26, μ27, hv, hk40⟩ := hv; refine W.loop (σ := Int) (fun z25 w1 => I26 z25 ∧ St TT w none w1 []) (fun z25 => [(0, .slice Al l.length kl), (1, .int .i64 p), (4, .bool false), (5, .int .i64 (z15 * p)), (6, .int .i64 z16), (7, .int .i64 z25), (12, .bool (decide (((2 : Int) * z16) ≤ ((l.length : Nat) : Int))))]) (fun z25 => μ27 z25) (0 : Int) ⟨hv, hS⟩ ⟨rfl, rfl, rfl, rfl, rfl, rfl, rfl, trivial⟩ ?_; rintro z25 w28 ⟨hv, hS⟩; have hv := hk40 z25 hv; refine W.seq <| W.seq <| W.region <| WL.move rfl rfl <| WL.move rfl rfl <| WL.lssD rfl rfl rfl <| WL.done <| W.cond2 rfl (fun c29 => ?_) (fun c29 => ?_)
  ·have hv := hv.1 (of_decide_eq_true c29); refine W.skip <| W.seq <| W.block <| W.seq <| W.region <| WL.move rfl rfl <| WL.move rfl rfl <| WL.move rfl rfl <| SL.call hS (ok_rdigits  hv) XF91 rfl XN91 rfl rfl ?_; rintro _ _ w30 ⟨x31, A32, k33, rfl, rfl, hv⟩ hGw30 hS; have hS := hS.n1; refine WL.move rfl rfl <| WL.move rfl rfl <| SL.call hS (ok_rdivides (hS.rd (i := 0) rfl) (hS.ro hl) hv) XF103 rfl XN103 rfl rfl ?_; rintro _ _ w35 ⟨r36, rfl, rfl, hv⟩ hGw35 hS; have hS := hS.n0; refine WL.done <| W.cond2 rfl (fun c37 => ?_) (fun c37 => ?_)
   ·have hv := hv.1 (c37); refine W.seq <| W.region <| WL.assign rfl rfl <| WL.done <| W.ret <| ⟨_, rfl, Fin.nil ?_⟩
    exact ⟨_, hS.ext, (hS.pick [] rfl).rows, News.of (hS.pick [] rfl).rows rfl, ⟨false, rfl, rfl, hv⟩⟩
   have hv := hv.2 (c37); refine W.skip <| W.region <| WL.move rfl rfl ?_; obtain ⟨o38, hv⟩ := hv; refine WL.add (r := (z25 + (1 : Int))) rfl rfl (wr o38) rfl <| WL.assign rfl rfl <| WL.done ?_; have hS := hS.pick [] rfl; exact ⟨(z25 + (1 : Int)), ⟨rfl, rfl, rfl, rfl, rfl, rfl, rfl, trivial⟩, hv.2, rfl, hv.1, hS⟩
  have hv := hv.2 (of_decide_eq_false c29); refine W.exit <| W.region <| WL.move rfl rfl ?_; obtain ⟨o39, hv⟩ := hv; refine WL.add (r := (z16 + (1 : Int))) rfl rfl (wr o39) rfl <| WL.assign rfl rfl <| WL.done ?_; exact ⟨((z15 * p), (z16 + (1 : Int))), ⟨rfl, rfl, rfl, rfl, rfl, trivial⟩, hv.2, rfl, hv.1, hS⟩
 have hv := hv.2 (of_decide_eq_false c21); refine W.exit <| W.seq <| W.region <| WL.assign rfl rfl <| WL.done <| W.ret <| ⟨_, rfl, Fin.nil ?_⟩
 exact ⟨_, hS.ext, (hS.pick [] rfl).rows, News.of (hS.pick [] rfl).rows rfl, ⟨true, rfl, rfl, hv⟩⟩
def V_rCheck (Pf : Int) (Mf : Int) (mf : List Int) (Q : Int → Prop) : Prop :=
  V_rOrder Pf Mf mf (fun r14 => ((r14 = (0 : Int)) → (Q (1 : Int))) ∧ (¬ (r14 = (0 : Int)) → (V_rprime Pf (fun r17 => (((!r17) = true) → (Q (1 : Int))) ∧ ((!r17) = false → (((Mf = (1 : Int)) → (((((mf.length : Nat) : Int) ≠ (0 : Int)) → (Q (1 : Int))) ∧ (¬ (((mf.length : Nat) : Int) ≠ (0 : Int)) → (Q (0 : Int))))) ∧ (¬ (Mf = (1 : Int)) → (((((mf.length : Nat) : Int) ≠ Mf) → (Q (1 : Int))) ∧ (¬ (((mf.length : Nat) : Int) ≠ Mf) → (∃ (I25 : Int → Prop) (μ26 : Int → Nat), I25 (0 : Int) ∧ ∀ (z24 : Int), (I25 z24 → (((z24 < Mf) → ((((gi mf z24) < (0 : Int)) → ((0 ≤ z24 ∧ z24 < (mf.length : Nat)) ∧ (Q (1 : Int)))) ∧ (¬ ((gi mf z24) < (0 : Int)) → ((0 ≤ z24 ∧ z24 < (mf.length : Nat)) ∧ ((0 ≤ z24 ∧ z24 < (mf.length : Nat)) ∧ (((Pf ≤ (gi mf z24)) → (Q (1 : Int))) ∧ (¬ (Pf ≤ (gi mf z24)) → ((I64 (z24 + (1 : Int))) ∧ (I25 (z24 + (1 : Int)) ∧ μ26 (z24 + (1 : Int)) < μ26 z24))))))))) ∧ (¬ (z24 < Mf) → (V_rirr mf Pf (fun r70 => (((!r70) = true) → (Q (1 : Int))) ∧ ((!r70) = false → (Q (0 : Int))))))))))))))))))
theorem ok_rCheck {w : World} {Q : Int → Prop} {Pf : Int} {Mf : Int} {mf : List Int} {Bf : Nat} {Af : Option Addr} {nf kf : Nat} (hf : Rd Bf w 1 Af nf kf (is mf)) (hv : V_rCheck Pf Mf mf Q) :
   Calls Try.prog 55 #[.agg #[.int .i64 Pf, .int .i64 Mf, .slice Af nf kf]] w fun e w' => ∃ v Qr, e = .returned v ∧ w.grownBy w' none ∧ Rows w.heap.size none w' Qr ∧ News w.heap.size Qr ∧ ∃ (r0 : Int), v = .int .i64 r0 ∧ Qr = [] ∧ Q r0 := by
 have hnf := hf.ilen; subst hnf; refine calls_swap <| calls_of_W (vs := [.agg #[.int .i64 Pf, .int .i64 Mf, .slice Af mf.length kf]]) [2] XF55 rfl rfl rfl rfl ?_; have hS := St.start w; unfold V_rCheck at hv; refine W.seq <| W.region <| SL.box (z := 3) (cs := [.int .i64 Pf, .int .i64 Mf, .slice Af mf.length kf]) hS rfl rfl rfl rfl ?_; intro g11 w12 hS; refine WL.assign rfl rfl <| WL.done <| W.seq <| W.seq <| W.region <| WL.loadV (cs := [.int .i64 Pf, .int .i64 Mf, .slice Af mf.length kf]) XE24 XG24 rfl rfl (Own.vcells (hS.own (i := 0) rfl)) rfl <| SL.call hS (ok_rOrder (hS.ro hf) hv) XF42 rfl XN42 rfl rfl ?_; rintro _ _ w13 ⟨r14, rfl, rfl, hv⟩ hGw13 hS; have hS := hS.n0; refine WL.eqlD rfl rfl rfl <| WL.move rfl rfl ?_; by_cases g15 : r14 = (0 : Int)
 ·have hv := hv.1 g15; rw [decide_eq_true g15]; refine WL.pass rfl rfl rfl <| WL.pass rfl rfl rfl <| WL.pass rfl rfl rfl <| WL.pass rfl rfl rfl <| WL.pick rfl rfl rfl <| WL.done <| W.condT rfl <| W.seq <| W.region <| WL.assign rfl rfl <| WL.done <| W.ret <| ⟨_, rfl, Fin.nil ?_⟩
  exact ⟨_, hS.ext, (hS.pick [] rfl).rows, News.of (hS.pick [] rfl).rows rfl, ⟨(1 : Int), rfl, rfl, hv⟩⟩
 have hv := hv.2 g15; rw [decide_eq_false g15]; refine WL.take rfl <| WL.fieldA (off := 0) XA24_0 rfl rfl <| WL.take rfl <| WL.load XU3 rfl rfl (Own.vcells (hS.own (i := 0) rfl) 0 _ rfl) rfl <| WL.take rfl <| SL.call hS (ok_rprime  hv) XF84 rfl XN84 rfl rfl ?_; rintro _ _ w16 ⟨r17, rfl, rfl, hv⟩ hGw16 hS; have hS := hS.n0; refine WL.take rfl <| WL.not rfl rfl <| WL.pick rfl rfl rfl <| WL.done <| W.cond2 rfl (fun c18 => ?_) (fun c18 => ?_)
 ·have hv := hv.1 (c18); refine W.seq <| W.region <| WL.assign rfl rfl <| WL.done <| W.ret <| ⟨_, rfl, Fin.nil ?_⟩
  exact ⟨_, hS.ext, (hS.pick [] rfl).rows, News.of (hS.pick [] rfl).rows rfl, ⟨(1 : Int), rfl, rfl, hv⟩⟩
 have hv := hv.2 (c18); refine W.skip <| W.seq <| W.seq <| W.region <| WL.fieldA (off := 1) XA24_1 rfl rfl <| WL.load XU3 rfl rfl (Own.vcells (hS.own (i := 0) rfl) 1 _ rfl) rfl <| WL.eqlD rfl rfl rfl <| WL.done <| W.cond2 rfl (fun c19 => ?_) (fun c19 => ?_)
 ·have hv := hv.1 (of_decide_eq_true c19); refine W.seq <| W.seq <| W.region <| WL.fieldA (off := 2) XA24_2 rfl rfl <| WL.load XU22 rfl rfl (Own.vcells (hS.own (i := 0) rfl) 2 _ rfl) rfl <| WL.len XU22 rfl rfl <| WL.neqD rfl rfl rfl <| WL.done <| W.cond2 rfl (fun c20 => ?_) (fun c20 => ?_)
  ·have hv := hv.1 (of_decide_eq_true c20); refine W.seq <| W.region <| WL.assign rfl rfl <| WL.done <| W.ret <| ⟨_, rfl, Fin.nil ?_⟩
   exact ⟨_, hS.ext, (hS.pick [] rfl).rows, News.of (hS.pick [] rfl).rows rfl, ⟨(1 : Int), rfl, rfl, hv⟩⟩
  have hv := hv.2 (of_decide_eq_false c20); refine W.skip <| W.seq <| W.region <| WL.assign rfl rfl <| WL.done <| W.ret <| ⟨_, rfl, Fin.nil ?_⟩
  exact ⟨_, hS.ext, (hS.pick [] rfl).rows, News.of (hS.pick [] rfl).rows rfl, ⟨(0 : Int), rfl, rfl, hv⟩⟩
 have hv := hv.2 (of_decide_eq_false c19); refine W.skip <| W.seq <| W.seq <| W.region <| WL.fieldA (off := 2) XA24_2 rfl rfl <| WL.load XU22 rfl rfl (Own.vcells (hS.own (i := 0) rfl) 2 _ rfl) rfl <| WL.len XU22 rfl rfl <| WL.fieldA (off := 1) XA24_1 rfl rfl <| WL.load XU3 rfl rfl (Own.vcells (hS.own (i := 0) rfl) 1 _ rfl) rfl <| WL.neqD rfl rfl rfl <| WL.done <| W.cond2 rfl (fun c21 => ?_) (fun c21 => ?_)
 ·have hv := hv.1 (of_decide_eq_true c21); refine W.seq <| W.region <| WL.assign rfl rfl <| WL.done <| W.ret <| ⟨_, rfl, Fin.nil ?_⟩
  exact ⟨_, hS.ext, (hS.pick [] rfl).rows, News.of (hS.pick [] rfl).rows rfl, ⟨(1 : Int), rfl, rfl, hv⟩⟩
 have hv := hv.2 (of_decide_eq_false c21); refine W.skip <| W.seq <| W.seq <| W.region <| WL.assign rfl rfl <| WL.done <| W.block ?_; obtain ⟨I25, μ26, hv, hk72⟩ := hv; refine W.loop (σ := Int) (fun z24 w1 => I25 z24 ∧ St TT w none w1 [.row 24 3 (some ⟨g11, 0, none⟩) 1 1 [.int .i64 Pf, .int .i64 Mf, .slice Af mf.length kf]]) (fun z24 => [(1, .pointer (some ⟨g11, 0, none⟩)), (2, .int .i64 (0 : Int)), (3, .int .i64 z24)]) (fun z24 => μ26 z24) (0 : Int) ⟨hv, hS⟩ ⟨rfl, rfl, rfl, trivial⟩ ?_; rintro z24 w27 ⟨hv, hS⟩; have hv := hk72 z24 hv; refine W.seq <| W.seq <| W.region <| WL.move rfl rfl <| WL.fieldA (off := 1) XA24_1 rfl rfl <| WL.load XU3 rfl rfl (Own.vcells (hS.own (i := 0) rfl) 1 _ rfl) rfl <| WL.lssD rfl rfl rfl <| WL.done <| W.cond2 rfl (fun c28 => ?_) (fun c28 => ?_)
 ·have hv := hv.1 (of_decide_eq_true c28); refine W.skip <| W.seq <| W.block <| W.seq ?_; by_cases g29 : (gi mf z24) < (0 : Int)
  ·have hv := hv.1 g29; obtain ⟨o34, hv⟩ := hv; refine W.drawV 16 [⟨[], [1], true⟩, ⟨[0], [], false⟩, ⟨[], [3], true⟩, ⟨[1, 2], [], true⟩, ⟨[3], [], false⟩, ⟨[4], [], true⟩, ⟨[5], [], true⟩, ⟨[6], [1], true⟩, ⟨[6, 7], [], false⟩, ⟨[6], [3], true⟩, ⟨[6, 8, 9], [], true⟩, ⟨[6, 10], [], false⟩, ⟨[6], [1], true⟩, ⟨[6, 12], [], false⟩, ⟨[6, 11, 13], [], true⟩, ⟨[6, 14], [], true⟩] [[(1, .pointer (some ⟨g11, 0, none⟩))], [], [(3, .int .i64 z24)], [], [], [], [], [(1, .pointer (some ⟨g11, 0, none⟩))], [], [(3, .int .i64 z24)], [], [], [(1, .pointer (some ⟨g11, 0, none⟩))], [], [], []] [(32, .pointer (some ((⟨g11, 0, none⟩ : Addr).add 2))), (33, .slice Af mf.length kf), (34, .int .i64 z24), (35, .pointer (some ((adOf Af).add z24.toNat))), (36, .int .i64 (gi mf z24)), (37, .bool true), (38, .bool true), (39, undef), (40, undef), (41, undef), (42, undef), (43, undef), (44, undef), (45, undef), (46, undef), (47, .bool true)] Try.mixed (by kernel_rfl) rfl rfl ?_ ?_
   ·refine ⟨⟨rfl, ⟨rfl, trivial⟩, fun _ _ _ => WL.fieldA (off := 2) XA24_2 rfl rfl <| WL.done ⟨rfl, rfl⟩⟩, ⟨rfl, trivial, fun _ hE _ => have hS := hS.grow (hE rfl); WL.load XU22 rfl rfl (Own.vcells (hS.own (i := 0) rfl) 2 _ rfl) rfl <| WL.done ⟨rfl, ext_refl _⟩⟩, ⟨rfl, ⟨rfl, trivial⟩, fun _ _ _ => WL.move rfl rfl <| WL.done ⟨rfl, rfl⟩⟩, ⟨rfl, trivial, fun _ _ _ => SL.index XU22 XE3 (hS.ro hf) rfl rfl o34 rfl <| WL.done ⟨rfl, rfl⟩⟩, ⟨rfl, trivial, fun _ hE _ => have hS := hS.grow (hE rfl); WL.load XU3 rfl rfl (Rd.gi (hS.ro hf) o34) rfl <| WL.done ⟨rfl, ext_refl _⟩⟩, ⟨rfl, trivial, ?_⟩, ⟨rfl, trivial, fun _ _ _ => WL.move rfl rfl <| WL.done ⟨rfl, rfl⟩⟩, ⟨rfl, ⟨rfl, trivial⟩, fun _ _ _ => WL.pass rfl rfl rfl <| WL.done ⟨rfl, rfl⟩⟩, ⟨rfl, trivial, fun _ hE _ => have hS := hS.grow (hE rfl); WL.pass rfl rfl rfl <| WL.done ⟨rfl, ext_refl _⟩⟩, ⟨rfl, ⟨rfl, trivial⟩, fun _ _ _ => WL.pass rfl rfl rfl <| WL.done ⟨rfl, rfl⟩⟩, ⟨rfl, trivial, fun _ _ _ => WL.pass rfl rfl rfl <| WL.done ⟨rfl, rfl⟩⟩, ⟨rfl, trivial, fun _ hE _ => have hS := hS.grow (hE rfl); WL.pass rfl rfl rfl <| WL.done ⟨rfl, ext_refl _⟩⟩, ⟨rfl, ⟨rfl, trivial⟩, fun _ _ _ => WL.pass rfl rfl rfl <| WL.done ⟨rfl, rfl⟩⟩, ⟨rfl, trivial, fun _ hE _ => have hS := hS.grow (hE rfl); WL.pass rfl rfl rfl <| WL.done ⟨rfl, ext_refl _⟩⟩, ⟨rfl, trivial, fun _ _ _ => WL.pass rfl rfl rfl <| WL.done ⟨rfl, rfl⟩⟩, ⟨rfl, trivial, fun _ _ _ => WL.pick rfl rfl rfl <| WL.done ⟨rfl, rfl⟩⟩, trivial⟩; intro w36 hE RR; refine WL.lssD rfl rfl rfl ?_; rw [decide_eq_true g29]; exact WL.done ⟨rfl, rfl⟩
   intro w47 hT; have hS := hS.grow hT; refine WA.done (by decide +kernel) <| W.condT rfl <| W.seq <| W.region <| WL.assign rfl rfl <| WL.done <| W.ret <| ⟨_, rfl, Fin.nil ?_⟩
   exact ⟨_, hS.ext, (hS.pick [] rfl).rows, News.of (hS.pick [] rfl).rows rfl, ⟨(1 : Int), rfl, rfl, hv⟩⟩
  have hv := hv.2 g29; obtain ⟨o52, hv⟩ := hv; obtain ⟨o60, hv⟩ := hv; refine W.drawV 16 [⟨[], [1], true⟩, ⟨[0], [], false⟩, ⟨[], [3], true⟩, ⟨[1, 2], [], true⟩, ⟨[3], [], false⟩, ⟨[4], [], true⟩, ⟨[5], [], true⟩, ⟨[6], [1], true⟩, ⟨[6, 7], [], false⟩, ⟨[6], [3], true⟩, ⟨[6, 8, 9], [], true⟩, ⟨[6, 10], [], false⟩, ⟨[6], [1], true⟩, ⟨[6, 12], [], false⟩, ⟨[6, 11, 13], [], true⟩, ⟨[6, 14], [], true⟩] [[(1, .pointer (some ⟨g11, 0, none⟩))], [], [(3, .int .i64 z24)], [], [], [], [], [(1, .pointer (some ⟨g11, 0, none⟩))], [], [(3, .int .i64 z24)], [], [], [(1, .pointer (some ⟨g11, 0, none⟩))], [], [], []] [(32, .pointer (some ((⟨g11, 0, none⟩ : Addr).add 2))), (33, .slice Af mf.length kf), (34, .int .i64 z24), (35, .pointer (some ((adOf Af).add z24.toNat))), (36, .int .i64 (gi mf z24)), (37, .bool false), (38, .bool false), (39, .pointer (some ((⟨g11, 0, none⟩ : Addr).add 2))), (40, .slice Af mf.length kf), (41, .int .i64 z24), (42, .pointer (some ((adOf Af).add z24.toNat))), (43, .int .i64 (gi mf z24)), (44, .pointer (some ⟨g11, 0, none⟩)), (45, .int .i64 Pf), (46, .bool (decide (Pf ≤ (gi mf z24)))), (47, .bool (decide (Pf ≤ (gi mf z24))))] Try.mixed (by kernel_rfl) rfl rfl ?_ ?_
  ·refine ⟨⟨rfl, ⟨rfl, trivial⟩, fun _ _ _ => WL.fieldA (off := 2) XA24_2 rfl rfl <| WL.done ⟨rfl, rfl⟩⟩, ⟨rfl, trivial, fun _ hE _ => have hS := hS.grow (hE rfl); WL.load XU22 rfl rfl (Own.vcells (hS.own (i := 0) rfl) 2 _ rfl) rfl <| WL.done ⟨rfl, ext_refl _⟩⟩, ⟨rfl, ⟨rfl, trivial⟩, fun _ _ _ => WL.move rfl rfl <| WL.done ⟨rfl, rfl⟩⟩, ⟨rfl, trivial, fun _ _ _ => SL.index XU22 XE3 (hS.ro hf) rfl rfl o52 rfl <| WL.done ⟨rfl, rfl⟩⟩, ⟨rfl, trivial, fun _ hE _ => have hS := hS.grow (hE rfl); WL.load XU3 rfl rfl (Rd.gi (hS.ro hf) o52) rfl <| WL.done ⟨rfl, ext_refl _⟩⟩, ⟨rfl, trivial, ?_⟩, ⟨rfl, trivial, fun _ _ _ => WL.move rfl rfl <| WL.done ⟨rfl, rfl⟩⟩, ⟨rfl, ⟨rfl, trivial⟩, fun _ _ _ => WL.take rfl <| WL.fieldA (off := 2) XA24_2 rfl rfl <| WL.done ⟨rfl, rfl⟩⟩, ⟨rfl, trivial, fun _ hE _ => have hS := hS.grow (hE rfl); WL.take rfl <| WL.load XU22 rfl rfl (Own.vcells (hS.own (i := 0) rfl) 2 _ rfl) rfl <| WL.done ⟨rfl, ext_refl _⟩⟩, ⟨rfl, ⟨rfl, trivial⟩, fun _ _ _ => WL.take rfl <| WL.move rfl rfl <| WL.done ⟨rfl, rfl⟩⟩, ⟨rfl, trivial, fun _ _ _ => WL.take rfl <| SL.index XU22 XE3 (hS.ro hf) rfl rfl o60 rfl <| WL.done ⟨rfl, rfl⟩⟩, ⟨rfl, trivial, fun _ hE _ => have hS := hS.grow (hE rfl); WL.take rfl <| WL.load XU3 rfl rfl (Rd.gi (hS.ro hf) o60) rfl <| WL.done ⟨rfl, ext_refl _⟩⟩, ⟨rfl, ⟨rfl, trivial⟩, fun _ _ _ => WL.take rfl <| WL.fieldA (off := 0) XA24_0 rfl rfl <| WL.done ⟨rfl, rfl⟩⟩, ⟨rfl, trivial, fun _ hE _ => have hS := hS.grow (hE rfl); WL.take rfl <| WL.load XU3 rfl rfl (Own.vcells (hS.own (i := 0) rfl) 0 _ rfl) rfl <| WL.done ⟨rfl, ext_refl _⟩⟩, ⟨rfl, trivial, fun _ _ _ => WL.take rfl <| WL.geqD rfl rfl rfl <| WL.done ⟨rfl, rfl⟩⟩, ⟨rfl, trivial, fun _ _ _ => WL.pick rfl rfl rfl <| WL.done ⟨rfl, rfl⟩⟩, trivial⟩; intro w54 hE RR; refine WL.lssD rfl rfl rfl ?_; rw [decide_eq_false g29]; exact WL.done ⟨rfl, rfl⟩
  intro w66 hT; have hS := hS.grow hT; refine WA.done (by decide +kernel) <| W.cond2 rfl (fun c67 => ?_) (fun c67 => ?_)
  ·have hv := hv.1 (of_decide_eq_true c67); refine W.seq <| W.region <| WL.assign rfl rfl <| WL.done <| W.ret <| ⟨_, rfl, Fin.nil ?_⟩
   exact ⟨_, hS.ext, (hS.pick [] rfl).rows, News.of (hS.pick [] rfl).rows rfl, ⟨(1 : Int), rfl, rfl, hv⟩⟩
  have hv := hv.2 (of_decide_eq_false c67); refine W.skip <| W.region <| WL.move rfl rfl ?_; obtain ⟨o68, hv⟩ := hv; refine WL.add (r := (z24 + (1 : Int))) rfl rfl (wr o68) rfl <| WL.assign rfl rfl <| WL.done ?_; exact ⟨(z24 + (1 : Int)), ⟨rfl, rfl, rfl, trivial⟩, hv.2, rfl, hv.1, hS⟩
 have hv := hv.2 (of_decide_eq_false c28); refine W.exit <| W.seq <| W.seq <| W.region <| WL.fieldA (off := 2) XA24_2 rfl rfl <| WL.load XU22 rfl rfl (Own.vcells (hS.own (i := 0) rfl) 2 _ rfl) rfl <| WL.fieldA (off := 0) XA24_0 rfl rfl <| WL.load XU3 rfl rfl (Own.vcells (hS.own (i := 0) rfl) 0 _ rfl) rfl <| SL.call hS (ok_rirr (hS.ro hf) hv) XF85 rfl XN85 rfl rfl ?_; rintro _ _ w69 ⟨r70, rfl, rfl, hv⟩ hGw69 hS; have hS := hS.n0; refine WL.not rfl rfl <| WL.done <| W.cond2 rfl (fun c71 => ?_) (fun c71 => ?_)
 ·have hv := hv.1 (c71); refine W.seq <| W.region <| WL.assign rfl rfl <| WL.done <| W.ret <| ⟨_, rfl, Fin.nil ?_⟩
  exact ⟨_, hS.ext, (hS.pick [] rfl).rows, News.of (hS.pick [] rfl).rows rfl, ⟨(1 : Int), rfl, rfl, hv⟩⟩
 have hv := hv.2 (c71); refine W.skip <| W.seq <| W.region <| WL.assign rfl rfl <| WL.done <| W.ret <| ⟨_, rfl, Fin.nil ?_⟩
 exact ⟨_, hS.ext, (hS.pick [] rfl).rows, News.of (hS.pick [] rfl).rows rfl, ⟨(0 : Int), rfl, rfl, hv⟩⟩
def V_rIs (Pf : Int) (Mf : Int) (mf : List Int) (x : Int) (Q : Bool → Prop) : Prop :=
  (((0 : Int) ≤ x) → (V_rOrder Pf Mf mf (fun r15 => Q (decide (x < r15))))) ∧ (¬ ((0 : Int) ≤ x) → Q false)
theorem ok_rIs {w : World} {Q : Bool → Prop} {Pf : Int} {Mf : Int} {mf : List Int} {x : Int} {Bf : Nat} {Af : Option Addr} {nf kf : Nat} (hf : Rd Bf w 1 Af nf kf (is mf)) (hv : V_rIs Pf Mf mf x Q) :
   Calls Try.prog 105 #[.agg #[.int .i64 Pf, .int .i64 Mf, .slice Af nf kf], .int .i64 x] w fun e w' => ∃ v Qr, e = .returned v ∧ w.grownBy w' none ∧ Rows w.heap.size none w' Qr ∧ News w.heap.size Qr ∧ ∃ (r0 : Bool), v = .bool r0 ∧ Qr = [] ∧ Q r0 := by
 have hnf := hf.ilen; subst hnf; refine calls_swap <| calls_of_W (vs := [.agg #[.int .i64 Pf, .int .i64 Mf, .slice Af mf.length kf], .int .i64 x]) [4] XF105 rfl rfl rfl rfl ?_; have hS := St.start w; unfold V_rIs at hv; refine W.seq <| W.region <| SL.box (z := 3) (cs := [.int .i64 Pf, .int .i64 Mf, .slice Af mf.length kf]) hS rfl rfl rfl rfl ?_; intro g11 w12 hS; refine WL.assign rfl rfl <| WL.done <| W.seq <| W.region <| WL.move rfl rfl <| WL.geqD rfl rfl rfl <| WL.move rfl rfl ?_; by_cases g13 : (0 : Int) ≤ x
 ·have hv := hv.1 g13; rw [decide_eq_true g13]; refine WL.take rfl <| WL.move rfl rfl <| WL.take rfl <| WL.loadV (cs := [.int .i64 Pf, .int .i64 Mf, .slice Af mf.length kf]) XE24 XG24 rfl rfl (Own.vcells (hS.own (i := 0) rfl)) rfl <| WL.take rfl <| SL.call hS (ok_rOrder (hS.ro hf) hv) XF42 rfl XN42 rfl rfl ?_; rintro _ _ w14 ⟨r15, rfl, rfl, hv⟩ hGw14 hS; have hS := hS.n0; refine WL.take rfl <| WL.lssD rfl rfl rfl <| WL.pick rfl rfl rfl <| WL.assign rfl rfl <| WL.done <| W.ret <| ⟨_, rfl, Fin.nil ?_⟩
  exact ⟨_, hS.ext, (hS.pick [] rfl).rows, News.of (hS.pick [] rfl).rows rfl, ⟨(decide (x < r15)), rfl, rfl, hv⟩⟩
 have hv := hv.2 g13; rw [decide_eq_false g13]; refine WL.pass rfl rfl rfl <| WL.pass rfl rfl rfl <| WL.pass rfl rfl rfl <| WL.pass rfl rfl rfl <| WL.pick rfl rfl rfl <| WL.assign rfl rfl <| WL.done <| W.ret <| ⟨_, rfl, Fin.nil ?_⟩
 exact ⟨_, hS.ext, (hS.pick [] rfl).rows, News.of (hS.pick [] rfl).rows rfl, ⟨false, rfl, rfl, hv⟩⟩
def V_rIn (Pf : Int) (Mf : Int) (mf : List Int) (x : Int) (Q : Int → Prop) : Prop :=
  V_rIs Pf Mf mf x (fun r14 => ((r14 = true) → Q x) ∧ (r14 = false → (Q (0 : Int))))
theorem ok_rIn {w : World} {Q : Int → Prop} {Pf : Int} {Mf : Int} {mf : List Int} {x : Int} {Bf : Nat} {Af : Option Addr} {nf kf : Nat} (hf : Rd Bf w 1 Af nf kf (is mf)) (hv : V_rIn Pf Mf mf x Q) :
   Calls Try.prog 92 #[.agg #[.int .i64 Pf, .int .i64 Mf, .slice Af nf kf], .int .i64 x] w fun e w' => ∃ v Qr, e = .returned v ∧ w.grownBy w' none ∧ Rows w.heap.size none w' Qr ∧ News w.heap.size Qr ∧ ∃ (r0 : Int), v = .int .i64 r0 ∧ Qr = [] ∧ Q r0 := by
 have hnf := hf.ilen; subst hnf; refine calls_swap <| calls_of_W (vs := [.agg #[.int .i64 Pf, .int .i64 Mf, .slice Af mf.length kf], .int .i64 x]) [4] XF92 rfl rfl rfl rfl ?_; have hS := St.start w; unfold V_rIn at hv; refine W.seq <| W.region <| SL.box (z := 3) (cs := [.int .i64 Pf, .int .i64 Mf, .slice Af mf.length kf]) hS rfl rfl rfl rfl ?_; intro g11 w12 hS; refine WL.assign rfl rfl <| WL.done <| W.seq <| W.seq <| W.region <| WL.loadV (cs := [.int .i64 Pf, .int .i64 Mf, .slice Af mf.length kf]) XE24 XG24 rfl rfl (Own.vcells (hS.own (i := 0) rfl)) rfl <| WL.move rfl rfl <| SL.call hS (ok_rIs (hS.ro hf) hv) XF105 rfl XN105 rfl rfl ?_; rintro _ _ w13 ⟨r14, rfl, rfl, hv⟩ hGw13 hS; have hS := hS.n0; refine WL.done <| W.cond2 rfl (fun c15 => ?_) (fun c15 => ?_)
 ·have hv := hv.1 (c15); refine W.seq <| W.region <| WL.move rfl rfl <| WL.assign rfl rfl <| WL.done <| W.ret <| ⟨_, rfl, Fin.nil ?_⟩
  exact ⟨_, hS.ext, (hS.pick [] rfl).rows, News.of (hS.pick [] rfl).rows rfl, ⟨x, rfl, rfl, hv⟩⟩
 have hv := hv.2 (c15); refine W.skip <| W.seq <| W.region <| WL.assign rfl rfl <| WL.done <| W.ret <| ⟨_, rfl, Fin.nil ?_⟩
 exact ⟨_, hS.ext, (hS.pick [] rfl).rows, News.of (hS.pick [] rfl).rows rfl, ⟨(0 : Int), rfl, rfl, hv⟩⟩
def V_rDigits (Pf : Int) (Mf : Int) (mf : List Int) (x : Int) (Q : List Int → Prop) : Prop :=
  ∃ (r16 : Int), V_rIn Pf Mf mf x (fun q => q = r16) ∧ (∃ (x24 : List Int), V_rdigits r16 Pf Mf (fun q => q = x24) ∧ Q x24)
theorem ok_rDigits {w : World} {Q : List Int → Prop} {Pf : Int} {Mf : Int} {mf : List Int} {x : Int} {Bf : Nat} {Af : Option Addr} {nf kf : Nat} (hf : Rd Bf w 1 Af nf kf (is mf)) (hv : V_rDigits Pf Mf mf x Q) :
  Calls Try.prog 63 #[.agg #[.int .i64 Pf, .int .i64 Mf, .slice Af nf kf], .int .i64 x] w fun e w' => ∃ v Qr, e = .returned v ∧ w.grownBy w' none ∧ Rows w.heap.size none w' Qr ∧ News w.heap.size Qr ∧ ∃ (x : List Int)  (A : Option Addr) (c : Nat), v = .slice A x.length c ∧ Qr = [.row 3 1 A x.length c (is x)] ∧ Q x := by
 have hnf := hf.ilen; subst hnf; refine calls_swap <| calls_of_W (vs := [.agg #[.int .i64 Pf, .int .i64 Mf, .slice Af mf.length kf], .int .i64 x]) [4] XF63 rfl rfl rfl rfl ?_; have hS := St.start w; unfold V_rDigits at hv; refine W.seq <| W.region <| SL.box (z := 3) (cs := [.int .i64 Pf, .int .i64 Mf, .slice Af mf.length kf]) hS rfl rfl rfl rfl ?_; intro g11 w12 hS; refine WL.assign rfl rfl <| WL.done <| W.seq ?_; obtain ⟨r16, o18, hv⟩ := hv; obtain ⟨x24, o31, hv⟩ := hv; have hS0 := hS; refine W.drawX 9 (fun iA => [false, false, false, false, false, false, false, true, false].getD iA false) (fun iC => match iC with | 8 => some 7 | _ => none) (fun _ v => v) [⟨[], [2], false⟩, ⟨[], [1], true⟩, ⟨[0, 1], [], false⟩, ⟨[], [2], true⟩, ⟨[3], [], false⟩, ⟨[], [2], true⟩, ⟨[5], [], false⟩, ⟨[2, 4, 6], [], false⟩, ⟨[7], [], true⟩] [[(2, .pointer (some ⟨g11, 0, none⟩))], [(1, .int .i64 x)], [], [(2, .pointer (some ⟨g11, 0, none⟩))], [], [(2, .pointer (some ⟨g11, 0, none⟩))], [], [], []] (fun iQ => [fun v _ => v = .agg #[.int .i64 Pf, .int .i64 Mf, .slice Af mf.length kf], fun v _ => v = .int .i64 x, fun v _ => v = .int .i64 r16, fun v _ => v = .pointer (some ⟨g11, 0, none⟩), fun v _ => v = .int .i64 Pf, fun v _ => v = .pointer (some ((⟨g11, 0, none⟩ : Addr).add 1)), fun v _ => v = .int .i64 Mf, fun v wQ => ∃ A25_7 k26_7, v = .slice A25_7 x24.length k26_7 ∧ Own 0 wQ 3 1 A25_7 x24.length k26_7 (is x24) ∧ (∀ g, bl A25_7 = some g → w12.heap.size ≤ g), fun v wQ => ∃ A25_7_8 k26_7_8, v = .slice A25_7_8 x24.length k26_7_8 ∧ Own 0 wQ 3 1 A25_7_8 x24.length k26_7_8 (is x24) ∧ (∀ g, bl A25_7_8 = some g → w12.heap.size ≤ g)].getD iQ (fun _ _ => True)) (fun _ => vbD) Try.mixed (by kernel_rfl) ?_ (fun _ _ _ _ _ _ _ h => h) (by kernel_rfl) ?_ ?_
 ·refine Vs_monoT _ ?_; intro VQ hVQ vQ wQ1 wQ2 hQ1 hQ2; simp only [List.mem_cons, List.not_mem_nil, or_false] at hVQ; rcases hVQ with rfl | rfl | rfl | rfl | rfl | rfl | rfl | rfl | rfl
  any_goals exact hQ1
  ·obtain ⟨A25_7, k26_7, hQe, hO29_7, hN30_7⟩ := hQ1; exact ⟨A25_7, k26_7, hQe, hO29_7.ext hQ2, hN30_7⟩
  obtain ⟨A25_7_8, k26_7_8, hQe, hO29_7_8, hN30_7_8⟩ := hQ1; exact ⟨A25_7_8, k26_7_8, hQe, hO29_7_8.ext hQ2, hN30_7_8⟩
 ·refine ⟨⟨rfl, ⟨rfl, trivial⟩, ?_⟩, ⟨rfl, ⟨rfl, trivial⟩, ?_⟩, ⟨rfl, trivial, ?_⟩, ⟨rfl, ⟨rfl, trivial⟩, ?_⟩, ⟨rfl, trivial, ?_⟩, ⟨rfl, ⟨rfl, trivial⟩, ?_⟩, ⟨rfl, trivial, ?_⟩, ⟨rfl, trivial, ?_⟩, ⟨rfl, trivial, ?_⟩, trivial⟩
  ·intro w13 hE; have hE := hE rfl; have hS := hS.grow hE; intro RR; refine WL.loadV (cs := [.int .i64 Pf, .int .i64 Mf, .slice Af mf.length kf]) XE24 XG24 rfl rfl (Own.vcells (hS.own (i := 0) rfl)) rfl ?_; exact WL.done ⟨_, rfl, dnq (ext_refl _) rfl rfl rfl⟩
  ·intro w14 hE; intro RR; refine WL.move rfl rfl ?_; exact WL.done ⟨_, rfl, dnq rfl rfl rfl rfl⟩
  ·intro w15 hE; have hE := hE rfl; have hS := hS.grow hE; rintro _ rfl; rintro _ rfl; intro RR; refine WL.call XF92 rfl XN92 rfl rfl (calls_un (ok_rIn (hS.ro hf) o18)) ?_; rintro _ w17 ⟨_, hGw17, hRww17, hNww17, r16q, rfl, rfl, he⟩; subst he; exact WL.done ⟨_, rfl, dnq hGw17 rfl rfl rfl⟩
  ·intro w19 hE; intro RR; refine WL.fieldA (off := 0) XA24_0 rfl rfl ?_; exact WL.done ⟨_, rfl, dnq rfl rfl rfl rfl⟩
  ·intro w20 hE; have hE := hE rfl; have hS := hS.grow hE; rintro _ rfl; intro RR; refine WL.load XU3 rfl rfl (Own.vcells (hS.own (i := 0) rfl) 0 _ rfl) rfl ?_; exact WL.done ⟨_, rfl, dnq (ext_refl _) rfl rfl rfl⟩
  ·intro w21 hE; intro RR; refine WL.fieldA (off := 1) XA24_1 rfl rfl ?_; exact WL.done ⟨_, rfl, dnq rfl rfl rfl rfl⟩
  ·intro w22 hE; have hE := hE rfl; have hS := hS.grow hE; rintro _ rfl; intro RR; refine WL.load XU3 rfl rfl (Own.vcells (hS.own (i := 0) rfl) 1 _ rfl) rfl ?_; exact WL.done ⟨_, rfl, dnq (ext_refl _) rfl rfl rfl⟩
  ·intro w23 hE; have hE := hE rfl; have hS := hS.grow hE; rintro _ rfl; rintro _ rfl; rintro _ rfl; intro RR; refine WL.call XF91 rfl XN91 rfl rfl (calls_un (ok_rdigits  o31)) ?_; rintro _ w28 ⟨_, hGw28, hRww28, hNww28, x24q, A25, k26, rfl, rfl, he⟩; subst he; have hO29 := (hRww28.get (i := 0) rfl).1; have hN30 : ∀ g, bl A25 = some g → _ ≤ g := fun g hg => Nat.le_trans hE.size (hNww28.1 g hg); exact WL.done ⟨_, rfl, hGw28, ⟨A25, k26, rfl, hO29, hN30⟩, (fun _ => fun g hg => ⟨hNww28.1 g hg, (hO29.bl_ge g hg).2⟩), (fun j h => by cases h)⟩
  intro w32 hE; rintro _ ⟨A25_7, k26_7, rfl, hO29_7, hN30_7⟩; intro RR; refine WL.assign rfl rfl ?_; exact WL.done ⟨_, rfl, rfl, ⟨A25_7, k26_7, rfl, hO29_7, hN30_7⟩, (fun h => absurd h (by decide)), (fun j h => by cases h; exact ⟨_, rfl, rfl⟩)⟩
 intro vals w33 hT hVs hAp hCp; have hS := hS.grow hT; have hv0 : vals 0 = _ := hVs 0 (by decide); have hv1 : vals 1 = _ := hVs 1 (by decide); have hv2 : vals 2 = _ := hVs 2 (by decide); have hv3 : vals 3 = _ := hVs 3 (by decide); have hv4 : vals 4 = _ := hVs 4 (by decide); have hv5 : vals 5 = _ := hVs 5 (by decide); have hv6 : vals 6 = _ := hVs 6 (by decide); obtain ⟨A25_7, k26_7, hv7, hO29_7, hN30_7⟩ := hVs 7 (by decide); have hv8 : vals 8 = .slice A25_7 x24.length k26_7 := (hCp 8 7 (by decide) rfl).trans hv7; have hS := St.addOwn [] hS0 hS hO29_7 hN30_7 (fun s hs => by cases hs); show WA _ _ _ _ _ _ _ _ ([(5, vals 0), (6, vals 1), (7, vals 2), (8, vals 3), (9, vals 4), (10, vals 5), (11, vals 6), (12, vals 7), (4, vals 8)] ++ _) _; rw [hv0, hv1, hv2, hv3, hv4, hv5, hv6, hv7, hv8]; refine WA.done (by decide +kernel) <| W.ret <| ⟨_, rfl, Fin.nil ?_⟩
 exact ⟨_, hS.ext, (hS.pick [0] rfl).rows, News.of (hS.pick [0] rfl).rows rfl, ⟨x24, A25_7, k26_7, rfl, rfl, hv⟩⟩
def V_rValue (Pf : Int) (Mf : Int) (mf : List Int) (l : List Int) (Q : Int → Prop) : Prop :=
  (I64 (((l.length : Nat) : Int) - (1 : Int))) ∧ (∃ (I20 : Int → Int → Prop) (μ21 : Int → Int → Nat), I20 (0 : Int) (((l.length : Nat) : Int) - (1 : Int)) ∧ ∀ (z18 : Int) (z19 : Int), (I20 z18 z19 → ((((0 : Int) ≤ z19) → ((I64 (z18 * Pf)) ∧ ((0 ≤ z19 ∧ z19 < (l.length : Nat)) ∧ ((I64 ((z18 * Pf) + (gi l z19))) ∧ ((I64 (z19 - (1 : Int))) ∧ (I20 ((z18 * Pf) + (gi l z19)) (z19 - (1 : Int)) ∧ μ21 ((z18 * Pf) + (gi l z19)) (z19 - (1 : Int)) < μ21 z18 z19)))))) ∧ (¬ ((0 : Int) ≤ z19) → Q z18))))
theorem ok_rValue {w : World} {Q : Int → Prop} {Pf : Int} {Mf : Int} {mf : List Int} {l : List Int} {Bf : Nat} {Af : Option Addr} {nf kf : Nat} (hf : Rd Bf w 1 Af nf kf (is mf)) {Bl : Nat} {Al : Option Addr} {nl kl : Nat} (hl : Rd Bl w 1 Al nl kl (is l)) (hv : V_rValue Pf Mf mf l Q) :
   Calls Try.prog 64 #[.agg #[.int .i64 Pf, .int .i64 Mf, .slice Af nf kf], .slice Al nl kl] w fun e w' => ∃ v Qr, e = .returned v ∧ w.grownBy w' none ∧ Rows w.heap.size none w' Qr ∧ News w.heap.size Qr ∧ ∃ (r0 : Int), v = .int .i64 r0 ∧ Qr = [] ∧ Q r0 := by
 have hnf := hf.ilen; subst hnf; have hnl := hl.ilen; subst hnl; refine calls_swap <| calls_of_W (vs := [.agg #[.int .i64 Pf, .int .i64 Mf, .slice Af mf.length kf], .slice Al l.length kl]) [4] XF64 rfl rfl rfl rfl ?_; have hS := St.start w; unfold V_rValue at hv; refine W.seq <| W.region <| SL.box (z := 3) (cs := [.int .i64 Pf, .int .i64 Mf, .slice Af mf.length kf]) hS rfl rfl rfl rfl ?_; intro g11 w12 hS; refine WL.assign rfl rfl <| WL.done <| W.seq <| W.region <| WL.assign rfl rfl <| WL.done <| W.seq <| W.seq <| W.region <| WL.move rfl rfl <| WL.len XU22 rfl rfl ?_; obtain ⟨o13, hv⟩ := hv; refine WL.sub (r := (((l.length : Nat) : Int) - (1 : Int))) rfl rfl (wr o13) rfl <| WL.assign rfl rfl <| WL.done <| W.block ?_; obtain ⟨I20, μ21, hv, hk39⟩ := hv; refine W.loop (σ := Int × Int) (fun q w1 => match q with | (z18, z19) => I20 z18 z19 ∧ St TT w none w1 [.row 24 3 (some ⟨g11, 0, none⟩) 1 1 [.int .i64 Pf, .int .i64 Mf, .slice Af mf.length kf]]) (fun q => match q with | (z18, z19) => [(1, .slice Al l.length kl), (2, .pointer (some ⟨g11, 0, none⟩)), (4, .int .i64 (0 : Int)), (5, .int .i64 z18), (6, .int .i64 z19)]) (fun q => match q with | (z18, z19) => μ21 z18 z19) ((0 : Int), (((l.length : Nat) : Int) - (1 : Int))) ⟨hv, hS⟩ ⟨rfl, rfl, rfl, rfl, rfl, trivial⟩ ?_; rintro ⟨z18, z19⟩ w22 ⟨hv, hS⟩; have hv := hk39 z18 z19 hv; refine W.seq <| W.seq <| W.region <| WL.move rfl rfl <| WL.geqD rfl rfl rfl <| WL.done <| W.cond2 rfl (fun c23 => ?_) (fun c23 => ?_)
 ·have hv := hv.1 (of_decide_eq_true c23); refine W.skip <| W.seq <| W.block ?_; obtain ⟨o28, hv⟩ := hv; obtain ⟨o32, hv⟩ := hv; obtain ⟨o35, hv⟩ := hv; refine W.drawV 10 [⟨[], [5], true⟩, ⟨[], [2], true⟩, ⟨[1], [], false⟩, ⟨[0, 2], [], true⟩, ⟨[], [1], true⟩, ⟨[], [6], true⟩, ⟨[4, 5], [], true⟩, ⟨[6], [], false⟩, ⟨[3, 7], [], true⟩, ⟨[8], [], true⟩] [[(5, .int .i64 z18)], [(2, .pointer (some ⟨g11, 0, none⟩))], [], [], [(1, .slice Al l.length kl)], [(6, .int .i64 z19)], [], [], [], []] [(14, .int .i64 z18), (15, .pointer (some ⟨g11, 0, none⟩)), (16, .int .i64 Pf), (17, .int .i64 (z18 * Pf)), (18, .slice Al l.length kl), (19, .int .i64 z19), (20, .pointer (some ((adOf Al).add z19.toNat))), (21, .int .i64 (gi l z19)), (22, .int .i64 ((z18 * Pf) + (gi l z19))), (5, .int .i64 ((z18 * Pf) + (gi l z19)))] Try.mixed (by kernel_rfl) rfl rfl ?_ ?_
  ·refine ⟨⟨rfl, ⟨rfl, trivial⟩, fun _ _ _ => WL.move rfl rfl <| WL.done ⟨rfl, rfl⟩⟩, ⟨rfl, ⟨rfl, trivial⟩, fun _ _ _ => WL.fieldA (off := 0) XA24_0 rfl rfl <| WL.done ⟨rfl, rfl⟩⟩, ⟨rfl, trivial, fun _ hE _ => have hS := hS.grow (hE rfl); WL.load XU3 rfl rfl (Own.vcells (hS.own (i := 0) rfl) 0 _ rfl) rfl <| WL.done ⟨rfl, ext_refl _⟩⟩, ⟨rfl, trivial, fun _ _ _ => WL.mul (r := (z18 * Pf)) rfl rfl (wr o28) rfl <| WL.done ⟨rfl, rfl⟩⟩, ⟨rfl, ⟨rfl, trivial⟩, fun _ _ _ => WL.move rfl rfl <| WL.done ⟨rfl, rfl⟩⟩, ⟨rfl, ⟨rfl, trivial⟩, fun _ _ _ => WL.move rfl rfl <| WL.done ⟨rfl, rfl⟩⟩, ⟨rfl, trivial, fun _ _ _ => SL.index XU22 XE3 (hS.ro hl) rfl rfl o32 rfl <| WL.done ⟨rfl, rfl⟩⟩, ⟨rfl, trivial, fun _ hE _ => have hS := hS.grow (hE rfl); WL.load XU3 rfl rfl (Rd.gi (hS.ro hl) o32) rfl <| WL.done ⟨rfl, ext_refl _⟩⟩, ⟨rfl, trivial, fun _ _ _ => WL.add (r := ((z18 * Pf) + (gi l z19))) rfl rfl (wr o35) rfl <| WL.done ⟨rfl, rfl⟩⟩, ⟨rfl, trivial, fun _ _ _ => WL.assign rfl rfl <| WL.done ⟨rfl, rfl⟩⟩, trivial⟩
  intro w37 hT; have hS := hS.grow hT; refine WA.done (by decide +kernel) <| W.region <| WL.move rfl rfl ?_; obtain ⟨o38, hv⟩ := hv; refine WL.sub (r := (z19 - (1 : Int))) rfl rfl (wr o38) rfl <| WL.assign rfl rfl <| WL.done ?_; exact ⟨(((z18 * Pf) + (gi l z19)), (z19 - (1 : Int))), ⟨rfl, rfl, rfl, rfl, rfl, trivial⟩, hv.2, rfl, hv.1, hS⟩
 have hv := hv.2 (of_decide_eq_false c23); refine W.exit <| W.seq <| W.region <| WL.move rfl rfl <| WL.assign rfl rfl <| WL.done <| W.ret <| ⟨_, rfl, Fin.nil ?_⟩
 exact ⟨_, hS.ext, (hS.pick [] rfl).rows, News.of (hS.pick [] rfl).rows rfl, ⟨z18, rfl, rfl, hv⟩⟩
def V_rAdd (Pf : Int) (Mf : Int) (mf : List Int) (x : Int) (y : Int) (Q : Int → Prop) : Prop :=
  V_rDigits Pf Mf mf x (fun x14 => V_rDigits Pf Mf mf y (fun x19 => ∃ (I29 : List Int → Int → Prop) (μ30 : List Int → Int → Nat), I29 x14 (0 : Int) ∧ ∀ (x27 : List Int) (z28 : Int), (I29 x27 z28 → (((z28 < ((x14.length : Nat) : Int)) → ((0 ≤ z28 ∧ z28 < (x14.length : Nat)) ∧ ((0 ≤ z28 ∧ z28 < (x19.length : Nat)) ∧ ((I64 ((gi x27 z28) + (gi x19 z28))) ∧ ((Pf ≠ 0) ∧ ((0 ≤ z28 ∧ z28 < (x14.length : Nat)) ∧ ((I64 (z28 + (1 : Int))) ∧ (I29 (si x27 z28 (((gi x27 z28) + (gi x19 z28)).tmod Pf)) (z28 + (1 : Int)) ∧ μ30 (si x27 z28 (((gi x27 z28) + (gi x19 z28)).tmod Pf)) (z28 + (1 : Int)) < μ30 x27 z28)))))))) ∧ (¬ (z28 < ((x14.length : Nat) : Int)) → (V_rValue Pf Mf mf x27 (fun r56 => Q r56)))))))
theorem ok_rAdd {w : World} {Q : Int → Prop} {Pf : Int} {Mf : Int} {mf : List Int} {x : Int} {y : Int} {Bf : Nat} {Af : Option Addr} {nf kf : Nat} (hf : Rd Bf w 1 Af nf kf (is mf)) (hv : V_rAdd Pf Mf mf x y Q) :
   Calls Try.prog 32 #[.agg #[.int .i64 Pf, .int .i64 Mf, .slice Af nf kf], .int .i64 x, .int .i64 y] w fun e w' => ∃ v Qr, e = .returned v ∧ w.grownBy w' none ∧ Rows w.heap.size none w' Qr ∧ News w.heap.size Qr ∧ ∃ (r0 : Int), v = .int .i64 r0 ∧ Qr = [] ∧ Q r0 := by
 have hnf := hf.ilen; subst hnf; refine calls_swap <| calls_of_W (vs := [.agg #[.int .i64 Pf, .int .i64 Mf, .slice Af mf.length kf], .int .i64 x, .int .i64 y]) [6] XF32 rfl rfl rfl rfl ?_; have hS := St.start w; unfold V_rAdd at hv; refine W.seq <| W.region <| SL.box (z := 3) (cs := [.int .i64 Pf, .int .i64 Mf, .slice Af mf.length kf]) hS rfl rfl rfl rfl ?_; intro g11 w12 hS; refine WL.assign rfl rfl <| WL.done <| W.seq <| W.region <| WL.loadV (cs := [.int .i64 Pf, .int .i64 Mf, .slice Af mf.length kf]) XE24 XG24 rfl rfl (Own.vcells (hS.own (i := 0) rfl)) rfl <| WL.move rfl rfl <| SL.call hS (ok_rDigits (hS.ro hf) hv) XF63 rfl XN63 rfl rfl ?_; rintro _ _ w13 ⟨x14, A15, k16, rfl, rfl, hv⟩ hGw13 hS; have hS := hS.n1; refine WL.assign rfl rfl <| WL.done <| W.seq <| W.region <| WL.loadV (cs := [.int .i64 Pf, .int .i64 Mf, .slice Af mf.length kf]) XE24 XG24 rfl rfl (Own.vcells (hS.own (i := 1) rfl)) rfl <| WL.move rfl rfl <| SL.call hS (ok_rDigits (hS.ro hf) hv) XF63 rfl XN63 rfl rfl ?_; rintro _ _ w18 ⟨x19, A20, k21, rfl, rfl, hv⟩ hGw18 hS; have hS := hS.n1; refine WL.assign rfl rfl <| WL.done <| W.seq <| W.seq <| W.region <| WL.assign rfl rfl <| WL.done <| W.block ?_; obtain ⟨I29, μ30, hv, hk57⟩ := hv; refine W.loop (σ := List Int × Int) (fun q w1 => match q with | (x27, z28) => I29 x27 z28 ∧ St TT w none w1 [.row 3 1 A20 x19.length k21 (is x19), .row 3 1 A15 x14.length k16 (is x27), .row 24 3 (some ⟨g11, 0, none⟩) 1 1 [.int .i64 Pf, .int .i64 Mf, .slice Af mf.length kf]]) (fun q => match q with | (x27, z28) => [(3, .pointer (some ⟨g11, 0, none⟩)), (6, .int .i64 (0 : Int)), (7, .slice A15 x14.length k16), (8, .slice A20 x19.length k21), (9, .int .i64 z28)]) (fun q => match q with | (x27, z28) => μ30 x27 z28) (x14, (0 : Int)) ⟨hv, hS⟩ ⟨rfl, rfl, rfl, rfl, rfl, trivial⟩ ?_; rintro ⟨x27, z28⟩ w31 ⟨hv, hS⟩; have hv := hk57 x27 z28 hv; refine W.seq <| W.seq <| W.region <| WL.move rfl rfl <| WL.move rfl rfl <| WL.len XU22 rfl rfl <| WL.lssD rfl rfl rfl <| WL.done <| W.cond2 rfl (fun c32 => ?_) (fun c32 => ?_)
 ·have hv := hv.1 (of_decide_eq_true c32); refine W.skip <| W.seq <| W.block ?_; obtain ⟨o38, hv⟩ := hv; obtain ⟨o43, hv⟩ := hv; obtain ⟨o46, hv⟩ := hv; obtain ⟨o50, hv⟩ := hv; refine W.drawV 14 [⟨[], [7], true⟩, ⟨[], [9], true⟩, ⟨[], [7], true⟩, ⟨[], [9], true⟩, ⟨[2, 3], [], true⟩, ⟨[4], [], false⟩, ⟨[], [8], true⟩, ⟨[], [9], true⟩, ⟨[6, 7], [], true⟩, ⟨[8], [], false⟩, ⟨[5, 9], [], true⟩, ⟨[], [3], true⟩, ⟨[11], [], false⟩, ⟨[10, 12], [], true⟩] [[(7, .slice A15 x14.length k16)], [(9, .int .i64 z28)], [(7, .slice A15 x14.length k16)], [(9, .int .i64 z28)], [], [], [(8, .slice A20 x19.length k21)], [(9, .int .i64 z28)], [], [], [], [(3, .pointer (some ⟨g11, 0, none⟩))], [], []] [(22, .slice A15 x14.length k16), (23, .int .i64 z28), (24, .slice A15 x14.length k16), (25, .int .i64 z28), (26, .pointer (some ((adOf A15).add z28.toNat))), (27, .int .i64 (gi x27 z28)), (28, .slice A20 x19.length k21), (29, .int .i64 z28), (30, .pointer (some ((adOf A20).add z28.toNat))), (31, .int .i64 (gi x19 z28)), (32, .int .i64 ((gi x27 z28) + (gi x19 z28))), (33, .pointer (some ⟨g11, 0, none⟩)), (34, .int .i64 Pf), (35, .int .i64 (((gi x27 z28) + (gi x19 z28)).tmod Pf))] Try.mixed (by kernel_rfl) rfl rfl ?_ ?_
  ·refine ⟨⟨rfl, ⟨rfl, trivial⟩, fun _ _ _ => WL.move rfl rfl <| WL.done ⟨rfl, rfl⟩⟩, ⟨rfl, ⟨rfl, trivial⟩, fun _ _ _ => WL.move rfl rfl <| WL.done ⟨rfl, rfl⟩⟩, ⟨rfl, ⟨rfl, trivial⟩, fun _ _ _ => WL.move rfl rfl <| WL.done ⟨rfl, rfl⟩⟩, ⟨rfl, ⟨rfl, trivial⟩, fun _ _ _ => WL.move rfl rfl <| WL.done ⟨rfl, rfl⟩⟩, ⟨rfl, trivial, fun _ _ _ => SL.index XU22 XE3 (hS.rd (i := 1) rfl) rfl rfl o38 rfl <| WL.done ⟨rfl, rfl⟩⟩, ⟨rfl, trivial, fun _ hE _ => have hS := hS.grow (hE rfl); WL.load XU3 rfl rfl (Rd.gi (hS.rd (i := 1) rfl) o38) rfl <| WL.done ⟨rfl, ext_refl _⟩⟩, ⟨rfl, ⟨rfl, trivial⟩, fun _ _ _ => WL.move rfl rfl <| WL.done ⟨rfl, rfl⟩⟩, ⟨rfl, ⟨rfl, trivial⟩, fun _ _ _ => WL.move rfl rfl <| WL.done ⟨rfl, rfl⟩⟩, ⟨rfl, trivial, fun _ _ _ => SL.index XU22 XE3 (hS.rd (i := 0) rfl) rfl rfl o43 rfl <| WL.done ⟨rfl, rfl⟩⟩, ⟨rfl, trivial, fun _ hE _ => have hS := hS.grow (hE rfl); WL.load XU3 rfl rfl (Rd.gi (hS.rd (i := 0) rfl) o43) rfl <| WL.done ⟨rfl, ext_refl _⟩⟩, ⟨rfl, trivial, fun _ _ _ => WL.add (r := ((gi x27 z28) + (gi x19 z28))) rfl rfl (wr o46) rfl <| WL.done ⟨rfl, rfl⟩⟩, ⟨rfl, ⟨rfl, trivial⟩, fun _ _ _ => WL.fieldA (off := 0) XA24_0 rfl rfl <| WL.done ⟨rfl, rfl⟩⟩, ⟨rfl, trivial, fun _ hE _ => have hS := hS.grow (hE rfl); WL.load XU3 rfl rfl (Own.vcells (hS.own (i := 2) rfl) 0 _ rfl) rfl <| WL.done ⟨rfl, ext_refl _⟩⟩, ⟨rfl, trivial, fun _ _ _ => WL.rem (r := (((gi x27 z28) + (gi x19 z28)).tmod Pf)) rfl rfl o50 rfl rfl <| WL.done ⟨rfl, rfl⟩⟩, trivial⟩
  intro w51 hT; have hS := hS.grow hT; refine WA.step1 14 (by decide +kernel) rfl ?_; obtain ⟨o52, hv⟩ := hv; refine SL.index XU22 XE3 (hS.rd (i := 1) rfl) rfl rfl o52 rfl <| WL.done <| WA.step1 15 (by decide +kernel) rfl <| SL.store (cs' := is (si x27 z28 (((gi x27 z28) + (gi x19 z28)).tmod Pf))) 1 z28.toNat hS rfl XE3 rfl rfl rfl (is_lt (hS.rd (i := 1) rfl) o52) (is_set _ _ _) ?_; intro w53 hS; refine WL.done <| WA.done (by decide +kernel) <| W.region <| WL.move rfl rfl ?_; obtain ⟨o54, hv⟩ := hv; refine WL.add (r := (z28 + (1 : Int))) rfl rfl (wr o54) rfl <| WL.assign rfl rfl <| WL.done ?_; exact ⟨(si x27 z28 (((gi x27 z28) + (gi x19 z28)).tmod Pf), (z28 + (1 : Int))), ⟨rfl, rfl, rfl, rfl, rfl, trivial⟩, hv.2, rfl, hv.1, hS⟩
 have hv := hv.2 (of_decide_eq_false c32); refine W.exit <| W.seq <| W.region <| WL.loadV (cs := [.int .i64 Pf, .int .i64 Mf, .slice Af mf.length kf]) XE24 XG24 rfl rfl (Own.vcells (hS.own (i := 2) rfl)) rfl <| WL.move rfl rfl <| SL.call hS (ok_rValue (hS.ro hf) (hS.rd (i := 1) rfl) hv) XF64 rfl XN64 rfl rfl ?_; rintro _ _ w55 ⟨r56, rfl, rfl, hv⟩ hGw55 hS; have hS := hS.n0; refine WL.assign rfl rfl <| WL.done <| W.ret <| ⟨_, rfl, Fin.nil ?_⟩
 exact ⟨_, hS.ext, (hS.pick [] rfl).rows, News.of (hS.pick [] rfl).rows rfl, ⟨r56, rfl, rfl, hv⟩⟩
end Go.Proofs.Ytcmfjjbbcfddpaa
set_option linter.unusedVariables false
namespace Go.Proofs.Ytcmfjjbbcfddpaa
abbrev Vec := Nat → Int
def tX (m : Nat) (c : Vec) (v : Vec) : Vec := fun i => if i < m then (if i = 0 then 0 else v (i - 1)) - c i * v (m - 1) else 0
def vadd (u v : Vec) : Vec := fun i => u i + v i
def vsm (a : Int) (v : Vec) : Vec := fun i => a * v i
def vz : Vec := fun _ => 0
def e0 : Vec := fun i => if i = 0 then 1 else 0
def tXn (m : Nat) (c : Vec) : Nat → Vec → Vec
  | 0, v => v
  | n + 1, v => tX m c (tXn m c n v)
def opr (m : Nat) (c b : Vec) : Nat → Vec → Vec
  | 0, _ => vz
  | n + 1, v => vadd (opr m c b n v) (vsm (b n) (tXn m c n v))
def vmul (m : Nat) (c a b : Vec) : Vec := opr m c b m a
section
variable (m : Nat) (c : Vec)
theorem tX_add (u v : Vec) : tX m c (vadd u v) = vadd (tX m c u) (tX m c v) := by
 funext i; simp only [tX, vadd]; split
 ·split <;> grind
 ·rfl
theorem tX_sm (a : Int) (v : Vec) : tX m c (vsm a v) = vsm a (tX m c v) := by
 funext i; simp only [tX, vsm]; split
 ·split <;> grind
 ·grind
theorem tX_z : tX m c vz = vz := by funext i; simp [tX, vz]
theorem vadd_z (u : Vec) : vadd u vz = u := by funext i; simp [vadd, vz]
theorem z_vadd (u : Vec) : vadd vz u = u := by funext i; simp [vadd, vz]
theorem vadd_comm (u v : Vec) : vadd u v = vadd v u := by funext i; simp only [vadd]; omega
theorem vadd_assoc (u v w : Vec) : vadd (vadd u v) w = vadd u (vadd v w) := by funext i; simp only [vadd]; omega
theorem vsm_add (a : Int) (u v : Vec) : vsm a (vadd u v) = vadd (vsm a u) (vsm a v) := by funext i; simp only [vadd, vsm]; grind
theorem vsm_sm (a b : Int) (u : Vec) : vsm a (vsm b u) = vsm (a * b) u := by funext i; simp only [vsm]; grind
theorem vsm_z (a : Int) : vsm a vz = vz := by funext i; simp [vsm, vz]
theorem tXn_add (n : Nat) (u v : Vec) : tXn m c n (vadd u v) = vadd (tXn m c n u) (tXn m c n v) := by
 induction n with
 | zero => rfl
 | succ n ih => simp only [tXn, ih, tX_add]
theorem tXn_sm (n : Nat) (a : Int) (v : Vec) : tXn m c n (vsm a v) = vsm a (tXn m c n v) := by
 induction n with
 | zero => rfl
 | succ n ih => simp only [tXn, ih, tX_sm]
theorem tXn_z (n : Nat) : tXn m c n vz = vz := by
 induction n with
 | zero => rfl
 | succ n ih => simp only [tXn, ih, tX_z]
theorem tXn_succ (n : Nat) (v : Vec) : tXn m c n (tX m c v) = tX m c (tXn m c n v) := by
 induction n with
 | zero => rfl
 | succ n ih => simp only [tXn, ih]
theorem tXn_tXn (n k : Nat) (v : Vec) : tXn m c n (tXn m c k v) = tXn m c (n + k) v := by
 induction n with
 | zero => simp [tXn]
 | succ n ih => rw [Nat.succ_add]; simp only [tXn, ih]
variable (b : Vec)
theorem opr_add (n : Nat) (u v : Vec) : opr m c b n (vadd u v) = vadd (opr m c b n u) (opr m c b n v) := by
 induction n with
 | zero => simp [opr, vadd_z]
 | succ n ih => simp only [opr, ih, tXn_add, vsm_add]; funext i; simp only [vadd]; omega
theorem opr_sm (n : Nat) (a : Int) (v : Vec) : opr m c b n (vsm a v) = vsm a (opr m c b n v) := by
 induction n with
 | zero => simp [opr, vsm_z]
 | succ n ih => simp only [opr, ih, tXn_sm, vsm_add, vsm_sm]; rw [Int.mul_comm (b n) a]
theorem opr_z (n : Nat) : opr m c b n vz = vz := by
 induction n with
 | zero => rfl
 | succ n ih => simp only [opr, ih, tXn_z, vsm_z, vadd_z]
theorem opr_tXn (n k : Nat) (v : Vec) : opr m c b n (tXn m c k v) = tXn m c k (opr m c b n v) := by
 induction n with
 | zero => simp [opr, tXn_z]
 | succ n ih => simp only [opr, ih, tXn_add, tXn_sm, tXn_tXn]; rw [Nat.add_comm n k]
theorem opr_comm (d : Vec) (n k : Nat) (v : Vec) : opr m c b n (opr m c d k v) = opr m c d k (opr m c b n v) := by
 induction n with
 | zero => simp only [opr, opr_z]
 | succ n ih => simp only [opr, ih, opr_add, opr_sm, opr_tXn]
theorem opr_vadd (d : Vec) (n : Nat) (v : Vec) : opr m c (vadd b d) n v = vadd (opr m c b n v) (opr m c d n v) := by
 induction n with
 | zero => simp [opr, vadd_z]
 | succ n ih => simp only [opr, ih]; funext i; simp only [vadd, vsm]; grind
end
def vei (k : Nat) : Vec := fun i => if i = k then 1 else 0
theorem tXn_e0 {m : Nat} {c : Vec} : ∀ {k : Nat}, k < m → tXn m c k e0 = vei k
 | 0, _ => rfl
 | k + 1, h => by
  have ih : tXn m c k e0 = vei k := tXn_e0 (by omega); simp only [tXn, ih]; funext i; simp only [tX, vei]; split
  ·rw [if_neg (show ¬ m - 1 = k by omega)]; by_cases h0 : i = 0
   ·subst h0; simp
   ·simp only [h0, if_false]; by_cases h1 : i = k + 1
    ·subst h1; simp
    ·rw [if_neg (by omega), if_neg h1]; simp
  ·rw [if_neg (by omega)]
theorem opr_e0 {m : Nat} {c a : Vec} : ∀ {n : Nat}, n ≤ m → ∀ i, opr m c a n e0 i = if i < n then a i else 0
  | 0, _, i => by simp [opr, vz]
  | n + 1, h, i => by
    simp only [opr, vadd, vsm]
    rw [opr_e0 (n := n) (by omega) i, tXn_e0 (by omega)]
    simp only [vei]
    by_cases h1 : i = n
    · subst h1; simp
    · by_cases h2 : i < n
      · simp [h2, h1, show i < n + 1 by omega]
      · simp [h2, h1, show ¬ i < n + 1 by omega]
def Sup (m : Nat) (v : Vec) : Prop := ∀ i, m ≤ i → v i = 0
theorem opr_self {m : Nat} {c a : Vec} (h : Sup m a) : opr m c a m e0 = a := by
 funext i; rw [opr_e0 (Nat.le_refl m)]; split
 ·rfl
 ·exact (h i (by omega)).symm
theorem Sup.z {m : Nat} : Sup m vz := fun _ _ => rfl
theorem Sup.tX {m : Nat} {c v : Vec} : Sup m (tX m c v) := fun i h => by simp [Go.Proofs.Ytcmfjjbbcfddpaa.tX, show ¬ i < m by omega]
theorem Sup.add {m : Nat} {u v : Vec} (hu : Sup m u) (hv : Sup m v) : Sup m (vadd u v) := fun i h => by simp [vadd, hu i h, hv i h]
theorem Sup.sm {m : Nat} {a : Int} {v : Vec} (hv : Sup m v) : Sup m (vsm a v) := fun i h => by simp [vsm, hv i h]
theorem Sup.tXn {m : Nat} {c v : Vec} (hv : Sup m v) : ∀ n, Sup m (tXn m c n v)
 | 0 => hv
 | _ + 1 => Sup.tX
theorem Sup.opr {m : Nat} {c b v : Vec} (hv : Sup m v) : ∀ n, Sup m (opr m c b n v)
 | 0 => Sup.z
 | n + 1 => (Sup.opr hv n).add (hv.tXn n).sm
theorem vmul_comm {m : Nat} {c a b : Vec} (ha : Sup m a) (hb : Sup m b) : vmul m c a b = vmul m c b a := by
 unfold vmul
 calc opr m c b m a = opr m c b m (opr m c a m e0) := by rw [opr_self ha]
  _ = opr m c a m (opr m c b m e0) := opr_comm ..
  _ = opr m c a m b := by rw [opr_self hb]
theorem vmul_assoc {m : Nat} {c a b d : Vec} (ha : Sup m a) (hb : Sup m b) (hd : Sup m d) : vmul m c (vmul m c a b) d = vmul m c a (vmul m c b d) := by
 rw [vmul_comm (a := a) (b := vmul m c b d) ha (Sup.opr hb m)]; show opr m c d m (opr m c b m a) = opr m c a m (opr m c d m b); rw [← opr_comm m c d a m m b]; show opr m c d m (vmul m c a b) = opr m c d m (vmul m c b a); rw [vmul_comm ha hb]
theorem vmul_add {m : Nat} {c a b d : Vec} : vmul m c a (vadd b d) = vadd (vmul m c a b) (vmul m c a d) := opr_vadd ..
theorem vmul_one {m : Nat} {c a : Vec} (hm : 0 < m) : vmul m c a e0 = a := by
 have key : ∀ n, 0 < n → opr m c e0 n a = a := by
  intro n
  induction n with
  | zero => intro h; omega
  | succ n ih =>
   intro _; rcases Nat.eq_zero_or_pos n with h | h
   ·subst h; funext i; simp [opr, e0, vadd, vsm, vz, tXn]
   ·simp only [opr, ih h]; funext i; simp [e0, vadd, vsm, show n ≠ 0 by omega]
 exact key m hm
def vcg (p : Int) (u v : Vec) : Prop := ∀ i, u i % p = v i % p
section
variable {p : Int} {m : Nat} {c c' u u' v v' b b' : Vec}
theorem vcg.refl (u : Vec) : vcg p u u := fun _ => rfl
theorem vcg.symm (h : vcg p u v) : vcg p v u := fun i => (h i).symm
theorem vcg.trans {w : Vec} (h : vcg p u v) (k : vcg p v w) : vcg p u w := fun i => (h i).trans (k i)
theorem mul_cg {a a' d d' : Int} (h : a % p = a' % p) (k : d % p = d' % p) : (a * d) % p = (a' * d') % p := by
 rw [Int.mul_emod, h, k, ← Int.mul_emod]
theorem add_cg {a a' d d' : Int} (h : a % p = a' % p) (k : d % p = d' % p) : (a + d) % p = (a' + d') % p := by
 rw [Int.add_emod, h, k, ← Int.add_emod]
theorem sub_cg {a a' d d' : Int} (h : a % p = a' % p) (k : d % p = d' % p) : (a - d) % p = (a' - d') % p := by
 rw [Int.sub_emod, h, k, ← Int.sub_emod]
theorem vcg.add (h : vcg p u u') (k : vcg p v v') : vcg p (vadd u v) (vadd u' v') := fun i => add_cg (h i) (k i)
theorem vcg.sm {a a' : Int} (ha : a % p = a' % p) (h : vcg p u u') : vcg p (vsm a u) (vsm a' u') := fun i => mul_cg ha (h i)
theorem vcg.tX (hc : vcg p c c') (h : vcg p u u') : vcg p (tX m c u) (tX m c' u') := fun i => by
 simp only [Go.Proofs.Ytcmfjjbbcfddpaa.tX]; split
 ·split
  ·exact sub_cg rfl (mul_cg (hc i) (h _))
  ·exact sub_cg (h _) (mul_cg (hc i) (h _))
 ·rfl
theorem vcg.tXn (hc : vcg p c c') (h : vcg p u u') : ∀ n, vcg p (tXn m c n u) (tXn m c' n u')
 | 0 => h
 | n + 1 => vcg.tX hc (vcg.tXn hc h n)
theorem vcg.opr (hc : vcg p c c') (hb : vcg p b b') (h : vcg p u u') : ∀ n, vcg p (opr m c b n u) (opr m c' b' n u')
 | 0 => .refl _
 | n + 1 => (vcg.opr hc hb h n).add (vcg.sm (hb n) (vcg.tXn hc h n))
theorem vcg.mul (hc : vcg p c c') (h : vcg p u u') (hb : vcg p b b') : vcg p (vmul m c u b) (vmul m c' u' b') := vcg.opr hc hb h m
end
end Go.Proofs.Ytcmfjjbbcfddpaa
set_option linter.unusedVariables false
namespace Go.Proofs.Ytcmfjjbbcfddpaa
def dv (p x : Nat) : Vec := fun i => ((x / p ^ i % p : Nat) : Int)
def vl (p : Nat) : Nat → Vec → Int
  | 0, _ => 0
  | n + 1, v => v 0 + (p : Int) * vl p n (fun i => v (i + 1))
def Cn (p n : Nat) (v : Vec) : Prop := ∀ i, i < n → 0 ≤ v i ∧ v i < p
def nm (p m : Nat) (v : Vec) : Nat := (vl p m (fun i => v i % (p : Int))).toNat
theorem dv_succ (p x i : Nat) : dv p x (i + 1) = dv p (x / p) i := by
 simp only [dv]; rw [Nat.pow_succ', ← Nat.div_div_eq_div_mul]
theorem dv_zero (p x : Nat) : dv p x 0 = ((x % p : Nat) : Int) := by simp [dv]
theorem Cn.tl {p n : Nat} {v : Vec} (h : Cn p (n + 1) v) : Cn p n (fun i => v (i + 1)) := fun i hi => h (i + 1) (by omega)
theorem vl_bd {p : Nat} (hp : 0 < p) : ∀ {n : Nat} {v : Vec}, Cn p n v → 0 ≤ vl p n v ∧ vl p n v < ((p ^ n : Nat) : Int)
 | 0, v, _ => by simp [vl]
 | n + 1, v, h => by
  have ih := vl_bd hp h.tl; have h0 := h 0 (by omega); simp only [vl]; have h1 : (p : Int) * vl p n (fun i => v (i + 1)) ≤ p * (((p ^ n : Nat) : Int) - 1) := Int.mul_le_mul_of_nonneg_left (by omega) (by omega); have h2 : 0 ≤ (p : Int) * vl p n (fun i => v (i + 1)) := Int.mul_nonneg (by omega) ih.1; have h3 : ((p ^ (n + 1) : Nat) : Int) = p * ((p ^ n : Nat) : Int) := by rw [Nat.pow_succ']; push_cast; rfl
  have h4 : (p : Int) * (((p ^ n : Nat) : Int) - 1) = p * ((p ^ n : Nat) : Int) - p := by rw [Int.mul_sub, Int.mul_one]
  omega
theorem vl_congr {p : Nat} : ∀ {n : Nat} {u v : Vec}, (∀ i, i < n → u i = v i) → vl p n u = vl p n v
 | 0, _, _, _ => rfl
 | n + 1, u, v, h => by simp only [vl]; rw [h 0 (by omega), vl_congr (n := n) fun i hi => h (i + 1) (by omega)]
theorem vl_dv {p : Nat} (hp : 0 < p) : ∀ {n x : Nat}, x < p ^ n → vl p n (dv p x) = x
 | 0, x, h => by simp at h; subst h; rfl
 | n + 1, x, h => by
  simp only [vl]; have : (fun i => dv p x (i + 1)) = dv p (x / p) := by funext i; exact dv_succ p x i
  rw [this, vl_dv hp (n := n) (by rw [Nat.div_lt_iff_lt_mul hp, ← Nat.pow_succ]; exact h), dv_zero]; have := Nat.mod_add_div x p; have h2 : ((x % p + p * (x / p) : Nat) : Int) = (x : Int) := by rw [this]
  push_cast at h2 ⊢; exact h2
theorem dv_vl {p : Nat} (hp : 0 < p) : ∀ {n : Nat} {v : Vec}, Cn p n v → ∀ i, i < n → dv p (vl p n v).toNat i = v i
 | 0, _, _, i, hi => by omega
 | n + 1, v, h, i, hi => by
  have ih := vl_bd hp h.tl; have h0 := h 0 (by omega); obtain ⟨t, ht⟩ := Int.eq_ofNat_of_zero_le ih.1; obtain ⟨a, ha⟩ := Int.eq_ofNat_of_zero_le h0.1; have hv : (vl p (n + 1) v).toNat = a + p * t := by
   simp only [vl]; rw [ht, ha]; have : (a : Int) + (p : Int) * (t : Int) = ((a + p * t : Nat) : Int) := by push_cast; rfl
   rw [this]; rfl
  have hap : a < p := by have := h0.2; rw [ha] at this; omega
  rw [hv]; cases i with
  | zero => rw [dv_zero, Nat.add_mul_mod_self_left, Nat.mod_eq_of_lt hap, ha]
  | succ i =>
   rw [dv_succ]; have h2 : (a + p * t) / p = t := by rw [Nat.add_mul_div_left _ _ hp, Nat.div_eq_of_lt hap, Nat.zero_add]
   have ih2 := dv_vl hp h.tl i (by omega); rw [ht] at ih2; rw [h2]; exact ih2
section
variable {p m : Nat}
theorem md_cn (hp : 0 < p) (v : Vec) (n : Nat) : Cn p n (fun i => v i % (p : Int)) := fun i _ => ⟨Int.emod_nonneg _ (by omega), Int.emod_lt_of_pos _ (by omega)⟩
theorem nm_lt (hp : 0 < p) (v : Vec) : nm p m v < p ^ m := by
 have := vl_bd hp (md_cn hp v m); unfold nm; omega
theorem dv_nm (hp : 0 < p) (v : Vec) {i : Nat} (hi : i < m) : dv p (nm p m v) i = v i % (p : Int) := dv_vl hp (md_cn hp v m) i hi
theorem dv_cn (hp : 0 < p) (x n : Nat) : Cn p n (dv p x) := fun i _ => by
 have := Nat.mod_lt (x / p ^ i) hp; simp only [dv]; omega
theorem dv_hi {x i : Nat} (hx : x < p ^ m) (hi : m ≤ i) : dv p x i = 0 := by
 rcases Nat.eq_zero_or_pos p with rfl | hp
 ·simp only [dv]; cases m with
  | zero =>
   have : x = 0 := by simpa using hx
   subst this; simp
  | succ m => simp at hx
 ·have : x / p ^ i = 0 := Nat.div_eq_of_lt (Nat.lt_of_lt_of_le hx (Nat.pow_le_pow_right hp hi)); simp [dv, this]
theorem dv_sup {x : Nat} (hx : x < p ^ m) : Sup m (dv p x) := fun i hi => dv_hi hx hi
theorem dv_mod (x i : Nat) : dv p x i % (p : Int) = dv p x i := by
 simp only [dv]; rw [← Int.natCast_emod, Nat.mod_mod]
theorem nm_dv (hp : 0 < p) {x : Nat} (hx : x < p ^ m) : nm p m (dv p x) = x := by
 unfold nm; rw [vl_congr (v := dv p x) fun i _ => dv_mod x i, vl_dv hp hx]; rfl
theorem nm_cg {u v : Vec} (h : ∀ i, i < m → u i % (p : Int) = v i % (p : Int)) : nm p m u = nm p m v := by
 unfold nm; rw [vl_congr h]
theorem nm_vcg {u v : Vec} (h : vcg p u v) : nm p m u = nm p m v := nm_cg fun i _ => h i
theorem cg_nm (hp : 0 < p) {v : Vec} (hv : Sup m v) : vcg p (dv p (nm p m v)) v := fun i => by
 rcases Nat.lt_or_ge i m with h | h
 ·rw [dv_nm hp v h, Int.emod_emod]
 ·rw [dv_hi (nm_lt hp v) h, hv i h]
theorem nm_eq (hp : 0 < p) {x : Nat} {v : Vec} (hx : x < p ^ m) (h : ∀ i, i < m → dv p x i = v i % (p : Int)) : nm p m v = x := by
 rw [← nm_dv hp hx]; exact nm_cg fun i hi => by rw [h i hi, Int.emod_emod]
end
def fadd (p m x y : Nat) : Nat := nm p m (vadd (dv p x) (dv p y))
def fneg (p m x : Nat) : Nat := nm p m (vsm (-1) (dv p x))
def fmul (p m : Nat) (c : Vec) (x y : Nat) : Nat := nm p m (vmul m c (dv p x) (dv p y))
section
variable {p m : Nat} {c : Vec}
theorem fadd_lt (hp : 0 < p) (x y : Nat) : fadd p m x y < p ^ m := nm_lt hp _
theorem fneg_lt (hp : 0 < p) (x : Nat) : fneg p m x < p ^ m := nm_lt hp _
theorem fmul_lt (hp : 0 < p) (x y : Nat) : fmul p m c x y < p ^ m := nm_lt hp _
theorem dv_fadd (hp : 0 < p) {x y : Nat} (hx : x < p ^ m) (hy : y < p ^ m) : vcg p (dv p (fadd p m x y)) (vadd (dv p x) (dv p y)) := cg_nm hp ((dv_sup hx).add (dv_sup hy))
theorem dv_fneg (hp : 0 < p) {x : Nat} (hx : x < p ^ m) : vcg p (dv p (fneg p m x)) (vsm (-1) (dv p x)) := cg_nm hp (dv_sup hx).sm
theorem vmul_sup {a b : Vec} (ha : Sup m a) : Sup m (vmul m c a b) := Sup.opr ha m
theorem dv_fmul (hp : 0 < p) {x y : Nat} (hx : x < p ^ m) : vcg p (dv p (fmul p m c x y)) (vmul m c (dv p x) (dv p y)) := cg_nm hp (vmul_sup (dv_sup hx))
theorem fadd_comm (x y : Nat) : fadd p m x y = fadd p m y x := by unfold fadd; rw [vadd_comm]
theorem fadd_assoc (hp : 0 < p) {x y z : Nat} (hx : x < p ^ m) (hy : y < p ^ m) (hz : z < p ^ m) : fadd p m (fadd p m x y) z = fadd p m x (fadd p m y z) := by
 show nm p m (vadd (dv p (fadd p m x y)) (dv p z)) = nm p m (vadd (dv p x) (dv p (fadd p m y z))); rw [nm_vcg ((dv_fadd hp hx hy).add (vcg.refl _)), nm_vcg ((vcg.refl (p := p) (dv p x)).add (dv_fadd hp hy hz)), vadd_assoc]
theorem dv_z (p : Nat) : dv p 0 = vz := by funext i; simp [dv, vz]
theorem fadd_zero (hp : 0 < p) {x : Nat} (hx : x < p ^ m) : fadd p m x 0 = x := by unfold fadd; rw [dv_z, vadd_z, nm_dv hp hx]
theorem fadd_neg (hp : 0 < p) {x : Nat} (hx : x < p ^ m) : fadd p m x (fneg p m x) = 0 := by
 show nm p m (vadd (dv p x) (dv p (fneg p m x))) = 0; rw [nm_vcg ((vcg.refl (p := p) (dv p x)).add (dv_fneg hp hx))]; have : vadd (dv p x) (vsm (-1) (dv p x)) = vz := by funext i; simp only [vadd, vsm, vz]; omega
 rw [this, ← dv_z p, nm_dv hp (by exact Nat.pow_pos hp)]
theorem fmul_comm {x y : Nat} (hx : x < p ^ m) (hy : y < p ^ m) : fmul p m c x y = fmul p m c y x := by
 unfold fmul; rw [vmul_comm (dv_sup hx) (dv_sup hy)]
theorem fmul_assoc (hp : 0 < p) {x y z : Nat} (hx : x < p ^ m) (hy : y < p ^ m) (hz : z < p ^ m) : fmul p m c (fmul p m c x y) z = fmul p m c x (fmul p m c y z) := by
 show nm p m (vmul m c (dv p (fmul p m c x y)) (dv p z)) = nm p m (vmul m c (dv p x) (dv p (fmul p m c y z))); rw [nm_vcg (vcg.mul (vcg.refl c) (dv_fmul hp hx) (vcg.refl _)), nm_vcg (vcg.mul (vcg.refl c) (vcg.refl (dv p x)) (dv_fmul hp hy)), vmul_assoc (dv_sup hx) (dv_sup hy) (dv_sup hz)]
theorem dv_one (hp : 2 ≤ p) : dv p 1 = e0 := by
 funext i; cases i with
 | zero => rw [dv_zero, Nat.mod_eq_of_lt (by omega)]; rfl
 | succ i =>
  have : (1 : Nat) / p ^ (i + 1) = 0 := Nat.div_eq_of_lt (Nat.one_lt_pow (by omega) (by omega)); simp [dv, this, e0]
theorem fmul_one (hp : 2 ≤ p) (hm : 0 < m) {x : Nat} (hx : x < p ^ m) : fmul p m c x 1 = x := by
 unfold fmul; rw [dv_one hp, vmul_one hm, nm_dv (by omega) hx]
theorem fmul_zero (hp : 0 < p) {x : Nat} (hx : x < p ^ m) : fmul p m c x 0 = 0 := by
 rw [fmul_comm hx (Nat.pow_pos hp)]; unfold fmul; rw [dv_z]; have : vmul m c vz (dv p x) = vz := opr_z ..; rw [this, ← dv_z p, nm_dv hp (Nat.pow_pos hp)]
theorem fmul_add (hp : 0 < p) {x y z : Nat} (hx : x < p ^ m) (hy : y < p ^ m) (hz : z < p ^ m) : fmul p m c x (fadd p m y z) = fadd p m (fmul p m c x y) (fmul p m c x z) := by
 show nm p m (vmul m c (dv p x) (dv p (fadd p m y z))) = nm p m (vadd (dv p (fmul p m c x y)) (dv p (fmul p m c x z))); rw [nm_vcg (vcg.mul (vcg.refl c) (vcg.refl (dv p x)) (dv_fadd hp hy hz)), nm_vcg ((dv_fmul (c := c) hp hx).add (dv_fmul hp hx)), vmul_add]
end
structure CR (q : Nat) (A M : Nat → Nat → Nat) : Prop where
  q2 : 2 ≤ q
  Al : ∀ x y, A x y < q
  Ml : ∀ x y, M x y < q
  Ac : ∀ x y, A x y = A y x
  Aa : ∀ {x y z}, x < q → y < q → z < q → A (A x y) z = A x (A y z)
  Az : ∀ {x}, x < q → A x 0 = x
  An : ∀ {x}, x < q → ∃ y, y < q ∧ A x y = 0
  Mc : ∀ {x y}, x < q → y < q → M x y = M y x
  Ma : ∀ {x y z}, x < q → y < q → z < q → M (M x y) z = M x (M y z)
  M1 : ∀ {x}, x < q → M x 1 = x
  M0 : ∀ {x}, x < q → M x 0 = 0
  Md : ∀ {x y z}, x < q → y < q → z < q → M x (A y z) = A (M x y) (M x z)
theorem CR.mk' {p m : Nat} (c : Vec) (hp : 2 ≤ p) (hm : 0 < m) : CR (p ^ m) (fadd p m) (fmul p m c) where
 q2 := Nat.le_trans hp (by have := Nat.pow_le_pow_right (n := p) (by omega) hm; simpa using this)
 Al := fadd_lt (by omega)
 Ml := fmul_lt (by omega)
 Ac := fadd_comm
 Aa := fadd_assoc (by omega)
 Az := fadd_zero (by omega)
 An := fun {x} hx => ⟨fneg p m x, fneg_lt (by omega) x, fadd_neg (by omega) hx⟩
 Mc := fmul_comm
 Ma := fmul_assoc (by omega)
 M1 := fmul_one hp hm
 M0 := fmul_zero (by omega)
 Md := fmul_add (by omega)
end Go.Proofs.Ytcmfjjbbcfddpaa
set_option linter.unusedVariables false
namespace Go.Proofs.Ytcmfjjbbcfddpaa
def pw (M : Nat → Nat → Nat) (g : Nat) : Nat → Nat
  | 0 => 1
  | k + 1 => M (pw M g k) g
theorem php : ∀ (n : Nat) (f : Nat → Nat), (∀ i, i < n + 1 → f i < n) → ∃ i j, i < j ∧ j < n + 1 ∧ f i = f j
 | 0, f, h => absurd (h 0 (by omega)) (by omega)
 | n + 1, f, h => by
  by_cases hc : ∃ i, i < n + 1 ∧ f i = f (n + 1)
  ·obtain ⟨i, hi, he⟩ := hc; exact ⟨i, n + 1, hi, by omega, he⟩
  ·have hv := h (n + 1) (by omega); obtain ⟨i, j, hij, hj, he⟩ := php n (fun i => if f i = n then f (n + 1) else f i) (fun i hi => by
    have hne : f i ≠ f (n + 1) := fun e => hc ⟨i, hi, e⟩; have := h i (by omega); show (if f i = n then f (n + 1) else f i) < n; split
    ·omega
    ·omega)
   refine ⟨i, j, hij, by omega, ?_⟩; have hi1 : f i ≠ f (n + 1) := fun e => hc ⟨i, by omega, e⟩; have hj1 : f j ≠ f (n + 1) := fun e => hc ⟨j, by omega, e⟩; split at he <;> split at he <;> omega
theorem surj_of_inj {n : Nat} {f : Nat → Nat} (hb : ∀ i, i < n → f i < n) (hi : ∀ i j, i < j → j < n → f i ≠ f j) {y : Nat} (hy : y < n) : ∃ i, i < n ∧ f i = y := by
 obtain ⟨i, j, hij, hj, he⟩ := php n (fun i => if i < n then f i else y) (fun i _ => by
  show (if i < n then f i else y) < n; split
  ·rename_i h; exact hb i h
  ·exact hy)
 rcases Nat.lt_or_ge j n with h | h
 ·rw [if_pos h, if_pos (show i < n by omega)] at he; exact absurd he (hi i j hij h)
 ·rw [if_neg (show ¬ j < n by omega), if_pos (show i < n by omega)] at he; exact ⟨i, by omega, he⟩
section
variable {q : Nat} {A M : Nat → Nat → Nat} (R : CR q A M)
include R
namespace CR
theorem one_lt : 1 < q := R.q2
theorem pos : 0 < q := by have := R.q2; omega
theorem I1 {x : Nat} (hx : x < q) : M 1 x = x := by rw [R.Mc R.one_lt hx, R.M1 hx]
theorem Z0 {x : Nat} (hx : x < q) : M 0 x = 0 := by rw [R.Mc R.pos hx, R.M0 hx]
theorem zA {x : Nat} (hx : x < q) : A 0 x = x := by rw [R.Ac, R.Az hx]
theorem pw_lt (g : Nat) : ∀ k, pw M g k < q
 | 0 => R.one_lt
 | k + 1 => R.Ml _ _
theorem pw_one {g : Nat} (hg : g < q) : pw M g 1 = g := R.I1 hg
theorem pw_add {g : Nat} (hg : g < q) (i : Nat) : ∀ j, pw M g (i + j) = M (pw M g i) (pw M g j)
 | 0 => (R.M1 (R.pw_lt g i)).symm
 | j + 1 => by
  show M (pw M g (i + j)) g = M (pw M g i) (M (pw M g j) g); rw [pw_add hg i j, R.Ma (R.pw_lt g i) (R.pw_lt g j) hg]
theorem pw_pw {g : Nat} (hg : g < q) (i : Nat) : ∀ j, pw M (pw M g i) j = pw M g (i * j)
 | 0 => rfl
 | j + 1 => by
  show M (pw M (pw M g i) j) (pw M g i) = _; rw [pw_pw hg i j, ← R.pw_add hg]; rfl
theorem one_pw : ∀ j, pw M 1 j = 1
 | 0 => rfl
 | j + 1 => by show M (pw M 1 j) 1 = 1; rw [one_pw j, R.M1 R.one_lt]
theorem zero_pw {n : Nat} (h : 0 < n) : pw M 0 n = 0 := by
 cases n with
 | zero => omega
 | succ n => exact R.M0 (R.pw_lt 0 n)
end CR
end
structure Gn (q : Nat) (M : Nat → Nat → Nat) (g : Nat) : Prop where
  lt : g < q
  one : pw M g (q - 1) = 1
  no : ∀ k, 0 < k → k < q - 1 → pw M g k ≠ 1
namespace Gn
variable {q g : Nat} {A M : Nat → Nat → Nat}
theorem per (G : Gn q M g) (R : CR q A M) (i k : Nat) : pw M g (i + (q - 1) * k) = pw M g i := by
 rw [R.pw_add G.lt, ← R.pw_pw G.lt, G.one, R.one_pw, R.M1 (R.pw_lt g i)]
theorem ne0 (G : Gn q M g) (R : CR q A M) (k : Nat) : pw M g k ≠ 0 := fun h => by
 have h1 := G.per R 0 (k + 1); have hq := R.q2; rw [Nat.zero_add] at h1; have : (q - 1) * (k + 1) = k + ((q - 1) * (k + 1) - k) := by
  have : k + 1 ≤ (q - 1) * (k + 1) := Nat.le_mul_of_pos_left _ (by omega); omega
 rw [this, R.pw_add G.lt, h, R.Z0 (R.pw_lt g _)] at h1; exact absurd h1 (by show ¬ (0 : Nat) = 1; omega)
theorem inj (G : Gn q M g) (R : CR q A M) {i j : Nat} (hij : i < j) (hj : j < q - 1) : pw M g i ≠ pw M g j := fun h => by
 have e1 : M (pw M g i) (pw M g (q - 1 - i)) = 1 := by rw [← R.pw_add G.lt, show i + (q - 1 - i) = q - 1 by omega, G.one]
 have e2 : M (pw M g j) (pw M g (q - 1 - i)) = pw M g (j - i) := by
  rw [← R.pw_add G.lt, show j + (q - 1 - i) = (j - i) + (q - 1) * 1 by omega, G.per R]
 rw [h] at e1; exact G.no (j - i) (by omega) (by omega) (e2.symm.trans e1)
theorem surj (G : Gn q M g) (R : CR q A M) {x : Nat} (h0 : 0 < x) (hx : x < q) : ∃ k, k < q - 1 ∧ pw M g k = x := by
 obtain ⟨i, hi, he⟩ := surj_of_inj (n := q - 1) (f := fun k => pw M g k - 1) (fun i hi => by
  have := R.pw_lt g i; have := G.ne0 R i; show pw M g i - 1 < q - 1; omega) (fun i j hij hj he => by
  have h1 := G.ne0 R i; have h2 := G.ne0 R j; exact G.inj R hij hj (by omega)) (y := x - 1) (by omega)
 have := G.ne0 R i; exact ⟨i, hi, by omega⟩
open Classical in
noncomputable def lg (q : Nat) (M : Nat → Nat → Nat) (g x : Nat) : Nat := if h : ∃ k, k < q - 1 ∧ pw M g k = x then Classical.choose h else 0
theorem xone (G : Gn q M g) (R : CR q A M) {x : Nat} (h0 : 0 < x) (hx : x < q) : pw M x (q - 1) = 1 := by
  obtain ⟨k, hk, rfl⟩ := G.surj R h0 hx
  rw [R.pw_pw G.lt, Nat.mul_comm, ← R.pw_pw G.lt, G.one, R.one_pw]
end Gn
end Go.Proofs.Ytcmfjjbbcfddpaa
set_option linter.unusedVariables false
namespace Go.Proofs.Ytcmfjjbbcfddpaa
structure IsLf (n d : Nat) : Prop where
  two : 2 ≤ d
  dvd : n % d = 0
  min : ∀ e, 2 ≤ e → n % e = 0 → d ≤ e
def choose : Nat → Nat → Nat
  | _, 0 => 1
  | 0, _ + 1 => 0
  | n + 1, k + 1 => choose n k + choose n (k + 1)
section
variable {q : Nat} {A M : Nat → Nat → Nat} (R : CR q A M)
include R
namespace CR
theorem Aac {a b c : Nat} (ha : a < q) (hb : b < q) (hc : c < q) : A (A a b) c = A (A a c) b := by
 rw [R.Aa ha hb hc, R.Ac b c, ← R.Aa ha hc hb]
theorem A4 {a b c d : Nat} (ha : a < q) (hb : b < q) (hc : c < q) (hd : d < q) : A (A a b) (A c d) = A (A a c) (A b d) := by
 rw [← R.Aa (R.Al a b) hc hd, R.Aac ha hb hc, R.Aa (R.Al a c) hb hd]
end CR
end
end Go.Proofs.Ytcmfjjbbcfddpaa
set_option linter.unusedVariables false
namespace Go.Proofs.Ytcmfjjbbcfddpaa
def hz (m : Nat) (c b y : Vec) (n : Nat) : Nat → Vec
  | 0 => vz
  | k + 1 => vadd (tX m c (hz m c b y n k)) (vsm (b (n - 1 - k)) y)
theorem hz_opr {m : Nat} {c b y : Vec} {n : Nat} : ∀ {k : Nat}, k ≤ n → vadd (tXn m c (n - k) (hz m c b y n k)) (opr m c b (n - k) y) = opr m c b n y
 | 0, _ => by simp only [hz, Nat.sub_zero]; rw [tXn_z, z_vadd]
 | k + 1, h => by
  have ih := hz_opr (m := m) (c := c) (b := b) (y := y) (n := n) (k := k) (by omega); obtain ⟨r, hr⟩ : ∃ r, n - k = r + 1 := ⟨n - k - 1, by omega⟩
  rw [show n - (k + 1) = r by omega]; rw [hr] at ih; rw [← ih]; show vadd (tXn m c r (vadd (tX m c (hz m c b y n k)) (vsm (b (n - 1 - k)) y))) (opr m c b r y) = vadd (tX m c (tXn m c r (hz m c b y n k))) (vadd (opr m c b r y) (vsm (b r) (tXn m c r y))); rw [tXn_add, tXn_sm, tXn_succ, show n - 1 - k = r by omega, vadd_assoc, vadd_comm (vsm _ _)]
theorem hz_all (m : Nat) (c b y : Vec) (n : Nat) : hz m c b y n n = opr m c b n y := by
 have := hz_opr (m := m) (c := c) (b := b) (y := y) (n := n) (k := n) (Nat.le_refl n); rw [Nat.sub_self] at this; rw [← this]; exact (vadd_z _).symm
def dgl (p : Nat) : Nat → Nat → List Nat
  | 0, _ => []
  | n + 1, x => (x % p) :: dgl p n (x / p)
theorem dgl_len (p : Nat) : ∀ n x, (dgl p n x).length = n
 | 0, _ => rfl
 | n + 1, x => by simp [dgl, dgl_len p n]
theorem dgl_at (p : Nat) : ∀ n x i, i < n → (((dgl p n x).getD i 0 : Nat) : Int) = dv p x i
 | 0, _, i, h => by omega
 | n + 1, x, 0, _ => by rw [dv_zero]; rfl
 | n + 1, x, i + 1, h => by
  show (((dgl p n (x / p)).getD i 0 : Nat) : Int) = _; rw [dgl_at p n (x / p) i (by omega), dv_succ]
@[reducible] noncomputable def hd0 (l : List Nat) : Nat := List.rec (motive := fun _ => Nat) 0 (fun x _ _ => x) l
@[reducible] noncomputable def tl0 (l : List Nat) : List Nat := List.rec (motive := fun _ => List Nat) [] (fun _ l _ => l) l
noncomputable def go (p a top : Nat) (cs : List Nat) : Nat → List Nat → List Nat → List Nat :=
  List.rec (motive := fun _ => Nat → List Nat → List Nat → List Nat) (fun _ _ _ => [])
    (fun c _ ih prev us ys => ((prev + (p - c) * top + a * hd0 ys) % p) :: ih (hd0 us) (tl0 us) (tl0 ys)) cs
noncomputable def tp (l : List Nat) : Nat → Nat := List.rec (motive := fun _ => Nat → Nat) (fun d => d) (fun x _ ih _ => ih x) l
noncomputable def mulL (p : Nat) (cs ys gs : List Nat) : List Nat → List Nat :=
  List.rec (motive := fun _ => List Nat → List Nat) (fun acc => acc) (fun g _ ih acc => ih (go p g (tp acc 0) cs 0 acc ys)) gs
noncomputable def az (l : List Nat) : Bool := List.rec (motive := fun _ => Bool) true (fun x _ ih => bif Nat.beq x 0 then ih else false) l
noncomputable def is1 (l : List Nat) : Bool := List.rec (motive := fun _ => Bool) false (fun x t _ => bif Nat.beq x 1 then az t else false) l
noncomputable def run (p : Nat) (cs gs : List Nat) (n : Nat) : List Nat → Bool :=
  Nat.rec (motive := fun _ => List Nat → Bool) (fun y => is1 y) (fun _ ih y => bif is1 y then false else ih (mulL p cs y gs y)) n
noncomputable def subm (p c : Nat) (al : List Nat) : List Nat → List Nat :=
  List.rec (motive := fun _ => List Nat → List Nat) (fun bs => bs) (fun a _ ih bs => ((hd0 bs + (p - a) * c) % p) :: ih (tl0 bs)) al
noncomputable def dvg (p : Nat) (low : List Nat) (k : Nat) : List Nat → Bool :=
  Nat.rec (motive := fun _ => List Nat → Bool) (fun r => az r) (fun _ ih r => ih (subm p (hd0 r) low (tl0 r))) k
noncomputable def nob (f : Nat → Bool) (n : Nat) : Bool := Nat.rec (motive := fun _ => Bool) true (fun i ih => bif f i then false else ih) n
noncomputable def irrB (p m : Nat) (ml : List Nat) : Bool :=
  nob (fun d => !nob (fun w => dvg p (dgl p (d + 1) w).reverse (m - d) (1 :: ml.reverse)) (p ^ (d + 1))) (m / 2)
noncomputable def cand (p c : Nat) : List Nat := bif Nat.blt c p then [c] else bif Nat.blt c (p + p * p) then [(c - p) / p, (c - p) % p] else [(c - p - p * p) / (p * p), (c - p - p * p) / p % p, (c - p - p * p) % p]
noncomputable def gen1 (p m : Nat) (cs gs : List Nat) : Bool := run p cs gs (p ^ m - 2) (mulL p cs (dgl p m 1) gs (dgl p m 1))
noncomputable def genB (p m : Nat) (cs : List Nat) : Bool := !nob (fun c => gen1 p m cs (cand p (p + p * p + p * p * p - 1 - c))) (p + p * p + p * p * p)
noncomputable def chk (p m lo n : Nat) : Bool := nob (fun v => bif irrB p m (dgl p m (lo + v)) then !genB p m (dgl p m (lo + v)) else false) n

theorem hd0_eq (l : List Nat) : hd0 l = l.getD 0 0 := by cases l <;> rfl
theorem tl0_at (l : List Nat) (i : Nat) : (tl0 l).getD i 0 = l.getD (i + 1) 0 := by cases l <;> rfl
theorem tl0_len (l : List Nat) : (tl0 l).length = l.length - 1 := by cases l <;> simp [tl0]
theorem go_cons (p a top c : Nat) (cs : List Nat) (prev : Nat) (us ys : List Nat) : go p a top (c :: cs) prev us ys = ((prev + (p - c) * top + a * hd0 ys) % p) :: go p a top cs (hd0 us) (tl0 us) (tl0 ys) := rfl
theorem go_len (p a top : Nat) : ∀ (cs : List Nat) (prev : Nat) (us ys : List Nat), (go p a top cs prev us ys).length = cs.length
 | [], _, _, _ => rfl
 | c :: cs, prev, us, ys => by rw [go_cons, List.length_cons, go_len p a top cs, List.length_cons]
theorem go_at (p a top : Nat) : ∀ (cs : List Nat) (prev : Nat) (us ys : List Nat) (i : Nat), i < cs.length → (go p a top cs prev us ys).getD i 0 = ((if i = 0 then prev else us.getD (i - 1) 0) + (p - cs.getD i 0) * top + a * ys.getD i 0) % p
 | [], _, _, _, i, h => by simp at h
 | c :: cs, prev, us, ys, 0, _ => by rw [go_cons, hd0_eq]; rfl
 | c :: cs, prev, us, ys, i + 1, h => by
  rw [go_cons]; show (go p a top cs (hd0 us) (tl0 us) (tl0 ys)).getD i 0 = _; rw [go_at p a top cs _ _ _ i (by simpa using h)]; cases i with
  | zero => rw [if_pos rfl, if_neg (by omega), hd0_eq, tl0_at]; rfl
  | succ i => rw [if_neg (by omega), if_neg (by omega), tl0_at, tl0_at]; rfl
theorem tp_eq : ∀ (l : List Nat) (d : Nat), 0 < l.length → tp l d = l.getD (l.length - 1) 0
 | [], _, h => by simp at h
 | [x], d, _ => rfl
 | x :: y :: l, d, _ => by
  show tp (y :: l) x = _; rw [tp_eq (y :: l) x (by simp)]; simp
def Rep (p m : Nat) (L : List Nat) (v : Vec) : Prop := L.length = m ∧ ∀ i, i < m → ((L.getD i 0 : Nat) : Int) = v i % (p : Int)
def hl (m : Nat) (c y : Vec) : List Nat → Vec → Vec
  | [], u => u
  | g :: gs, u => hl m c y gs (vadd (tX m c u) (vsm g y))
theorem Rep.step {p m : Nat} {cs us ys : List Nat} {c u y : Vec} (hp : 0 < p) (hm : 0 < m) (hc : Rep p m cs c) (hu : Rep p m us u) (hy : Rep p m ys y) (g : Nat) :
  Rep p m (go p g (tp us 0) cs 0 us ys) (vadd (tX m c u) (vsm g y)) := by
 refine ⟨by rw [go_len, hc.1], fun i hi => ?_⟩; rw [go_at _ _ _ _ _ _ _ _ (by rw [hc.1]; exact hi), tp_eq _ _ (by rw [hu.1]; exact hm), hu.1]; have h1 := hu.2 (m - 1) (by omega); have h2 := hc.2 i hi; have h3 := hy.2 i hi; have hlt : cs.getD i 0 ≤ p := by
  have := Int.emod_lt_of_pos (c i) (show (0 : Int) < p by omega); omega
 have e : (((if i = 0 then 0 else us.getD (i - 1) 0) : Nat) : Int) % p = (if i = 0 then (0 : Int) else u (i - 1)) % p := by
  split
  ·rfl
  ·rw [hu.2 (i - 1) (by omega), Int.emod_emod]
 simp only [vadd, vsm, tX, if_pos hi]; generalize (if i = 0 then 0 else us.getD (i - 1) 0 : Nat) = A at *
 generalize (if i = 0 then (0 : Int) else u (i - 1)) = B at *
 generalize us.getD (m - 1) 0 = T at *
 generalize cs.getD i 0 = C at *
 generalize ys.getD i 0 = Y at *
 have hT : ((T : Nat) : Int) % p = u (m - 1) % p := by rw [h1, Int.emod_emod]
 have hC : ((C : Nat) : Int) % p = c i % p := by rw [h2, Int.emod_emod]
 have hY : ((Y : Nat) : Int) % p = y i % p := by rw [h3, Int.emod_emod]
 obtain ⟨D, hD⟩ : ∃ D, p = C + D := ⟨p - C, by omega⟩
 have hsub : p - C = D := by omega
 rw [hsub]; have hcast : ((A + D * T + g * Y : Nat) : Int) = ((A : Int) - C * T + g * Y) + p * T := by
  have : (p : Int) = C + D := by omega
  rw [this]; push_cast; rw [Int.add_mul]; omega
 rw [Int.natCast_emod, hcast, Int.add_mul_emod_self_left]; exact add_cg (sub_cg e (mul_cg hC hT)) (mul_cg rfl hY)
theorem mulL_cons (p : Nat) (cs ys : List Nat) (g : Nat) (gs acc : List Nat) : mulL p cs ys (g :: gs) acc = mulL p cs ys gs (go p g (tp acc 0) cs 0 acc ys) := rfl
theorem Rep.mul {p m : Nat} {cs ys : List Nat} {c y : Vec} (hp : 0 < p) (hm : 0 < m) (hc : Rep p m cs c) (hy : Rep p m ys y) : ∀ {gs us : List Nat} {u : Vec}, Rep p m us u → Rep p m (mulL p cs ys gs us) (hl m c y gs u)
 | [], _, _, h => h
 | g :: gs, us, u, h => by rw [mulL_cons]; exact Rep.mul hp hm hc hy (Rep.step hp hm hc h hy g)
theorem hl_sup {m : Nat} {c y : Vec} (hy : Sup m y) : ∀ {gs : List Nat} {u : Vec}, Sup m u → Sup m (hl m c y gs u)
 | [], _, h => h
 | g :: gs, u, h => hl_sup (gs := gs) (u := vadd (tX m c u) (vsm g y)) hy (Sup.add Sup.tX hy.sm)
theorem hl_opr {m : Nat} {c y : Vec} (hy : Sup m y) : ∀ {gs : List Nat} {U : Vec}, hl m c y gs (opr m c y m U) = opr m c y m (hl m c e0 gs U)
  | [], _ => rfl
  | g :: gs, U => by
    show hl m c y gs (vadd (tX m c (opr m c y m U)) (vsm g y)) = opr m c y m (hl m c e0 gs (vadd (tX m c U) (vsm g e0)))
    rw [← hl_opr hy, opr_add, opr_sm, opr_self hy]
    have := opr_tXn m c y m 1 U
    rw [show tXn m c 1 U = tX m c U from rfl, show tXn m c 1 (opr m c y m U) = tX m c (opr m c y m U) from rfl] at this
    rw [this]
theorem e0_sup {m : Nat} (hm : 0 < m) : Sup m e0 := fun i hi => by simp [e0, show i ≠ 0 by omega]
theorem hl_mul {m : Nat} {c y : Vec} (hm : 0 < m) (hy : Sup m y) (gs : List Nat) : hl m c y gs y = vmul m c y (hl m c e0 gs e0) := by
 rw [vmul_comm hy (hl_sup (e0_sup hm) (e0_sup hm))]; show _ = opr m c y m (hl m c e0 gs e0); rw [← hl_opr hy, opr_self hy]
theorem Rep.dv {p m x : Nat} : Rep p m (dgl p m x) (dv p x) := ⟨dgl_len p m x, fun i hi => by rw [dgl_at p m x i hi, dv_mod]⟩
theorem Rep.cg {p m : Nat} {L : List Nat} {u v : Vec} (h : Rep p m L u) (hv : ∀ i, i < m → u i % (p : Int) = v i % (p : Int)) : Rep p m L v := ⟨h.1, fun i hi => by rw [h.2 i hi, hv i hi]⟩
theorem az_cons (x : Nat) (l : List Nat) : az (x :: l) = bif Nat.beq x 0 then az l else false := rfl
theorem az_iff : ∀ l : List Nat, az l = true ↔ ∀ i, i < l.length → l.getD i 0 = 0
 | [] => ⟨fun _ i h => by simp at h, fun _ => rfl⟩
 | x :: l => by
  rw [az_cons]; cases hx : Nat.beq x 0 with
  | true =>
   have := Nat.eq_of_beq_eq_true hx; subst this; rw [show (bif true then az l else false) = az l from rfl, az_iff l]; constructor
   ·intro h i hi; cases i with
    | zero => rfl
    | succ i => exact h i (by simpa using hi)
   ·intro h i hi; exact h (i + 1) (by simpa using hi)
  | false =>
   rw [show (bif false then az l else false) = false from rfl]; constructor
   ·intro h; cases h
   ·intro h; have := h 0 (by simp); simp only [List.getD_cons_zero] at this; subst this; cases hx
theorem is1_iff {p m x : Nat} {L : List Nat} (hp : 2 ≤ p) (hm : 0 < m) (hx : x < p ^ m) (h : Rep p m L (Go.Proofs.Ytcmfjjbbcfddpaa.dv p x)) : is1 L = true ↔ x = 1 := by
 obtain ⟨a, l, rfl⟩ : ∃ a l, L = a :: l := by
  cases L with
  | nil => have := h.1; simp at this; omega
  | cons a l => exact ⟨a, l, rfl⟩
 have hlen : l.length + 1 = m := h.1; have h0 := h.2 0 hm; have e : is1 (a :: l) = bif Nat.beq a 1 then az l else false := rfl; rw [e]; constructor
 ·intro hb; cases ha : Nat.beq a 1 with
  | false => rw [ha] at hb; cases hb
  | true =>
   rw [ha] at hb; have hz := (az_iff l).1 hb; have ha1 := Nat.eq_of_beq_eq_true ha; subst ha1; rw [← nm_dv (p := p) (m := m) (by omega) hx, ← nm_dv (p := p) (m := m) (x := 1) (by omega) (Nat.one_lt_pow (by omega) (by omega))]; refine nm_cg fun i hi => ?_; rw [dv_one hp, dv_mod, ← dv_mod, ← h.2 i hi]; cases i with
   | zero =>
    show (1 : Int) = e0 0 % p; simp only [e0, if_pos]; exact (Int.emod_eq_of_lt (by omega) (by omega)).symm
   | succ i =>
    show ((l.getD i 0 : Nat) : Int) = e0 (i + 1) % p; rw [hz i (by omega)]; simp [e0]
 ·intro hx1; subst hx1; have ha : a = 1 := by
   have : ((a : Nat) : Int) = Go.Proofs.Ytcmfjjbbcfddpaa.dv p 1 0 % p := h0; rw [dv_mod, dv_one hp] at this; simp [e0] at this; omega
  subst ha; show az l = true; refine (az_iff l).2 fun i hi => ?_; have : ((l.getD i 0 : Nat) : Int) = Go.Proofs.Ytcmfjjbbcfddpaa.dv p 1 (i + 1) % p := h.2 (i + 1) (by omega); rw [dv_mod, dv_one hp] at this; simp only [e0] at this; rw [if_neg (by omega)] at this; exact Int.ofNat_eq_zero.1 this
def gel (p m : Nat) (c : Vec) (gs : List Nat) : Nat := nm p m (hl m c e0 gs e0)
theorem Rep.next {p m x : Nat} {cs L gs : List Nat} {c : Vec} (hp : 2 ≤ p) (hm : 0 < m) (hx : x < p ^ m) (hc : Rep p m cs c) (h : Rep p m L (Go.Proofs.Ytcmfjjbbcfddpaa.dv p x)) : Rep p m (mulL p cs L gs L) (Go.Proofs.Ytcmfjjbbcfddpaa.dv p (fmul p m c x (gel p m c gs))) := by
 have h1 := Rep.mul (gs := gs) (by omega) hm hc h h; rw [hl_mul hm (dv_sup hx)] at h1; refine h1.cg fun i hi => ?_; have hs := hl_sup (c := c) (gs := gs) (e0_sup hm) (e0_sup hm); have e1 := dv_fmul (p := p) (m := m) (c := c) (by omega) hx (y := gel p m c gs); have e2 := vcg.mul (m := m) (vcg.refl (p := p) c) (vcg.refl (Go.Proofs.Ytcmfjjbbcfddpaa.dv p x)) (cg_nm (p := p) (m := m) (by omega) hs); exact ((e1.trans e2) i).symm
theorem run_succ (p : Nat) (cs gs : List Nat) (n : Nat) (y : List Nat) : run p cs gs (n + 1) y = bif is1 y then false else run p cs gs n (mulL p cs y gs y) := rfl
theorem run_ok {p m : Nat} {cs gs : List Nat} {c : Vec} (hp : 2 ≤ p) (hm : 0 < m) (hc : Rep p m cs c) : ∀ {n : Nat} {L : List Nat} {x : Nat}, x < p ^ m → Rep p m L (Go.Proofs.Ytcmfjjbbcfddpaa.dv p x) → run p cs gs n L = true →
  (∀ k, k < n → fmul p m c x (pw (fmul p m c) (gel p m c gs) k) ≠ 1) ∧ fmul p m c x (pw (fmul p m c) (gel p m c gs) n) = 1
 | 0, L, x, hx, h, hr => by
  refine ⟨fun k hk => by omega, ?_⟩; show fmul p m c x 1 = 1; rw [fmul_one hp hm hx]; exact (is1_iff hp hm hx h).1 hr
 | n + 1, L, x, hx, h, hr => by
  rw [run_succ] at hr; cases h1 : is1 L with
  | true => rw [h1] at hr; cases hr
  | false =>
   rw [h1] at hr; have R := CR.mk' (p := p) (m := m) c hp hm; have hg : gel p m c gs < p ^ m := nm_lt (by omega) _; have ih := run_ok hp hm hc (fmul_lt (by omega) x _) (Rep.next (gs := gs) hp hm hx hc h) hr; have e : ∀ k, fmul p m c (fmul p m c x (gel p m c gs)) (pw (fmul p m c) (gel p m c gs) k) = fmul p m c x (pw (fmul p m c) (gel p m c gs) (k + 1)) := fun k => by
    rw [R.Ma hx hg (R.pw_lt _ k), R.Mc hg (R.pw_lt _ k)]; rfl
   refine ⟨fun k hk => ?_, by rw [← e]; exact ih.2⟩; cases k with
   | zero =>
    show fmul p m c x 1 ≠ 1; rw [fmul_one hp hm hx]; intro hx1; rw [(is1_iff hp hm hx h).2 hx1] at h1; cases h1
   | succ k => rw [← e]; exact ih.1 k (by omega)
theorem gen1_ok {p m : Nat} {cs gs : List Nat} {c : Vec} (hp : 2 ≤ p) (hm : 0 < m) (hc : Rep p m cs c) (h : gen1 p m cs gs = true) : Gn (p ^ m) (fmul p m c) (gel p m c gs) := by
 have R := CR.mk' (p := p) (m := m) c hp hm; have hg : gel p m c gs < p ^ m := nm_lt (by omega) _; have h1 := Rep.next (gs := gs) hp hm R.one_lt hc Rep.dv; rw [R.I1 hg] at h1; obtain ⟨h2, h3⟩ := run_ok hp hm hc hg h1 h; have hq := R.q2; have e : ∀ k, fmul p m c (gel p m c gs) (pw (fmul p m c) (gel p m c gs) k) = pw (fmul p m c) (gel p m c gs) (k + 1) := fun k => R.Mc hg (R.pw_lt _ k); refine ⟨hg, ?_, fun k h0 hk => ?_⟩
 ·rw [show p ^ m - 1 = (p ^ m - 2) + 1 by omega, ← e]; exact h3
 ·rw [show k = (k - 1) + 1 by omega, ← e]; exact h2 (k - 1) (by omega)
theorem nob_succ (f : Nat → Bool) (n : Nat) : nob f (n + 1) = bif f n then false else nob f n := rfl
theorem nob_iff (f : Nat → Bool) : ∀ n, nob f n = true ↔ ∀ i, i < n → f i = false
 | 0 => ⟨fun _ i h => by omega, fun _ => rfl⟩
 | n + 1 => by
  rw [nob_succ]; cases h : f n with
  | true =>
   refine ⟨fun h' => ?_, fun h' => ?_⟩
   ·cases h'
   ·rw [h' n (by omega)] at h; cases h
  | false =>
   show nob f n = true ↔ _; rw [nob_iff f n]; refine ⟨fun h' i hi => ?_, fun h' i hi => h' i (by omega)⟩; rcases Nat.lt_or_ge i n with h1 | h1
   ·exact h' i h1
   ·rw [show i = n by omega]; exact h
theorem nob_false (f : Nat → Bool) (n : Nat) (h : nob f n = false) : ∃ i, i < n ∧ f i = true := by
 have hn : ¬ ∀ i, i < n → f i = false := fun h' => by rw [(nob_iff f n).2 h'] at h; cases h
 have := Classical.not_forall.1 hn; obtain ⟨i, hi⟩ := this; have h2 := Classical.not_imp.1 hi; exact ⟨i, h2.1, by cases hf : f i with | true => rfl | false => exact absurd hf h2.2⟩
theorem genB_ok {p m : Nat} {cs : List Nat} {c : Vec} (hp : 2 ≤ p) (hm : 0 < m) (hc : Rep p m cs c) (h : genB p m cs = true) : ∃ g, Gn (p ^ m) (fmul p m c) g := by
 unfold genB at h; obtain ⟨i, _, hi⟩ := nob_false _ _ (by simpa using h); exact ⟨_, gen1_ok hp hm hc hi⟩
def rst (p d i : Nat) (l R : Vec) : Vec := fun j => if i ≤ j + d ∧ j < i then (R j - l (j + d - i) * R i) % (p : Int) else R j
def rem (p d : Nat) (l R : Vec) (n : Nat) : Nat → Vec
  | 0 => R
  | k + 1 => rst p d (n - 1 - k) l (rem p d l R n k)
def Dvd (p d : Nat) (l R : Vec) (n : Nat) : Prop := ∀ j, j < d → rem p d l R n (n - d) j = 0
def Irr (p m : Nat) (c : Vec) : Prop := ∀ d, 0 < d → 2 * d ≤ m → ∀ w, w < p ^ d → ¬ Dvd p d (dv p w) (fun i => if i = m then 1 else c i) (m + 1)
theorem subm_cons (p c a : Nat) (al bs : List Nat) : subm p c (a :: al) bs = ((hd0 bs + (p - a) * c) % p) :: subm p c al (tl0 bs) := rfl
theorem subm_len (p c : Nat) : ∀ al bs : List Nat, al.length ≤ bs.length → (subm p c al bs).length = bs.length
 | [], _, _ => rfl
 | a :: al, [], h => by simp at h
 | a :: al, b :: bs, h => by
  rw [subm_cons, List.length_cons]; show (subm p c al bs).length + 1 = _; rw [subm_len p c al bs (by simpa using h)]; rfl
theorem subm_at (p c : Nat) : ∀ (al bs : List Nat) (t : Nat), (subm p c al bs).getD t 0 = if t < al.length then (bs.getD t 0 + (p - al.getD t 0) * c) % p else bs.getD t 0
 | [], bs, t => by simp; rfl
 | a :: al, bs, 0 => by rw [subm_cons, hd0_eq]; simp
 | a :: al, bs, t + 1 => by
  rw [subm_cons]; show (subm p c al (tl0 bs)).getD t 0 = _; rw [subm_at p c al (tl0 bs) t, tl0_at]; simp
theorem dvg_succ (p : Nat) (low : List Nat) (k : Nat) (r : List Nat) : dvg p low (k + 1) r = dvg p low k (subm p (hd0 r) low (tl0 r)) := rfl
theorem dvg_ok {p d n : Nat} {l R : Vec} {low : List Nat} (hp : 0 < p) (hl : low.length = d) (hlow : ∀ t, t < d → ((low.getD t 0 : Nat) : Int) = l (d - 1 - t)) (hlp : ∀ t, t < d → low.getD t 0 ≤ p) : ∀ (s k : Nat) (r : List Nat), s + k + d = n → r.length = n - k →
  (∀ t, t < n - k → ((r.getD t 0 : Nat) : Int) = rem p d l R n k (n - 1 - k - t)) → (dvg p low s r = true ↔ Dvd p d l R n)
 | 0, k, r, hs, hr, hv => by
  have : n - k = d := by omega
  rw [this] at hr hv; show az r = true ↔ _; rw [az_iff, hr]; have hk : n - d = k := by omega
  unfold Dvd; rw [hk]; constructor
  ·intro h j hj; have := hv (d - 1 - j) (by omega); rw [h (d - 1 - j) (by omega), show n - 1 - k - (d - 1 - j) = j by omega] at this; exact this.symm
  ·intro h t ht; have := hv t ht; rw [h (n - 1 - k - t) (by omega)] at this; exact Int.ofNat_eq_zero.1 this
 | s + 1, k, r, hs, hr, hv => by
  rw [dvg_succ]; have htl : (tl0 r).length = n - (k + 1) := by rw [tl0_len, hr]; omega
  refine dvg_ok hp hl hlow hlp s (k + 1) _ (by omega) (by rw [subm_len _ _ _ _ (by rw [htl, hl]; omega), htl]) fun t ht => ?_; rw [subm_at, hl, tl0_at, hd0_eq]; have h0 := hv 0 (by omega); rw [Nat.sub_zero] at h0; have h1 := hv (t + 1) (by omega); rw [show n - 1 - k - (t + 1) = n - 1 - (k + 1) - t by omega] at h1; show _ = rst p d (n - 1 - k) l (rem p d l R n k) (n - 1 - (k + 1) - t); unfold rst; by_cases htd : t < d
  ·rw [if_pos htd, if_pos (by omega)]; have h2 := hlow t htd; have h3 := hlp t htd; rw [show n - 1 - (k + 1) - t + d - (n - 1 - k) = d - 1 - t by omega, ← h0, ← h1, ← h2]; generalize r.getD (t + 1) 0 = X at *
   generalize low.getD t 0 = Y at *
   generalize r.getD 0 0 = Z at *
   obtain ⟨D, hD⟩ : ∃ D, p = Y + D := ⟨p - Y, by omega⟩
   rw [show p - Y = D by omega, Int.natCast_emod]; have hcast : ((X + D * Z : Nat) : Int) = ((X : Int) - Y * Z) + p * Z := by
    have : (p : Int) = Y + D := by omega
    rw [this]; push_cast; rw [Int.add_mul]; omega
   rw [hcast, Int.add_mul_emod_self_left]
  ·rw [if_neg htd, if_neg (by omega)]; exact h1
theorem getD_rev (l : List Nat) (t : Nat) (h : t < l.length) : l.reverse.getD t 0 = l.getD (l.length - 1 - t) 0 := by
 rw [List.getD_eq_getElem?_getD, List.getD_eq_getElem?_getD, List.getElem?_reverse h]
theorem dv_le {p : Nat} (hp : 0 < p) (x i : Nat) : 0 ≤ dv p x i ∧ dv p x i < p := dv_cn hp x (i + 1) i (by omega)
theorem irrB_iff {p m v : Nat} (hp : 0 < p) (hv : v < p ^ m) : irrB p m (dgl p m v) = true ↔ Irr p m (dv p v) := by
 have key : ∀ d w, 0 < d → 2 * d ≤ m → (dvg p (dgl p d w).reverse (m + 1 - d) (1 :: (dgl p m v).reverse) = true ↔ Dvd p d (dv p w) (fun i => if i = m then 1 else dv p v i) (m + 1)) := fun d w hd h2 => by
  refine dvg_ok hp (by rw [List.length_reverse, dgl_len]) (fun t ht => ?_) (fun t ht => ?_) (m + 1 - d) 0 _ (by omega) (by simp [dgl_len]) fun t ht => ?_
  ·rw [getD_rev _ _ (by rw [dgl_len]; exact ht), dgl_len, dgl_at _ _ _ _ (by omega)]
  ·rw [getD_rev _ _ (by rw [dgl_len]; exact ht), dgl_len]; have := dgl_at p d w (d - 1 - t) (by omega); have := dv_le hp w (d - 1 - t); omega
  ·show _ = if m + 1 - 1 - 0 - t = m then (1 : Int) else dv p v (m + 1 - 1 - 0 - t)
   cases t with
   | zero => rw [if_pos (by omega)]; rfl
   | succ t =>
    rw [if_neg (by omega)]; show (((dgl p m v).reverse.getD t 0 : Nat) : Int) = _; rw [getD_rev _ _ (by rw [dgl_len]; omega), dgl_len, dgl_at _ _ _ _ (by omega), show m + 1 - 1 - 0 - (t + 1) = m - 1 - t by omega]
 unfold irrB; rw [nob_iff]; constructor
 ·intro h d hd h2 w hw hD; have h3 := h (d - 1) (by omega); have h4 := (nob_iff _ _).1 (by simpa using h3) w (by rw [show d - 1 + 1 = d by omega]; exact hw); rw [show d - 1 + 1 = d by omega, show m - (d - 1) = m + 1 - d by omega, (key d w hd h2).2 hD] at h4; cases h4
 ·intro h d hd; have : nob (fun w => dvg p (dgl p (d + 1) w).reverse (m - d) (1 :: (dgl p m v).reverse)) (p ^ (d + 1)) = true := (nob_iff _ _).2 fun w hw => by
   cases hb : dvg p (dgl p (d + 1) w).reverse (m - d) (1 :: (dgl p m v).reverse) with
   | false => rfl
   | true =>
    rw [show m - d = m + 1 - (d + 1) by omega] at hb; exact absurd ((key (d + 1) w (by omega) (by omega)).1 hb) (h (d + 1) (by omega) (by omega) w hw)
  rw [this]; rfl
theorem chk_ok {p m lo n v : Nat} (hp : 2 ≤ p) (hm : 0 < m) (h : chk p m lo n = true) (h1 : lo ≤ v) (h2 : v < lo + n) (hv : v < p ^ m) (hi : Irr p m (dv p v)) : ∃ g, Gn (p ^ m) (fmul p m (dv p v)) g := by
 have h3 := (nob_iff _ _).1 h (v - lo) (by omega); simp only [show lo + (v - lo) = v by omega, (irrB_iff (by omega) hv).2 hi, cond_true] at h3; exact genB_ok hp hm Rep.dv (by simpa using h3)
end Go.Proofs.Ytcmfjjbbcfddpaa
