/- Contracts of functions of the program, and what they lean on: D5. -/
import Derived.Test.YtinibbfpdbddpaaFieldFrobeniusG4
set_option linter.unusedSimpArgs false
set_option linter.unusedVariables false
namespace Go.Proofs.Ytinibbfpdbddpaa
open Go.RowKit
def V_Is (Fg : GFv) (x : Int) (Q : Bool → Prop) : Prop :=
  (((0 : Int) ≤ x) → (Q (decide (x < Fg.q)))) ∧ (¬ ((0 : Int) ≤ x) → Q false)
theorem ok_Is {w : World} {Q : Bool → Prop} {Fg : GFv} {x : Int} {ag : Addr} {Bg : Nat} (hgg : GFR Bg w ag Fg) (hv : V_Is Fg x Q) :
    Calls Try.prog 26 #[.pointer (some ag), .int .i64 x] w fun e w' => ∃ v Qr, e = .returned v ∧ w.grownBy w' none ∧ Rows w.heap.size none w' Qr ∧ News w.heap.size Qr ∧ ∃ (r0 : Bool), v = .bool r0 ∧ Qr = [] ∧ Q r0 := by
  have hgg_ := hgg
  obtain ⟨Ag_mod, kg_mod, Ag_exp, kg_exp, Ag_log, kg_log, Ag_above, kg_above, hg_c, hg_mod, hg_exp, hg_log, hg_above⟩ := hgg_
  refine calls_swap ?_
  refine calls_of_W (vs := [.pointer (some ag), .int .i64 x]) [4] Try.func26 rfl rfl rfl rfl ?_
  have hS := St.start w
  unfold V_Is at hv
  refine W.seq ?_
  refine W.region ?_
  refine WL.assign rfl rfl ?_
  refine WL.done ?_
  refine W.seq ?_
  refine W.region ?_
  refine WL.move rfl rfl ?_
  refine WL.geqD rfl rfl rfl ?_
  refine WL.move rfl rfl ?_
  by_cases g11 : (0 : Int) ≤ x
  · have hv := hv.1 g11
    rw [decide_eq_true g11]
    refine WL.take rfl ?_
    refine WL.move rfl rfl ?_
    refine WL.take rfl ?_
    refine WL.move rfl rfl ?_
    refine WL.take rfl ?_
    refine WL.nilCheck rfl rfl ?_
    refine WL.take rfl ?_
    refine WL.fieldA (off := 3) Try.fla73_1 rfl rfl ?_
    refine WL.take rfl ?_
    refine WL.load Try.underlying3 rfl rfl (Rd.at_ (hS.ro hg_c) (j := 3) rfl) rfl ?_
    refine WL.take rfl ?_
    refine WL.lssD rfl rfl rfl ?_
    refine WL.pick rfl rfl rfl ?_
    refine WL.assign rfl rfl ?_
    refine WL.done ?_
    refine W.ret ?_
    refine ⟨_, rfl, Fin.nil ?_⟩
    exact ⟨_, hS.ext, (hS.pick [] rfl).rows, News.of (hS.pick [] rfl).rows rfl, ⟨(decide (x < Fg.q)), rfl, rfl, hv⟩⟩
  · have hv := hv.2 g11
    rw [decide_eq_false g11]
    refine WL.pass rfl rfl rfl ?_
    refine WL.pass rfl rfl rfl ?_
    refine WL.pass rfl rfl rfl ?_
    refine WL.pass rfl rfl rfl ?_
    refine WL.pass rfl rfl rfl ?_
    refine WL.pass rfl rfl rfl ?_
    refine WL.pick rfl rfl rfl ?_
    refine WL.assign rfl rfl ?_
    refine WL.done ?_
    refine W.ret ?_
    refine ⟨_, rfl, Fin.nil ?_⟩
    exact ⟨_, hS.ext, (hS.pick [] rfl).rows, News.of (hS.pick [] rfl).rows rfl, ⟨false, rfl, rfl, hv⟩⟩

def V_isUnit (Fg : GFv) (x : Int) (Q : Bool → Prop) : Prop :=
  (((0 : Int) < x) → (Q (decide (x < Fg.q)))) ∧ (¬ ((0 : Int) < x) → Q false)
theorem ok_isUnit {w : World} {Q : Bool → Prop} {Fg : GFv} {x : Int} {ag : Addr} {Bg : Nat} (hgg : GFR Bg w ag Fg) (hv : V_isUnit Fg x Q) :
    Calls Try.prog 74 #[.pointer (some ag), .int .i64 x] w fun e w' => ∃ v Qr, e = .returned v ∧ w.grownBy w' none ∧ Rows w.heap.size none w' Qr ∧ News w.heap.size Qr ∧ ∃ (r0 : Bool), v = .bool r0 ∧ Qr = [] ∧ Q r0 := by
  have hgg_ := hgg
  obtain ⟨Ag_mod, kg_mod, Ag_exp, kg_exp, Ag_log, kg_log, Ag_above, kg_above, hg_c, hg_mod, hg_exp, hg_log, hg_above⟩ := hgg_
  refine calls_swap ?_
  refine calls_of_W (vs := [.pointer (some ag), .int .i64 x]) [4] Try.func74 rfl rfl rfl rfl ?_
  have hS := St.start w
  unfold V_isUnit at hv
  refine W.seq ?_
  refine W.region ?_
  refine WL.assign rfl rfl ?_
  refine WL.done ?_
  refine W.seq ?_
  refine W.region ?_
  refine WL.move rfl rfl ?_
  refine WL.gtrD rfl rfl rfl ?_
  refine WL.move rfl rfl ?_
  by_cases g11 : (0 : Int) < x
  · have hv := hv.1 g11
    rw [decide_eq_true g11]
    refine WL.take rfl ?_
    refine WL.move rfl rfl ?_
    refine WL.take rfl ?_
    refine WL.move rfl rfl ?_
    refine WL.take rfl ?_
    refine WL.nilCheck rfl rfl ?_
    refine WL.take rfl ?_
    refine WL.fieldA (off := 3) Try.fla73_1 rfl rfl ?_
    refine WL.take rfl ?_
    refine WL.load Try.underlying3 rfl rfl (Rd.at_ (hS.ro hg_c) (j := 3) rfl) rfl ?_
    refine WL.take rfl ?_
    refine WL.lssD rfl rfl rfl ?_
    refine WL.pick rfl rfl rfl ?_
    refine WL.assign rfl rfl ?_
    refine WL.done ?_
    refine W.ret ?_
    refine ⟨_, rfl, Fin.nil ?_⟩
    exact ⟨_, hS.ext, (hS.pick [] rfl).rows, News.of (hS.pick [] rfl).rows rfl, ⟨(decide (x < Fg.q)), rfl, rfl, hv⟩⟩
  · have hv := hv.2 g11
    rw [decide_eq_false g11]
    refine WL.pass rfl rfl rfl ?_
    refine WL.pass rfl rfl rfl ?_
    refine WL.pass rfl rfl rfl ?_
    refine WL.pass rfl rfl rfl ?_
    refine WL.pass rfl rfl rfl ?_
    refine WL.pass rfl rfl rfl ?_
    refine WL.pick rfl rfl rfl ?_
    refine WL.assign rfl rfl ?_
    refine WL.done ?_
    refine W.ret ?_
    refine ⟨_, rfl, Fin.nil ?_⟩
    exact ⟨_, hS.ext, (hS.pick [] rfl).rows, News.of (hS.pick [] rfl).rows rfl, ⟨false, rfl, rfl, hv⟩⟩

def V_element (Fg : GFv) (x : Int) (Q : Int → Prop) : Prop :=
  V_Is Fg x (fun r12 => ((r12 = true) → Q x) ∧ (r12 = false → (Q (0 : Int))))
theorem ok_element {w : World} {Q : Int → Prop} {Fg : GFv} {x : Int} {ag : Addr} {Bg : Nat} (hgg : GFR Bg w ag Fg) (hv : V_element Fg x Q) :
    Calls Try.prog 73 #[.pointer (some ag), .int .i64 x] w fun e w' => ∃ v Qr, e = .returned v ∧ w.grownBy w' none ∧ Rows w.heap.size none w' Qr ∧ News w.heap.size Qr ∧ ∃ (r0 : Int), v = .int .i64 r0 ∧ Qr = [] ∧ Q r0 := by
  have hgg_ := hgg
  obtain ⟨Ag_mod, kg_mod, Ag_exp, kg_exp, Ag_log, kg_log, Ag_above, kg_above, hg_c, hg_mod, hg_exp, hg_log, hg_above⟩ := hgg_
  refine calls_swap ?_
  refine calls_of_W (vs := [.pointer (some ag), .int .i64 x]) [4] Try.func73 rfl rfl rfl rfl ?_
  have hS := St.start w
  unfold V_element at hv
  refine W.seq ?_
  refine W.region ?_
  refine WL.assign rfl rfl ?_
  refine WL.done ?_
  refine W.seq ?_
  refine W.seq ?_
  refine W.region ?_
  refine WL.move rfl rfl ?_
  refine WL.move rfl rfl ?_
  refine SL.call hS (ok_Is (GFR.ext hgg hS.ext) hv) Try.func26 rfl Try.nm26 rfl rfl ?_
  rintro _ _ w11 ⟨r12, rfl, rfl, hv⟩ hGw11 hS
  change St _ _ _ _ [] at hS
  refine WL.done ?_
  refine W.cond2 rfl (fun c13 => ?_) (fun c13 => ?_)
  · have hv := hv.1 (c13)
    refine W.seq ?_
    refine W.region ?_
    refine WL.move rfl rfl ?_
    refine WL.assign rfl rfl ?_
    refine WL.done ?_
    refine W.ret ?_
    refine ⟨_, rfl, Fin.nil ?_⟩
    exact ⟨_, hS.ext, (hS.pick [] rfl).rows, News.of (hS.pick [] rfl).rows rfl, ⟨x, rfl, rfl, hv⟩⟩
  · have hv := hv.2 (c13)
    refine W.skip ?_
    refine W.seq ?_
    refine W.region ?_
    refine WL.assign rfl rfl ?_
    refine WL.done ?_
    refine W.ret ?_
    refine ⟨_, rfl, Fin.nil ?_⟩
    exact ⟨_, hS.ext, (hS.pick [] rfl).rows, News.of (hS.pick [] rfl).rows rfl, ⟨(0 : Int), rfl, rfl, hv⟩⟩

def V_exponent (Fg : GFv) (x : Int) (Q : Int → Prop) : Prop :=
  (I64 (Fg.q - (1 : Int))) ∧ (((Fg.q - (1 : Int)) ≠ 0) ∧ (∃ J14 : Int → Prop, ((((x.tmod (Fg.q - (1 : Int))) < (0 : Int)) → ((I64 (Fg.q - (1 : Int))) ∧ ((I64 ((x.tmod (Fg.q - (1 : Int))) + (Fg.q - (1 : Int)))) ∧ (J14 ((x.tmod (Fg.q - (1 : Int))) + (Fg.q - (1 : Int))))))) ∧ (¬ ((x.tmod (Fg.q - (1 : Int))) < (0 : Int)) → (J14 (x.tmod (Fg.q - (1 : Int)))))) ∧ ∀ (z13 : Int), (J14 z13 → Q z13)))
theorem ok_exponent {w : World} {Q : Int → Prop} {Fg : GFv} {x : Int} {ag : Addr} {Bg : Nat} (hgg : GFR Bg w ag Fg) (hv : V_exponent Fg x Q) :
    Calls Try.prog 75 #[.pointer (some ag), .int .i64 x] w fun e w' => ∃ v Qr, e = .returned v ∧ w.grownBy w' none ∧ Rows w.heap.size none w' Qr ∧ News w.heap.size Qr ∧ ∃ (r0 : Int), v = .int .i64 r0 ∧ Qr = [] ∧ Q r0 := by
  have hgg_ := hgg
  obtain ⟨Ag_mod, kg_mod, Ag_exp, kg_exp, Ag_log, kg_log, Ag_above, kg_above, hg_c, hg_mod, hg_exp, hg_log, hg_above⟩ := hgg_
  refine calls_swap ?_
  refine calls_of_W (vs := [.pointer (some ag), .int .i64 x]) [4] Try.func75 rfl rfl rfl rfl ?_
  have hS := St.start w
  unfold V_exponent at hv
  refine W.seq ?_
  refine W.region ?_
  refine WL.assign rfl rfl ?_
  refine WL.done ?_
  refine W.seq ?_
  refine W.region ?_
  refine WL.move rfl rfl ?_
  refine WL.move rfl rfl ?_
  refine WL.nilCheck rfl rfl ?_
  refine WL.fieldA (off := 3) Try.fla73_1 rfl rfl ?_
  refine WL.load Try.underlying3 rfl rfl (Rd.at_ (hS.ro hg_c) (j := 3) rfl) rfl ?_
  obtain ⟨o11, hv⟩ := hv
  refine WL.sub (r := (Fg.q - (1 : Int))) rfl rfl (wr o11) rfl ?_
  obtain ⟨o12, hv⟩ := hv
  refine WL.rem (r := (x.tmod (Fg.q - (1 : Int)))) rfl rfl o12 rfl rfl ?_
  refine WL.assign rfl rfl ?_
  refine WL.done ?_
  refine W.seq ?_
  refine W.seq ?_
  refine W.region ?_
  refine WL.move rfl rfl ?_
  refine WL.lssD rfl rfl rfl ?_
  refine WL.done ?_
  obtain ⟨J14, hv, hk19⟩ := hv
  refine W.cutN (σ := Int) (fun z13 w1 => J14 z13 ∧ St TT w none w1 []) (fun z13 => [(1, .int .i64 z13), (4, .int .i64 (0 : Int))]) ?_ ?_
  · refine W.cond2 rfl (fun c15 => ?_) (fun c15 => ?_)
    · have hv := hv.1 (of_decide_eq_true c15)
      refine W.region ?_
      refine WL.move rfl rfl ?_
      refine WL.move rfl rfl ?_
      refine WL.nilCheck rfl rfl ?_
      refine WL.fieldA (off := 3) Try.fla73_1 rfl rfl ?_
      refine WL.load Try.underlying3 rfl rfl (Rd.at_ (hS.ro hg_c) (j := 3) rfl) rfl ?_
      obtain ⟨o16, hv⟩ := hv
      refine WL.sub (r := (Fg.q - (1 : Int))) rfl rfl (wr o16) rfl ?_
      obtain ⟨o17, hv⟩ := hv
      refine WL.add (r := ((x.tmod (Fg.q - (1 : Int))) + (Fg.q - (1 : Int)))) rfl rfl (wr o17) rfl ?_
      refine WL.assign rfl rfl ?_
      refine WL.done ?_
      change St _ _ _ _ [] at hS
      exact ⟨((x.tmod (Fg.q - (1 : Int))) + (Fg.q - (1 : Int))), ⟨rfl, rfl, trivial⟩, rfl, hv, hS⟩
    · have hv := hv.2 (of_decide_eq_false c15)
      refine W.skip ?_
      change St _ _ _ _ [] at hS
      exact ⟨(x.tmod (Fg.q - (1 : Int))), ⟨rfl, rfl, trivial⟩, rfl, hv, hS⟩
  · rintro z13 w18 ⟨hv, hS⟩
    have hv := hk19 z13 hv
    refine W.seq ?_
    refine W.region ?_
    refine WL.move rfl rfl ?_
    refine WL.assign rfl rfl ?_
    refine WL.done ?_
    refine W.ret ?_
    refine ⟨_, rfl, Fin.nil ?_⟩
    exact ⟨_, hS.ext, (hS.pick [] rfl).rows, News.of (hS.pick [] rfl).rows rfl, ⟨z13, rfl, rfl, hv⟩⟩

def V_Order (Fg : GFv) (Q : Int → Prop) : Prop :=
  Q Fg.q
theorem ok_Order {w : World} {Q : Int → Prop} {Fg : GFv} {ag : Addr} {Bg : Nat} (hgg : GFR Bg w ag Fg) (hv : V_Order Fg Q) :
    Calls Try.prog 24 #[.pointer (some ag)] w fun e w' => ∃ v Qr, e = .returned v ∧ w.grownBy w' none ∧ Rows w.heap.size none w' Qr ∧ News w.heap.size Qr ∧ ∃ (r0 : Int), v = .int .i64 r0 ∧ Qr = [] ∧ Q r0 := by
  have hgg_ := hgg
  obtain ⟨Ag_mod, kg_mod, Ag_exp, kg_exp, Ag_log, kg_log, Ag_above, kg_above, hg_c, hg_mod, hg_exp, hg_log, hg_above⟩ := hgg_
  refine calls_swap ?_
  refine calls_of_W (vs := [.pointer (some ag)]) [2] Try.func24 rfl rfl rfl rfl ?_
  have hS := St.start w
  unfold V_Order at hv
  refine W.seq ?_
  refine W.region ?_
  refine WL.assign rfl rfl ?_
  refine WL.done ?_
  refine W.seq ?_
  refine W.region ?_
  refine WL.move rfl rfl ?_
  refine WL.nilCheck rfl rfl ?_
  refine WL.fieldA (off := 3) Try.fla73_1 rfl rfl ?_
  refine WL.load Try.underlying3 rfl rfl (Rd.at_ (hS.ro hg_c) (j := 3) rfl) rfl ?_
  refine WL.assign rfl rfl ?_
  refine WL.done ?_
  refine W.ret ?_
  refine ⟨_, rfl, Fin.nil ?_⟩
  exact ⟨_, hS.ext, (hS.pick [] rfl).rows, News.of (hS.pick [] rfl).rows rfl, ⟨Fg.q, rfl, rfl, hv⟩⟩

def V_Mul (Fg : GFv) (x : Int) (y : Int) (Q : Int → Prop) : Prop :=
  V_isUnit Fg x (fun r12 => (((!r12) = true) → (Q (0 : Int))) ∧ ((!r12) = false → (V_isUnit Fg y (fun r15 => (((!r15) = true) → (Q (0 : Int))) ∧ ((!r15) = false → ((0 ≤ x ∧ x < (Fg.log.length : Nat)) ∧ ((0 ≤ y ∧ y < (Fg.log.length : Nat)) ∧ ((I64 ((gi Fg.log x) + (gi Fg.log y))) ∧ ((0 ≤ ((gi Fg.log x) + (gi Fg.log y)) ∧ ((gi Fg.log x) + (gi Fg.log y)) < (Fg.exp.length : Nat)) ∧ (Q (gi Fg.exp ((gi Fg.log x) + (gi Fg.log y)))))))))))))
theorem ok_Mul {w : World} {Q : Int → Prop} {Fg : GFv} {x : Int} {y : Int} {ag : Addr} {Bg : Nat} (hgg : GFR Bg w ag Fg) (hv : V_Mul Fg x y Q) :
    Calls Try.prog 38 #[.pointer (some ag), .int .i64 x, .int .i64 y] w fun e w' => ∃ v Qr, e = .returned v ∧ w.grownBy w' none ∧ Rows w.heap.size none w' Qr ∧ News w.heap.size Qr ∧ ∃ (r0 : Int), v = .int .i64 r0 ∧ Qr = [] ∧ Q r0 := by
  have hgg_ := hgg
  obtain ⟨Ag_mod, kg_mod, Ag_exp, kg_exp, Ag_log, kg_log, Ag_above, kg_above, hg_c, hg_mod, hg_exp, hg_log, hg_above⟩ := hgg_
  refine calls_swap ?_
  refine calls_of_W (vs := [.pointer (some ag), .int .i64 x, .int .i64 y]) [6] Try.func38 rfl rfl rfl rfl ?_
  have hS := St.start w
  unfold V_Mul at hv
  refine W.seq ?_
  refine W.region ?_
  refine WL.assign rfl rfl ?_
  refine WL.done ?_
  refine W.seq ?_
  refine W.seq ?_
  refine W.region ?_
  refine WL.move rfl rfl ?_
  refine WL.move rfl rfl ?_
  refine SL.call hS (ok_isUnit (GFR.ext hgg hS.ext) hv) Try.func74 rfl Try.nm74 rfl rfl ?_
  rintro _ _ w11 ⟨r12, rfl, rfl, hv⟩ hGw11 hS
  change St _ _ _ _ [] at hS
  refine WL.not rfl rfl ?_
  refine WL.move rfl rfl ?_
  rcases g13 : (!r12) with _ | _
  · have hv := hv.2 g13
    refine WL.take rfl ?_
    refine WL.move rfl rfl ?_
    refine WL.take rfl ?_
    refine WL.move rfl rfl ?_
    refine WL.take rfl ?_
    refine SL.call hS (ok_isUnit (GFR.ext hgg hS.ext) hv) Try.func74 rfl Try.nm74 rfl rfl ?_
    rintro _ _ w14 ⟨r15, rfl, rfl, hv⟩ hGw14 hS
    change St _ _ _ _ [] at hS
    refine WL.take rfl ?_
    refine WL.not rfl rfl ?_
    refine WL.pick rfl rfl rfl ?_
    refine WL.done ?_
    refine W.cond2 rfl (fun c16 => ?_) (fun c16 => ?_)
    · have hv := hv.1 (c16)
      refine W.seq ?_
      refine W.region ?_
      refine WL.assign rfl rfl ?_
      refine WL.done ?_
      refine W.ret ?_
      refine ⟨_, rfl, Fin.nil ?_⟩
      exact ⟨_, hS.ext, (hS.pick [] rfl).rows, News.of (hS.pick [] rfl).rows rfl, ⟨(0 : Int), rfl, rfl, hv⟩⟩
    · have hv := hv.2 (c16)
      refine W.skip ?_
      refine W.seq ?_
      obtain ⟨o27, hv⟩ := hv
      obtain ⟨o35, hv⟩ := hv
      obtain ⟨o38, hv⟩ := hv
      obtain ⟨o40, hv⟩ := hv
      have hS0 := hS
      refine W.drawX 22 (fun _ => false) (fun _ => none) [⟨[], [0], true⟩, ⟨[0], [], true⟩, ⟨[1], [], true⟩, ⟨[2], [], false⟩, ⟨[], [0], true⟩, ⟨[4], [], true⟩, ⟨[5], [], true⟩, ⟨[6], [], false⟩, ⟨[], [1], true⟩, ⟨[7, 8], [], true⟩, ⟨[9], [], false⟩, ⟨[], [0], true⟩, ⟨[11], [], true⟩, ⟨[12], [], true⟩, ⟨[13], [], false⟩, ⟨[], [2], true⟩, ⟨[14, 15], [], true⟩, ⟨[16], [], false⟩, ⟨[10, 17], [], true⟩, ⟨[3, 18], [], true⟩, ⟨[19], [], false⟩, ⟨[20], [], true⟩] [[(0, .pointer (some ag))], [], [], [], [(0, .pointer (some ag))], [], [], [], [(1, .int .i64 x)], [], [], [(0, .pointer (some ag))], [], [], [], [(2, .int .i64 y)], [], [], [], [], [], []] (fun iQ => [fun v _ => v = .pointer (some ag), fun v _ => v = .pointer (some ag), fun v _ => v = .pointer (some (ag.add 4)), fun v _ => v = .slice Ag_exp Fg.exp.length kg_exp, fun v _ => v = .pointer (some ag), fun v _ => v = .pointer (some ag), fun v _ => v = .pointer (some (ag.add 5)), fun v _ => v = .slice Ag_log Fg.log.length kg_log, fun v _ => v = .int .i64 x, fun v _ => v = .pointer (some ((adOf Ag_log).add x.toNat)), fun v _ => v = .int .i64 (gi Fg.log x), fun v _ => v = .pointer (some ag), fun v _ => v = .pointer (some ag), fun v _ => v = .pointer (some (ag.add 5)), fun v _ => v = .slice Ag_log Fg.log.length kg_log, fun v _ => v = .int .i64 y, fun v _ => v = .pointer (some ((adOf Ag_log).add y.toNat)), fun v _ => v = .int .i64 (gi Fg.log y), fun v _ => v = .int .i64 ((gi Fg.log x) + (gi Fg.log y)), fun v _ => v = .pointer (some ((adOf Ag_exp).add (((gi Fg.log x) + (gi Fg.log y)).toNat))), fun v _ => v = .int .i64 (gi Fg.exp ((gi Fg.log x) + (gi Fg.log y))), fun v _ => v = .int .i64 (gi Fg.exp ((gi Fg.log x) + (gi Fg.log y)))].getD iQ (fun _ _ => True)) Try.mixed (by kernel_rfl) ?_ (by kernel_rfl) ?_ ?_
      · refine Vs_monoT _ ?_
        intro VQ hVQ vQ wQ1 wQ2 hQ1 hQ2
        simp only [List.mem_cons, List.not_mem_nil, or_false] at hVQ
        rcases hVQ with rfl | rfl | rfl | rfl | rfl | rfl | rfl | rfl | rfl | rfl | rfl | rfl | rfl | rfl | rfl | rfl | rfl | rfl | rfl | rfl | rfl | rfl
        · exact hQ1
        · exact hQ1
        · exact hQ1
        · exact hQ1
        · exact hQ1
        · exact hQ1
        · exact hQ1
        · exact hQ1
        · exact hQ1
        · exact hQ1
        · exact hQ1
        · exact hQ1
        · exact hQ1
        · exact hQ1
        · exact hQ1
        · exact hQ1
        · exact hQ1
        · exact hQ1
        · exact hQ1
        · exact hQ1
        · exact hQ1
        · exact hQ1
      · refine ⟨⟨rfl, ⟨rfl, trivial⟩, ?_⟩, ⟨rfl, trivial, ?_⟩, ⟨rfl, trivial, ?_⟩, ⟨rfl, trivial, ?_⟩, ⟨rfl, ⟨rfl, trivial⟩, ?_⟩, ⟨rfl, trivial, ?_⟩, ⟨rfl, trivial, ?_⟩, ⟨rfl, trivial, ?_⟩, ⟨rfl, ⟨rfl, trivial⟩, ?_⟩, ⟨rfl, trivial, ?_⟩, ⟨rfl, trivial, ?_⟩, ⟨rfl, ⟨rfl, trivial⟩, ?_⟩, ⟨rfl, trivial, ?_⟩, ⟨rfl, trivial, ?_⟩, ⟨rfl, trivial, ?_⟩, ⟨rfl, ⟨rfl, trivial⟩, ?_⟩, ⟨rfl, trivial, ?_⟩, ⟨rfl, trivial, ?_⟩, ⟨rfl, trivial, ?_⟩, ⟨rfl, trivial, ?_⟩, ⟨rfl, trivial, ?_⟩, ⟨rfl, trivial, ?_⟩, trivial⟩
        · intro w17 hE
          intro RR
          refine WL.move rfl rfl ?_
          exact WL.done ⟨_, rfl, rfl, rfl, (fun h => absurd h (by decide)), (fun j h => by cases h)⟩
        · intro w18 hE
          rintro _ rfl
          intro RR
          refine WL.nilCheck rfl rfl ?_
          exact WL.done ⟨_, rfl, rfl, rfl, (fun h => absurd h (by decide)), (fun j h => by cases h)⟩
        · intro w19 hE
          rintro _ rfl
          intro RR
          refine WL.fieldA (off := 4) Try.fla73_2 rfl rfl ?_
          exact WL.done ⟨_, rfl, rfl, rfl, (fun h => absurd h (by decide)), (fun j h => by cases h)⟩
        · intro w20 hE
          have hE := hE rfl
          have hS := hS.grow hE
          rintro _ rfl
          intro RR
          refine WL.load Try.underlying22 rfl rfl (Rd.at_ (hS.ro hg_c) (j := 4) rfl) rfl ?_
          exact WL.done ⟨_, rfl, ext_refl _, rfl, (fun h => absurd h (by decide)), (fun j h => by cases h)⟩
        · intro w21 hE
          intro RR
          refine WL.move rfl rfl ?_
          exact WL.done ⟨_, rfl, rfl, rfl, (fun h => absurd h (by decide)), (fun j h => by cases h)⟩
        · intro w22 hE
          rintro _ rfl
          intro RR
          refine WL.nilCheck rfl rfl ?_
          exact WL.done ⟨_, rfl, rfl, rfl, (fun h => absurd h (by decide)), (fun j h => by cases h)⟩
        · intro w23 hE
          rintro _ rfl
          intro RR
          refine WL.fieldA (off := 5) Try.fla73_3 rfl rfl ?_
          exact WL.done ⟨_, rfl, rfl, rfl, (fun h => absurd h (by decide)), (fun j h => by cases h)⟩
        · intro w24 hE
          have hE := hE rfl
          have hS := hS.grow hE
          rintro _ rfl
          intro RR
          refine WL.load Try.underlying22 rfl rfl (Rd.at_ (hS.ro hg_c) (j := 5) rfl) rfl ?_
          exact WL.done ⟨_, rfl, ext_refl _, rfl, (fun h => absurd h (by decide)), (fun j h => by cases h)⟩
        · intro w25 hE
          intro RR
          refine WL.move rfl rfl ?_
          exact WL.done ⟨_, rfl, rfl, rfl, (fun h => absurd h (by decide)), (fun j h => by cases h)⟩
        · intro w26 hE
          rintro _ rfl
          rintro _ rfl
          intro RR
          refine SL.index Try.underlying22 Try.el3 (hS.ro hg_log) rfl rfl o27 rfl ?_
          exact WL.done ⟨_, rfl, rfl, rfl, (fun h => absurd h (by decide)), (fun j h => by cases h)⟩
        · intro w28 hE
          have hE := hE rfl
          have hS := hS.grow hE
          rintro _ rfl
          intro RR
          refine WL.load Try.underlying3 rfl rfl (Rd.gi (hS.ro hg_log) o27) rfl ?_
          exact WL.done ⟨_, rfl, ext_refl _, rfl, (fun h => absurd h (by decide)), (fun j h => by cases h)⟩
        · intro w29 hE
          intro RR
          refine WL.move rfl rfl ?_
          exact WL.done ⟨_, rfl, rfl, rfl, (fun h => absurd h (by decide)), (fun j h => by cases h)⟩
        · intro w30 hE
          rintro _ rfl
          intro RR
          refine WL.nilCheck rfl rfl ?_
          exact WL.done ⟨_, rfl, rfl, rfl, (fun h => absurd h (by decide)), (fun j h => by cases h)⟩
        · intro w31 hE
          rintro _ rfl
          intro RR
          refine WL.fieldA (off := 5) Try.fla73_3 rfl rfl ?_
          exact WL.done ⟨_, rfl, rfl, rfl, (fun h => absurd h (by decide)), (fun j h => by cases h)⟩
        · intro w32 hE
          have hE := hE rfl
          have hS := hS.grow hE
          rintro _ rfl
          intro RR
          refine WL.load Try.underlying22 rfl rfl (Rd.at_ (hS.ro hg_c) (j := 5) rfl) rfl ?_
          exact WL.done ⟨_, rfl, ext_refl _, rfl, (fun h => absurd h (by decide)), (fun j h => by cases h)⟩
        · intro w33 hE
          intro RR
          refine WL.move rfl rfl ?_
          exact WL.done ⟨_, rfl, rfl, rfl, (fun h => absurd h (by decide)), (fun j h => by cases h)⟩
        · intro w34 hE
          rintro _ rfl
          rintro _ rfl
          intro RR
          refine SL.index Try.underlying22 Try.el3 (hS.ro hg_log) rfl rfl o35 rfl ?_
          exact WL.done ⟨_, rfl, rfl, rfl, (fun h => absurd h (by decide)), (fun j h => by cases h)⟩
        · intro w36 hE
          have hE := hE rfl
          have hS := hS.grow hE
          rintro _ rfl
          intro RR
          refine WL.load Try.underlying3 rfl rfl (Rd.gi (hS.ro hg_log) o35) rfl ?_
          exact WL.done ⟨_, rfl, ext_refl _, rfl, (fun h => absurd h (by decide)), (fun j h => by cases h)⟩
        · intro w37 hE
          rintro _ rfl
          rintro _ rfl
          intro RR
          refine WL.add (r := ((gi Fg.log x) + (gi Fg.log y))) rfl rfl (wr o38) rfl ?_
          exact WL.done ⟨_, rfl, rfl, rfl, (fun h => absurd h (by decide)), (fun j h => by cases h)⟩
        · intro w39 hE
          rintro _ rfl
          rintro _ rfl
          intro RR
          refine SL.index Try.underlying22 Try.el3 (hS.ro hg_exp) rfl rfl o40 rfl ?_
          exact WL.done ⟨_, rfl, rfl, rfl, (fun h => absurd h (by decide)), (fun j h => by cases h)⟩
        · intro w41 hE
          have hE := hE rfl
          have hS := hS.grow hE
          rintro _ rfl
          intro RR
          refine WL.load Try.underlying3 rfl rfl (Rd.gi (hS.ro hg_exp) o40) rfl ?_
          exact WL.done ⟨_, rfl, ext_refl _, rfl, (fun h => absurd h (by decide)), (fun j h => by cases h)⟩
        · intro w42 hE
          rintro _ rfl
          intro RR
          refine WL.assign rfl rfl ?_
          exact WL.done ⟨_, rfl, rfl, rfl, (fun h => absurd h (by decide)), (fun j h => by cases h)⟩
      · intro vals w43 hT hVs hAp hCp
        have hS := hS.grow hT
        have hv0 : vals 0 = _ := hVs 0 (by decide)
        have hv1 : vals 1 = _ := hVs 1 (by decide)
        have hv2 : vals 2 = _ := hVs 2 (by decide)
        have hv3 : vals 3 = _ := hVs 3 (by decide)
        have hv4 : vals 4 = _ := hVs 4 (by decide)
        have hv5 : vals 5 = _ := hVs 5 (by decide)
        have hv6 : vals 6 = _ := hVs 6 (by decide)
        have hv7 : vals 7 = _ := hVs 7 (by decide)
        have hv8 : vals 8 = _ := hVs 8 (by decide)
        have hv9 : vals 9 = _ := hVs 9 (by decide)
        have hv10 : vals 10 = _ := hVs 10 (by decide)
        have hv11 : vals 11 = _ := hVs 11 (by decide)
        have hv12 : vals 12 = _ := hVs 12 (by decide)
        have hv13 : vals 13 = _ := hVs 13 (by decide)
        have hv14 : vals 14 = _ := hVs 14 (by decide)
        have hv15 : vals 15 = _ := hVs 15 (by decide)
        have hv16 : vals 16 = _ := hVs 16 (by decide)
        have hv17 : vals 17 = _ := hVs 17 (by decide)
        have hv18 : vals 18 = _ := hVs 18 (by decide)
        have hv19 : vals 19 = _ := hVs 19 (by decide)
        have hv20 : vals 20 = _ := hVs 20 (by decide)
        have hv21 : vals 21 = _ := hVs 21 (by decide)
        rw [show (List.filterMap (fun i => Option.map (fun t => (t, vals i)) (dstAt _ i)) (List.range _)) = [(17, .pointer (some ag)), (18, .pointer (some ag)), (19, .pointer (some (ag.add 4))), (20, .slice Ag_exp Fg.exp.length kg_exp), (21, .pointer (some ag)), (22, .pointer (some ag)), (23, .pointer (some (ag.add 5))), (24, .slice Ag_log Fg.log.length kg_log), (25, .int .i64 x), (26, .pointer (some ((adOf Ag_log).add x.toNat))), (27, .int .i64 (gi Fg.log x)), (28, .pointer (some ag)), (29, .pointer (some ag)), (30, .pointer (some (ag.add 5))), (31, .slice Ag_log Fg.log.length kg_log), (32, .int .i64 y), (33, .pointer (some ((adOf Ag_log).add y.toNat))), (34, .int .i64 (gi Fg.log y)), (35, .int .i64 ((gi Fg.log x) + (gi Fg.log y))), (36, .pointer (some ((adOf Ag_exp).add (((gi Fg.log x) + (gi Fg.log y)).toNat)))), (37, .int .i64 (gi Fg.exp ((gi Fg.log x) + (gi Fg.log y)))), (6, .int .i64 (gi Fg.exp ((gi Fg.log x) + (gi Fg.log y))))] from by
          show [(17, vals 0), (18, vals 1), (19, vals 2), (20, vals 3), (21, vals 4), (22, vals 5), (23, vals 6), (24, vals 7), (25, vals 8), (26, vals 9), (27, vals 10), (28, vals 11), (29, vals 12), (30, vals 13), (31, vals 14), (32, vals 15), (33, vals 16), (34, vals 17), (35, vals 18), (36, vals 19), (37, vals 20), (6, vals 21)] = _
          rw [hv0, hv1, hv2, hv3, hv4, hv5, hv6, hv7, hv8, hv9, hv10, hv11, hv12, hv13, hv14, hv15, hv16, hv17, hv18, hv19, hv20, hv21]]
        refine WA.done (by decide +kernel) ?_
        refine W.ret ?_
        refine ⟨_, rfl, Fin.nil ?_⟩
        exact ⟨_, hS.ext, (hS.pick [] rfl).rows, News.of (hS.pick [] rfl).rows rfl, ⟨(gi Fg.exp ((gi Fg.log x) + (gi Fg.log y))), rfl, rfl, hv⟩⟩
  · have hv := hv.1 g13
    refine WL.pass rfl rfl rfl ?_
    refine WL.pass rfl rfl rfl ?_
    refine WL.pass rfl rfl rfl ?_
    refine WL.pass rfl rfl rfl ?_
    refine WL.pick rfl rfl rfl ?_
    refine WL.done ?_
    refine W.condT rfl ?_
    refine W.seq ?_
    refine W.region ?_
    refine WL.assign rfl rfl ?_
    refine WL.done ?_
    refine W.ret ?_
    refine ⟨_, rfl, Fin.nil ?_⟩
    exact ⟨_, hS.ext, (hS.pick [] rfl).rows, News.of (hS.pick [] rfl).rows rfl, ⟨(0 : Int), rfl, rfl, hv⟩⟩

def V_Neg (Fg : GFv) (x : Int) (Q : Int → Prop) : Prop :=
  (I64 (Fg.P - (1 : Int))) ∧ (V_Mul Fg (Fg.P - (1 : Int)) x (fun r13 => Q r13))
def V_Add (Fg : GFv) (x : Int) (y : Int) (Q : Int → Prop) : Prop :=
  V_element Fg x (fun r12 => V_element Fg y (fun r14 => ((Fg.P = (2 : Int)) → ((0 ≤ r12 ∧ r12 < 9223372036854775808 ∧ 0 ≤ r14 ∧ r14 < 9223372036854775808) ∧ (Q (ixor r12 r14)))) ∧ (¬ (Fg.P = (2 : Int)) → (((r12 = (0 : Int)) → Q r14) ∧ (¬ (r12 = (0 : Int)) → (((r14 = (0 : Int)) → Q r12) ∧ (¬ (r14 = (0 : Int)) → ((0 ≤ r14 ∧ r14 < (Fg.log.length : Nat)) ∧ ((0 ≤ r12 ∧ r12 < (Fg.log.length : Nat)) ∧ ((I64 ((gi Fg.log r14) - (gi Fg.log r12))) ∧ (∃ J40 : Int → Prop, (((((gi Fg.log r14) - (gi Fg.log r12)) < (0 : Int)) → ((I64 (Fg.q - (1 : Int))) ∧ ((I64 (((gi Fg.log r14) - (gi Fg.log r12)) + (Fg.q - (1 : Int)))) ∧ (J40 (((gi Fg.log r14) - (gi Fg.log r12)) + (Fg.q - (1 : Int))))))) ∧ (¬ (((gi Fg.log r14) - (gi Fg.log r12)) < (0 : Int)) → (J40 ((gi Fg.log r14) - (gi Fg.log r12))))) ∧ ∀ (z39 : Int), (J40 z39 → ((0 ≤ z39 ∧ z39 < (Fg.above.length : Nat)) ∧ ((((gi Fg.above z39) = (-1 : Int)) → (Q (0 : Int))) ∧ (¬ ((gi Fg.above z39) = (-1 : Int)) → ((0 ≤ r12 ∧ r12 < (Fg.log.length : Nat)) ∧ ((I64 ((gi Fg.log r12) + (gi Fg.above z39))) ∧ ((0 ≤ ((gi Fg.log r12) + (gi Fg.above z39)) ∧ ((gi Fg.log r12) + (gi Fg.above z39)) < (Fg.exp.length : Nat)) ∧ (Q (gi Fg.exp ((gi Fg.log r12) + (gi Fg.above z39))))))))))))))))))))))
theorem ok_Add {w : World} {Q : Int → Prop} {Fg : GFv} {x : Int} {y : Int} {ag : Addr} {Bg : Nat} (hgg : GFR Bg w ag Fg) (hv : V_Add Fg x y Q) :
    Calls Try.prog 32 #[.pointer (some ag), .int .i64 x, .int .i64 y] w fun e w' => ∃ v Qr, e = .returned v ∧ w.grownBy w' none ∧ Rows w.heap.size none w' Qr ∧ News w.heap.size Qr ∧ ∃ (r0 : Int), v = .int .i64 r0 ∧ Qr = [] ∧ Q r0 := by
  have hgg_ := hgg
  obtain ⟨Ag_mod, kg_mod, Ag_exp, kg_exp, Ag_log, kg_log, Ag_above, kg_above, hg_c, hg_mod, hg_exp, hg_log, hg_above⟩ := hgg_
  refine calls_swap ?_
  refine calls_of_W (vs := [.pointer (some ag), .int .i64 x, .int .i64 y]) [6] Try.func32 rfl rfl rfl rfl ?_
  have hS := St.start w
  unfold V_Add at hv
  refine W.seq ?_
  refine W.region ?_
  refine WL.assign rfl rfl ?_
  refine WL.done ?_
  refine W.seq ?_
  refine W.region ?_
  refine WL.move rfl rfl ?_
  refine WL.move rfl rfl ?_
  refine SL.call hS (ok_element (GFR.ext hgg hS.ext) hv) Try.func73 rfl Try.nm73 rfl rfl ?_
  rintro _ _ w11 ⟨r12, rfl, rfl, hv⟩ hGw11 hS
  change St _ _ _ _ [] at hS
  refine WL.move rfl rfl ?_
  refine WL.move rfl rfl ?_
  refine SL.call hS (ok_element (GFR.ext hgg hS.ext) hv) Try.func73 rfl Try.nm73 rfl rfl ?_
  rintro _ _ w13 ⟨r14, rfl, rfl, hv⟩ hGw13 hS
  change St _ _ _ _ [] at hS
  refine WL.assign rfl rfl ?_
  refine WL.assign rfl rfl ?_
  refine WL.done ?_
  refine W.seq ?_
  refine W.block ?_
  refine W.seq ?_
  refine W.region ?_
  refine WL.move rfl rfl ?_
  refine WL.nilCheck rfl rfl ?_
  refine WL.fieldA (off := 0) Try.fla73_0 rfl rfl ?_
  refine WL.fieldA (off := 0) Try.fla24_0 rfl rfl ?_
  refine WL.load Try.underlying3 rfl rfl (Rd.at_ (hS.ro hg_c) (j := 0) rfl) rfl ?_
  refine WL.eqlD rfl rfl rfl ?_
  refine WL.assign rfl rfl ?_
  refine WL.done ?_
  refine W.cond2 rfl (fun c15 => ?_) (fun c15 => ?_)
  · have hv := hv.1 (of_decide_eq_true c15)
    refine W.seq ?_
    refine W.region ?_
    refine WL.move rfl rfl ?_
    refine WL.move rfl rfl ?_
    obtain ⟨o16, hv⟩ := hv
    refine WL.bits (r := (ixor r12 r14)) rfl rfl (by decide) (run_ixor o16) rfl ?_
    refine WL.assign rfl rfl ?_
    refine WL.done ?_
    refine W.ret ?_
    refine ⟨_, rfl, Fin.nil ?_⟩
    exact ⟨_, hS.ext, (hS.pick [] rfl).rows, News.of (hS.pick [] rfl).rows rfl, ⟨(ixor r12 r14), rfl, rfl, hv⟩⟩
  · have hv := hv.2 (of_decide_eq_false c15)
    refine W.seq ?_
    refine W.region ?_
    refine WL.move rfl rfl ?_
    refine WL.eqlD rfl rfl rfl ?_
    refine WL.assign rfl rfl ?_
    refine WL.done ?_
    refine W.cond2 rfl (fun c17 => ?_) (fun c17 => ?_)
    · have hv := hv.1 (of_decide_eq_true c17)
      refine W.seq ?_
      refine W.region ?_
      refine WL.move rfl rfl ?_
      refine WL.assign rfl rfl ?_
      refine WL.done ?_
      refine W.ret ?_
      refine ⟨_, rfl, Fin.nil ?_⟩
      exact ⟨_, hS.ext, (hS.pick [] rfl).rows, News.of (hS.pick [] rfl).rows rfl, ⟨r14, rfl, rfl, hv⟩⟩
    · have hv := hv.2 (of_decide_eq_false c17)
      refine W.seq ?_
      refine W.region ?_
      refine WL.move rfl rfl ?_
      refine WL.eqlD rfl rfl rfl ?_
      refine WL.assign rfl rfl ?_
      refine WL.done ?_
      refine W.cond2 rfl (fun c18 => ?_) (fun c18 => ?_)
      · have hv := hv.1 (of_decide_eq_true c18)
        refine W.seq ?_
        refine W.region ?_
        refine WL.move rfl rfl ?_
        refine WL.assign rfl rfl ?_
        refine WL.done ?_
        refine W.ret ?_
        refine ⟨_, rfl, Fin.nil ?_⟩
        exact ⟨_, hS.ext, (hS.pick [] rfl).rows, News.of (hS.pick [] rfl).rows rfl, ⟨r12, rfl, rfl, hv⟩⟩
      · have hv := hv.2 (of_decide_eq_false c18)
        refine W.skip ?_
        refine W.seq ?_
        obtain ⟨o25, hv⟩ := hv
        obtain ⟨o33, hv⟩ := hv
        obtain ⟨o36, hv⟩ := hv
        have hS0 := hS
        refine W.drawX 16 (fun _ => false) (fun _ => none) [⟨[], [0], true⟩, ⟨[0], [], true⟩, ⟨[1], [], true⟩, ⟨[2], [], false⟩, ⟨[], [2], true⟩, ⟨[3, 4], [], true⟩, ⟨[5], [], false⟩, ⟨[], [0], true⟩, ⟨[7], [], true⟩, ⟨[8], [], true⟩, ⟨[9], [], false⟩, ⟨[], [1], true⟩, ⟨[10, 11], [], true⟩, ⟨[12], [], false⟩, ⟨[6, 13], [], true⟩, ⟨[14], [], true⟩] [[(0, .pointer (some ag))], [], [], [], [(2, .int .i64 r14)], [], [], [(0, .pointer (some ag))], [], [], [], [(1, .int .i64 r12)], [], [], [], []] (fun iQ => [fun v _ => v = .pointer (some ag), fun v _ => v = .pointer (some ag), fun v _ => v = .pointer (some (ag.add 5)), fun v _ => v = .slice Ag_log Fg.log.length kg_log, fun v _ => v = .int .i64 r14, fun v _ => v = .pointer (some ((adOf Ag_log).add r14.toNat)), fun v _ => v = .int .i64 (gi Fg.log r14), fun v _ => v = .pointer (some ag), fun v _ => v = .pointer (some ag), fun v _ => v = .pointer (some (ag.add 5)), fun v _ => v = .slice Ag_log Fg.log.length kg_log, fun v _ => v = .int .i64 r12, fun v _ => v = .pointer (some ((adOf Ag_log).add r12.toNat)), fun v _ => v = .int .i64 (gi Fg.log r12), fun v _ => v = .int .i64 ((gi Fg.log r14) - (gi Fg.log r12)), fun v _ => v = .int .i64 ((gi Fg.log r14) - (gi Fg.log r12))].getD iQ (fun _ _ => True)) Try.mixed (by kernel_rfl) ?_ (by kernel_rfl) ?_ ?_
        · refine Vs_monoT _ ?_
          intro VQ hVQ vQ wQ1 wQ2 hQ1 hQ2
          simp only [List.mem_cons, List.not_mem_nil, or_false] at hVQ
          rcases hVQ with rfl | rfl | rfl | rfl | rfl | rfl | rfl | rfl | rfl | rfl | rfl | rfl | rfl | rfl | rfl | rfl
          · exact hQ1
          · exact hQ1
          · exact hQ1
          · exact hQ1
          · exact hQ1
          · exact hQ1
          · exact hQ1
          · exact hQ1
          · exact hQ1
          · exact hQ1
          · exact hQ1
          · exact hQ1
          · exact hQ1
          · exact hQ1
          · exact hQ1
          · exact hQ1
        · refine ⟨⟨rfl, ⟨rfl, trivial⟩, ?_⟩, ⟨rfl, trivial, ?_⟩, ⟨rfl, trivial, ?_⟩, ⟨rfl, trivial, ?_⟩, ⟨rfl, ⟨rfl, trivial⟩, ?_⟩, ⟨rfl, trivial, ?_⟩, ⟨rfl, trivial, ?_⟩, ⟨rfl, ⟨rfl, trivial⟩, ?_⟩, ⟨rfl, trivial, ?_⟩, ⟨rfl, trivial, ?_⟩, ⟨rfl, trivial, ?_⟩, ⟨rfl, ⟨rfl, trivial⟩, ?_⟩, ⟨rfl, trivial, ?_⟩, ⟨rfl, trivial, ?_⟩, ⟨rfl, trivial, ?_⟩, ⟨rfl, trivial, ?_⟩, trivial⟩
          · intro w19 hE
            intro RR
            refine WL.move rfl rfl ?_
            exact WL.done ⟨_, rfl, rfl, rfl, (fun h => absurd h (by decide)), (fun j h => by cases h)⟩
          · intro w20 hE
            rintro _ rfl
            intro RR
            refine WL.nilCheck rfl rfl ?_
            exact WL.done ⟨_, rfl, rfl, rfl, (fun h => absurd h (by decide)), (fun j h => by cases h)⟩
          · intro w21 hE
            rintro _ rfl
            intro RR
            refine WL.fieldA (off := 5) Try.fla73_3 rfl rfl ?_
            exact WL.done ⟨_, rfl, rfl, rfl, (fun h => absurd h (by decide)), (fun j h => by cases h)⟩
          · intro w22 hE
            have hE := hE rfl
            have hS := hS.grow hE
            rintro _ rfl
            intro RR
            refine WL.load Try.underlying22 rfl rfl (Rd.at_ (hS.ro hg_c) (j := 5) rfl) rfl ?_
            exact WL.done ⟨_, rfl, ext_refl _, rfl, (fun h => absurd h (by decide)), (fun j h => by cases h)⟩
          · intro w23 hE
            intro RR
            refine WL.move rfl rfl ?_
            exact WL.done ⟨_, rfl, rfl, rfl, (fun h => absurd h (by decide)), (fun j h => by cases h)⟩
          · intro w24 hE
            rintro _ rfl
            rintro _ rfl
            intro RR
            refine SL.index Try.underlying22 Try.el3 (hS.ro hg_log) rfl rfl o25 rfl ?_
            exact WL.done ⟨_, rfl, rfl, rfl, (fun h => absurd h (by decide)), (fun j h => by cases h)⟩
          · intro w26 hE
            have hE := hE rfl
            have hS := hS.grow hE
            rintro _ rfl
            intro RR
            refine WL.load Try.underlying3 rfl rfl (Rd.gi (hS.ro hg_log) o25) rfl ?_
            exact WL.done ⟨_, rfl, ext_refl _, rfl, (fun h => absurd h (by decide)), (fun j h => by cases h)⟩
          · intro w27 hE
            intro RR
            refine WL.move rfl rfl ?_
            exact WL.done ⟨_, rfl, rfl, rfl, (fun h => absurd h (by decide)), (fun j h => by cases h)⟩
          · intro w28 hE
            rintro _ rfl
            intro RR
            refine WL.nilCheck rfl rfl ?_
            exact WL.done ⟨_, rfl, rfl, rfl, (fun h => absurd h (by decide)), (fun j h => by cases h)⟩
          · intro w29 hE
            rintro _ rfl
            intro RR
            refine WL.fieldA (off := 5) Try.fla73_3 rfl rfl ?_
            exact WL.done ⟨_, rfl, rfl, rfl, (fun h => absurd h (by decide)), (fun j h => by cases h)⟩
          · intro w30 hE
            have hE := hE rfl
            have hS := hS.grow hE
            rintro _ rfl
            intro RR
            refine WL.load Try.underlying22 rfl rfl (Rd.at_ (hS.ro hg_c) (j := 5) rfl) rfl ?_
            exact WL.done ⟨_, rfl, ext_refl _, rfl, (fun h => absurd h (by decide)), (fun j h => by cases h)⟩
          · intro w31 hE
            intro RR
            refine WL.move rfl rfl ?_
            exact WL.done ⟨_, rfl, rfl, rfl, (fun h => absurd h (by decide)), (fun j h => by cases h)⟩
          · intro w32 hE
            rintro _ rfl
            rintro _ rfl
            intro RR
            refine SL.index Try.underlying22 Try.el3 (hS.ro hg_log) rfl rfl o33 rfl ?_
            exact WL.done ⟨_, rfl, rfl, rfl, (fun h => absurd h (by decide)), (fun j h => by cases h)⟩
          · intro w34 hE
            have hE := hE rfl
            have hS := hS.grow hE
            rintro _ rfl
            intro RR
            refine WL.load Try.underlying3 rfl rfl (Rd.gi (hS.ro hg_log) o33) rfl ?_
            exact WL.done ⟨_, rfl, ext_refl _, rfl, (fun h => absurd h (by decide)), (fun j h => by cases h)⟩
          · intro w35 hE
            rintro _ rfl
            rintro _ rfl
            intro RR
            refine WL.sub (r := ((gi Fg.log r14) - (gi Fg.log r12))) rfl rfl (wr o36) rfl ?_
            exact WL.done ⟨_, rfl, rfl, rfl, (fun h => absurd h (by decide)), (fun j h => by cases h)⟩
          · intro w37 hE
            rintro _ rfl
            intro RR
            refine WL.assign rfl rfl ?_
            exact WL.done ⟨_, rfl, rfl, rfl, (fun h => absurd h (by decide)), (fun j h => by cases h)⟩
        · intro vals w38 hT hVs hAp hCp
          have hS := hS.grow hT
          have hv0 : vals 0 = _ := hVs 0 (by decide)
          have hv1 : vals 1 = _ := hVs 1 (by decide)
          have hv2 : vals 2 = _ := hVs 2 (by decide)
          have hv3 : vals 3 = _ := hVs 3 (by decide)
          have hv4 : vals 4 = _ := hVs 4 (by decide)
          have hv5 : vals 5 = _ := hVs 5 (by decide)
          have hv6 : vals 6 = _ := hVs 6 (by decide)
          have hv7 : vals 7 = _ := hVs 7 (by decide)
          have hv8 : vals 8 = _ := hVs 8 (by decide)
          have hv9 : vals 9 = _ := hVs 9 (by decide)
          have hv10 : vals 10 = _ := hVs 10 (by decide)
          have hv11 : vals 11 = _ := hVs 11 (by decide)
          have hv12 : vals 12 = _ := hVs 12 (by decide)
          have hv13 : vals 13 = _ := hVs 13 (by decide)
          have hv14 : vals 14 = _ := hVs 14 (by decide)
          have hv15 : vals 15 = _ := hVs 15 (by decide)
          rw [show (List.filterMap (fun i => Option.map (fun t => (t, vals i)) (dstAt _ i)) (List.range _)) = [(33, .pointer (some ag)), (34, .pointer (some ag)), (35, .pointer (some (ag.add 5))), (36, .slice Ag_log Fg.log.length kg_log), (37, .int .i64 r14), (38, .pointer (some ((adOf Ag_log).add r14.toNat))), (39, .int .i64 (gi Fg.log r14)), (40, .pointer (some ag)), (41, .pointer (some ag)), (42, .pointer (some (ag.add 5))), (43, .slice Ag_log Fg.log.length kg_log), (44, .int .i64 r12), (45, .pointer (some ((adOf Ag_log).add r12.toNat))), (46, .int .i64 (gi Fg.log r12)), (47, .int .i64 ((gi Fg.log r14) - (gi Fg.log r12))), (7, .int .i64 ((gi Fg.log r14) - (gi Fg.log r12)))] from by
            show [(33, vals 0), (34, vals 1), (35, vals 2), (36, vals 3), (37, vals 4), (38, vals 5), (39, vals 6), (40, vals 7), (41, vals 8), (42, vals 9), (43, vals 10), (44, vals 11), (45, vals 12), (46, vals 13), (47, vals 14), (7, vals 15)] = _
            rw [hv0, hv1, hv2, hv3, hv4, hv5, hv6, hv7, hv8, hv9, hv10, hv11, hv12, hv13, hv14, hv15]]
          refine WA.done (by decide +kernel) ?_
          refine W.seq ?_
          refine W.seq ?_
          refine W.region ?_
          refine WL.move rfl rfl ?_
          refine WL.lssD rfl rfl rfl ?_
          refine WL.done ?_
          obtain ⟨J40, hv, hk67⟩ := hv
          refine W.cutN (σ := Int) (fun z39 w1 => J40 z39 ∧ St TT w none w1 []) (fun z39 => [(0, .pointer (some ag)), (1, .int .i64 r12), (6, .int .i64 (0 : Int)), (7, .int .i64 z39)]) ?_ ?_
          · refine W.cond2 rfl (fun c41 => ?_) (fun c41 => ?_)
            · have hv := hv.1 (of_decide_eq_true c41)
              refine W.region ?_
              refine WL.move rfl rfl ?_
              refine WL.move rfl rfl ?_
              refine WL.nilCheck rfl rfl ?_
              refine WL.fieldA (off := 3) Try.fla73_1 rfl rfl ?_
              refine WL.load Try.underlying3 rfl rfl (Rd.at_ (hS.ro hg_c) (j := 3) rfl) rfl ?_
              obtain ⟨o42, hv⟩ := hv
              refine WL.sub (r := (Fg.q - (1 : Int))) rfl rfl (wr o42) rfl ?_
              obtain ⟨o43, hv⟩ := hv
              refine WL.add (r := (((gi Fg.log r14) - (gi Fg.log r12)) + (Fg.q - (1 : Int)))) rfl rfl (wr o43) rfl ?_
              refine WL.assign rfl rfl ?_
              refine WL.done ?_
              change St _ _ _ _ [] at hS
              exact ⟨(((gi Fg.log r14) - (gi Fg.log r12)) + (Fg.q - (1 : Int))), ⟨rfl, rfl, rfl, rfl, trivial⟩, rfl, hv, hS⟩
            · have hv := hv.2 (of_decide_eq_false c41)
              refine W.skip ?_
              change St _ _ _ _ [] at hS
              exact ⟨((gi Fg.log r14) - (gi Fg.log r12)), ⟨rfl, rfl, rfl, rfl, trivial⟩, rfl, hv, hS⟩
          · rintro z39 w44 ⟨hv, hS⟩
            have hv := hk67 z39 hv
            refine W.seq ?_
            refine W.region ?_
            refine WL.move rfl rfl ?_
            refine WL.nilCheck rfl rfl ?_
            refine WL.fieldA (off := 6) Try.fla73_4 rfl rfl ?_
            refine WL.load Try.underlying22 rfl rfl (Rd.at_ (hS.ro hg_c) (j := 6) rfl) rfl ?_
            refine WL.move rfl rfl ?_
            obtain ⟨o45, hv⟩ := hv
            refine SL.index Try.underlying22 Try.el3 (hS.ro hg_above) rfl rfl o45 rfl ?_
            refine WL.load Try.underlying3 rfl rfl (Rd.gi (hS.ro hg_above) o45) rfl ?_
            refine WL.assign rfl rfl ?_
            refine WL.done ?_
            refine W.seq ?_
            refine W.seq ?_
            refine W.region ?_
            refine WL.move rfl rfl ?_
            refine WL.eqlD rfl rfl rfl ?_
            refine WL.done ?_
            refine W.cond2 rfl (fun c46 => ?_) (fun c46 => ?_)
            · have hv := hv.1 (of_decide_eq_true c46)
              refine W.seq ?_
              refine W.region ?_
              refine WL.assign rfl rfl ?_
              refine WL.done ?_
              refine W.ret ?_
              refine ⟨_, rfl, Fin.nil ?_⟩
              exact ⟨_, hS.ext, (hS.pick [] rfl).rows, News.of (hS.pick [] rfl).rows rfl, ⟨(0 : Int), rfl, rfl, hv⟩⟩
            · have hv := hv.2 (of_decide_eq_false c46)
              refine W.skip ?_
              refine W.seq ?_
              obtain ⟨o57, hv⟩ := hv
              obtain ⟨o61, hv⟩ := hv
              obtain ⟨o63, hv⟩ := hv
              have hS0 := hS
              refine W.drawX 16 (fun _ => false) (fun _ => none) [⟨[], [0], true⟩, ⟨[0], [], true⟩, ⟨[1], [], true⟩, ⟨[2], [], false⟩, ⟨[], [0], true⟩, ⟨[4], [], true⟩, ⟨[5], [], true⟩, ⟨[6], [], false⟩, ⟨[], [1], true⟩, ⟨[7, 8], [], true⟩, ⟨[9], [], false⟩, ⟨[], [8], true⟩, ⟨[10, 11], [], true⟩, ⟨[3, 12], [], true⟩, ⟨[13], [], false⟩, ⟨[14], [], true⟩] [[(0, .pointer (some ag))], [], [], [], [(0, .pointer (some ag))], [], [], [], [(1, .int .i64 r12)], [], [], [(8, .int .i64 (gi Fg.above z39))], [], [], [], []] (fun iQ => [fun v _ => v = .pointer (some ag), fun v _ => v = .pointer (some ag), fun v _ => v = .pointer (some (ag.add 4)), fun v _ => v = .slice Ag_exp Fg.exp.length kg_exp, fun v _ => v = .pointer (some ag), fun v _ => v = .pointer (some ag), fun v _ => v = .pointer (some (ag.add 5)), fun v _ => v = .slice Ag_log Fg.log.length kg_log, fun v _ => v = .int .i64 r12, fun v _ => v = .pointer (some ((adOf Ag_log).add r12.toNat)), fun v _ => v = .int .i64 (gi Fg.log r12), fun v _ => v = .int .i64 (gi Fg.above z39), fun v _ => v = .int .i64 ((gi Fg.log r12) + (gi Fg.above z39)), fun v _ => v = .pointer (some ((adOf Ag_exp).add (((gi Fg.log r12) + (gi Fg.above z39)).toNat))), fun v _ => v = .int .i64 (gi Fg.exp ((gi Fg.log r12) + (gi Fg.above z39))), fun v _ => v = .int .i64 (gi Fg.exp ((gi Fg.log r12) + (gi Fg.above z39)))].getD iQ (fun _ _ => True)) Try.mixed (by kernel_rfl) ?_ (by kernel_rfl) ?_ ?_
              · refine Vs_monoT _ ?_
                intro VQ hVQ vQ wQ1 wQ2 hQ1 hQ2
                simp only [List.mem_cons, List.not_mem_nil, or_false] at hVQ
                rcases hVQ with rfl | rfl | rfl | rfl | rfl | rfl | rfl | rfl | rfl | rfl | rfl | rfl | rfl | rfl | rfl | rfl
                · exact hQ1
                · exact hQ1
                · exact hQ1
                · exact hQ1
                · exact hQ1
                · exact hQ1
                · exact hQ1
                · exact hQ1
                · exact hQ1
                · exact hQ1
                · exact hQ1
                · exact hQ1
                · exact hQ1
                · exact hQ1
                · exact hQ1
                · exact hQ1
              · refine ⟨⟨rfl, ⟨rfl, trivial⟩, ?_⟩, ⟨rfl, trivial, ?_⟩, ⟨rfl, trivial, ?_⟩, ⟨rfl, trivial, ?_⟩, ⟨rfl, ⟨rfl, trivial⟩, ?_⟩, ⟨rfl, trivial, ?_⟩, ⟨rfl, trivial, ?_⟩, ⟨rfl, trivial, ?_⟩, ⟨rfl, ⟨rfl, trivial⟩, ?_⟩, ⟨rfl, trivial, ?_⟩, ⟨rfl, trivial, ?_⟩, ⟨rfl, ⟨rfl, trivial⟩, ?_⟩, ⟨rfl, trivial, ?_⟩, ⟨rfl, trivial, ?_⟩, ⟨rfl, trivial, ?_⟩, ⟨rfl, trivial, ?_⟩, trivial⟩
                · intro w47 hE
                  intro RR
                  refine WL.move rfl rfl ?_
                  exact WL.done ⟨_, rfl, rfl, rfl, (fun h => absurd h (by decide)), (fun j h => by cases h)⟩
                · intro w48 hE
                  rintro _ rfl
                  intro RR
                  refine WL.nilCheck rfl rfl ?_
                  exact WL.done ⟨_, rfl, rfl, rfl, (fun h => absurd h (by decide)), (fun j h => by cases h)⟩
                · intro w49 hE
                  rintro _ rfl
                  intro RR
                  refine WL.fieldA (off := 4) Try.fla73_2 rfl rfl ?_
                  exact WL.done ⟨_, rfl, rfl, rfl, (fun h => absurd h (by decide)), (fun j h => by cases h)⟩
                · intro w50 hE
                  have hE := hE rfl
                  have hS := hS.grow hE
                  rintro _ rfl
                  intro RR
                  refine WL.load Try.underlying22 rfl rfl (Rd.at_ (hS.ro hg_c) (j := 4) rfl) rfl ?_
                  exact WL.done ⟨_, rfl, ext_refl _, rfl, (fun h => absurd h (by decide)), (fun j h => by cases h)⟩
                · intro w51 hE
                  intro RR
                  refine WL.move rfl rfl ?_
                  exact WL.done ⟨_, rfl, rfl, rfl, (fun h => absurd h (by decide)), (fun j h => by cases h)⟩
                · intro w52 hE
                  rintro _ rfl
                  intro RR
                  refine WL.nilCheck rfl rfl ?_
                  exact WL.done ⟨_, rfl, rfl, rfl, (fun h => absurd h (by decide)), (fun j h => by cases h)⟩
                · intro w53 hE
                  rintro _ rfl
                  intro RR
                  refine WL.fieldA (off := 5) Try.fla73_3 rfl rfl ?_
                  exact WL.done ⟨_, rfl, rfl, rfl, (fun h => absurd h (by decide)), (fun j h => by cases h)⟩
                · intro w54 hE
                  have hE := hE rfl
                  have hS := hS.grow hE
                  rintro _ rfl
                  intro RR
                  refine WL.load Try.underlying22 rfl rfl (Rd.at_ (hS.ro hg_c) (j := 5) rfl) rfl ?_
                  exact WL.done ⟨_, rfl, ext_refl _, rfl, (fun h => absurd h (by decide)), (fun j h => by cases h)⟩
                · intro w55 hE
                  intro RR
                  refine WL.move rfl rfl ?_
                  exact WL.done ⟨_, rfl, rfl, rfl, (fun h => absurd h (by decide)), (fun j h => by cases h)⟩
                · intro w56 hE
                  rintro _ rfl
                  rintro _ rfl
                  intro RR
                  refine SL.index Try.underlying22 Try.el3 (hS.ro hg_log) rfl rfl o57 rfl ?_
                  exact WL.done ⟨_, rfl, rfl, rfl, (fun h => absurd h (by decide)), (fun j h => by cases h)⟩
                · intro w58 hE
                  have hE := hE rfl
                  have hS := hS.grow hE
                  rintro _ rfl
                  intro RR
                  refine WL.load Try.underlying3 rfl rfl (Rd.gi (hS.ro hg_log) o57) rfl ?_
                  exact WL.done ⟨_, rfl, ext_refl _, rfl, (fun h => absurd h (by decide)), (fun j h => by cases h)⟩
                · intro w59 hE
                  intro RR
                  refine WL.move rfl rfl ?_
                  exact WL.done ⟨_, rfl, rfl, rfl, (fun h => absurd h (by decide)), (fun j h => by cases h)⟩
                · intro w60 hE
                  rintro _ rfl
                  rintro _ rfl
                  intro RR
                  refine WL.add (r := ((gi Fg.log r12) + (gi Fg.above z39))) rfl rfl (wr o61) rfl ?_
                  exact WL.done ⟨_, rfl, rfl, rfl, (fun h => absurd h (by decide)), (fun j h => by cases h)⟩
                · intro w62 hE
                  rintro _ rfl
                  rintro _ rfl
                  intro RR
                  refine SL.index Try.underlying22 Try.el3 (hS.ro hg_exp) rfl rfl o63 rfl ?_
                  exact WL.done ⟨_, rfl, rfl, rfl, (fun h => absurd h (by decide)), (fun j h => by cases h)⟩
                · intro w64 hE
                  have hE := hE rfl
                  have hS := hS.grow hE
                  rintro _ rfl
                  intro RR
                  refine WL.load Try.underlying3 rfl rfl (Rd.gi (hS.ro hg_exp) o63) rfl ?_
                  exact WL.done ⟨_, rfl, ext_refl _, rfl, (fun h => absurd h (by decide)), (fun j h => by cases h)⟩
                · intro w65 hE
                  rintro _ rfl
                  intro RR
                  refine WL.assign rfl rfl ?_
                  exact WL.done ⟨_, rfl, rfl, rfl, (fun h => absurd h (by decide)), (fun j h => by cases h)⟩
              · intro vals w66 hT hVs hAp hCp
                have hS := hS.grow hT
                have hv0 : vals 0 = _ := hVs 0 (by decide)
                have hv1 : vals 1 = _ := hVs 1 (by decide)
                have hv2 : vals 2 = _ := hVs 2 (by decide)
                have hv3 : vals 3 = _ := hVs 3 (by decide)
                have hv4 : vals 4 = _ := hVs 4 (by decide)
                have hv5 : vals 5 = _ := hVs 5 (by decide)
                have hv6 : vals 6 = _ := hVs 6 (by decide)
                have hv7 : vals 7 = _ := hVs 7 (by decide)
                have hv8 : vals 8 = _ := hVs 8 (by decide)
                have hv9 : vals 9 = _ := hVs 9 (by decide)
                have hv10 : vals 10 = _ := hVs 10 (by decide)
                have hv11 : vals 11 = _ := hVs 11 (by decide)
                have hv12 : vals 12 = _ := hVs 12 (by decide)
                have hv13 : vals 13 = _ := hVs 13 (by decide)
                have hv14 : vals 14 = _ := hVs 14 (by decide)
                have hv15 : vals 15 = _ := hVs 15 (by decide)
                rw [show (List.filterMap (fun i => Option.map (fun t => (t, vals i)) (dstAt _ i)) (List.range _)) = [(66, .pointer (some ag)), (67, .pointer (some ag)), (68, .pointer (some (ag.add 4))), (69, .slice Ag_exp Fg.exp.length kg_exp), (70, .pointer (some ag)), (71, .pointer (some ag)), (72, .pointer (some (ag.add 5))), (73, .slice Ag_log Fg.log.length kg_log), (74, .int .i64 r12), (75, .pointer (some ((adOf Ag_log).add r12.toNat))), (76, .int .i64 (gi Fg.log r12)), (77, .int .i64 (gi Fg.above z39)), (78, .int .i64 ((gi Fg.log r12) + (gi Fg.above z39))), (79, .pointer (some ((adOf Ag_exp).add (((gi Fg.log r12) + (gi Fg.above z39)).toNat)))), (80, .int .i64 (gi Fg.exp ((gi Fg.log r12) + (gi Fg.above z39)))), (6, .int .i64 (gi Fg.exp ((gi Fg.log r12) + (gi Fg.above z39))))] from by
                  show [(66, vals 0), (67, vals 1), (68, vals 2), (69, vals 3), (70, vals 4), (71, vals 5), (72, vals 6), (73, vals 7), (74, vals 8), (75, vals 9), (76, vals 10), (77, vals 11), (78, vals 12), (79, vals 13), (80, vals 14), (6, vals 15)] = _
                  rw [hv0, hv1, hv2, hv3, hv4, hv5, hv6, hv7, hv8, hv9, hv10, hv11, hv12, hv13, hv14, hv15]]
                refine WA.done (by decide +kernel) ?_
                refine W.ret ?_
                refine ⟨_, rfl, Fin.nil ?_⟩
                exact ⟨_, hS.ext, (hS.pick [] rfl).rows, News.of (hS.pick [] rfl).rows rfl, ⟨(gi Fg.exp ((gi Fg.log r12) + (gi Fg.above z39))), rfl, rfl, hv⟩⟩

def V_Sub (Fg : GFv) (x : Int) (y : Int) (Q : Int → Prop) : Prop :=
  V_Neg Fg y (fun r12 => V_Add Fg x r12 (fun r14 => Q r14))
def V_Inv (Fg : GFv) (x : Int) (Q : Int × Int → Prop) : Prop :=
  V_isUnit Fg x (fun r12 => (((!r12) = true) → (Q ((0 : Int), (7 : Int)))) ∧ ((!r12) = false → ((I64 (Fg.q - (1 : Int))) ∧ ((0 ≤ x ∧ x < (Fg.log.length : Nat)) ∧ ((I64 ((Fg.q - (1 : Int)) - (gi Fg.log x))) ∧ ((0 ≤ ((Fg.q - (1 : Int)) - (gi Fg.log x)) ∧ ((Fg.q - (1 : Int)) - (gi Fg.log x)) < (Fg.exp.length : Nat)) ∧ (Q ((gi Fg.exp ((Fg.q - (1 : Int)) - (gi Fg.log x))), (0 : Int)))))))))
def V_Div (Fg : GFv) (x : Int) (y : Int) (Q : Int × Int → Prop) : Prop :=
  V_Inv Fg y (fun q => match q with | (r12, r13) => V_Mul Fg x r12 (fun r15 => Q (r15, r13)))
def V_Pow (Fg : GFv) (x : Int) (n : Int) (Q : Int × Int → Prop) : Prop :=
  V_isUnit Fg x (fun r12 => ((r12 = true) → ((0 ≤ x ∧ x < (Fg.log.length : Nat)) ∧ (∃ (r30 : Int), V_exponent Fg n (fun q => q = r30) ∧ ((I64 ((gi Fg.log x) * r30)) ∧ (∃ (r36 : Int), V_exponent Fg ((gi Fg.log x) * r30) (fun q => q = r36) ∧ ((0 ≤ r36 ∧ r36 < (Fg.exp.length : Nat)) ∧ (Q ((gi Fg.exp r36), (0 : Int))))))))) ∧ (r12 = false → (((n < (0 : Int)) → (Q ((0 : Int), (7 : Int)))) ∧ (¬ (n < (0 : Int)) → (((n = (0 : Int)) → (Q ((1 : Int), (0 : Int)))) ∧ (¬ (n = (0 : Int)) → (Q ((0 : Int), (0 : Int)))))))))
theorem ok_Pow {w : World} {Q : Int × Int → Prop} {Fg : GFv} {x : Int} {n : Int} {ag : Addr} {Bg : Nat} (hgg : GFR Bg w ag Fg) (hv : V_Pow Fg x n Q) :
    Calls Try.prog 43 #[.pointer (some ag), .int .i64 x, .int .i64 n] w fun e w' => ∃ v Qr, e = .returned v ∧ w.grownBy w' none ∧ Rows w.heap.size none w' Qr ∧ News w.heap.size Qr ∧ ∃ (r0 : Int) (r1 : Int), v = .tuple #[.int .i64 r0, .int .i64 r1] ∧ Qr = [] ∧ Q (r0, r1) := by
  have hgg_ := hgg
  obtain ⟨Ag_mod, kg_mod, Ag_exp, kg_exp, Ag_log, kg_log, Ag_above, kg_above, hg_c, hg_mod, hg_exp, hg_log, hg_above⟩ := hgg_
  refine calls_swap ?_
  refine calls_of_W (vs := [.pointer (some ag), .int .i64 x, .int .i64 n]) [6, 7] Try.func43 rfl rfl rfl rfl ?_
  have hS := St.start w
  unfold V_Pow at hv
  refine W.seq ?_
  refine W.region ?_
  refine WL.assign rfl rfl ?_
  refine WL.assign rfl rfl ?_
  refine WL.done ?_
  refine W.seq ?_
  refine W.block ?_
  refine W.seq ?_
  refine W.region ?_
  refine WL.move rfl rfl ?_
  refine WL.move rfl rfl ?_
  refine SL.call hS (ok_isUnit (GFR.ext hgg hS.ext) hv) Try.func74 rfl Try.nm74 rfl rfl ?_
  rintro _ _ w11 ⟨r12, rfl, rfl, hv⟩ hGw11 hS
  change St _ _ _ _ [] at hS
  refine WL.assign rfl rfl ?_
  refine WL.done ?_
  refine W.cond2 rfl (fun c13 => ?_) (fun c13 => ?_)
  · have hv := hv.1 (c13)
    refine W.seq ?_
    obtain ⟨o25, hv⟩ := hv
    obtain ⟨r30, o32, hv⟩ := hv
    obtain ⟨o34, hv⟩ := hv
    obtain ⟨r36, o38, hv⟩ := hv
    obtain ⟨o40, hv⟩ := hv
    have hS0 := hS
    refine W.drawX 21 (fun _ => false) (fun _ => none) [⟨[], [0], true⟩, ⟨[0], [], true⟩, ⟨[1], [], true⟩, ⟨[2], [], false⟩, ⟨[], [0], true⟩, ⟨[], [0], true⟩, ⟨[5], [], true⟩, ⟨[6], [], true⟩, ⟨[7], [], false⟩, ⟨[], [1], true⟩, ⟨[8, 9], [], true⟩, ⟨[10], [], false⟩, ⟨[], [0], true⟩, ⟨[], [2], true⟩, ⟨[12, 13], [], false⟩, ⟨[11, 14], [], true⟩, ⟨[4, 15], [], false⟩, ⟨[3, 16], [], true⟩, ⟨[17], [], false⟩, ⟨[18], [], true⟩, ⟨[], [], true⟩] [[(0, .pointer (some ag))], [], [], [], [(0, .pointer (some ag))], [(0, .pointer (some ag))], [], [], [], [(1, .int .i64 x)], [], [], [(0, .pointer (some ag))], [(2, .int .i64 n)], [], [], [], [], [], [], []] (fun iQ => [fun v _ => v = .pointer (some ag), fun v _ => v = .pointer (some ag), fun v _ => v = .pointer (some (ag.add 4)), fun v _ => v = .slice Ag_exp Fg.exp.length kg_exp, fun v _ => v = .pointer (some ag), fun v _ => v = .pointer (some ag), fun v _ => v = .pointer (some ag), fun v _ => v = .pointer (some (ag.add 5)), fun v _ => v = .slice Ag_log Fg.log.length kg_log, fun v _ => v = .int .i64 x, fun v _ => v = .pointer (some ((adOf Ag_log).add x.toNat)), fun v _ => v = .int .i64 (gi Fg.log x), fun v _ => v = .pointer (some ag), fun v _ => v = .int .i64 n, fun v _ => v = .int .i64 r30, fun v _ => v = .int .i64 ((gi Fg.log x) * r30), fun v _ => v = .int .i64 r36, fun v _ => v = .pointer (some ((adOf Ag_exp).add r36.toNat)), fun v _ => v = .int .i64 (gi Fg.exp r36), fun v _ => v = .int .i64 (gi Fg.exp r36), fun v _ => v = .int .i64 (0 : Int)].getD iQ (fun _ _ => True)) Try.mixed (by kernel_rfl) ?_ (by kernel_rfl) ?_ ?_
    · refine Vs_monoT _ ?_
      intro VQ hVQ vQ wQ1 wQ2 hQ1 hQ2
      simp only [List.mem_cons, List.not_mem_nil, or_false] at hVQ
      rcases hVQ with rfl | rfl | rfl | rfl | rfl | rfl | rfl | rfl | rfl | rfl | rfl | rfl | rfl | rfl | rfl | rfl | rfl | rfl | rfl | rfl | rfl
      · exact hQ1
      · exact hQ1
      · exact hQ1
      · exact hQ1
      · exact hQ1
      · exact hQ1
      · exact hQ1
      · exact hQ1
      · exact hQ1
      · exact hQ1
      · exact hQ1
      · exact hQ1
      · exact hQ1
      · exact hQ1
      · exact hQ1
      · exact hQ1
      · exact hQ1
      · exact hQ1
      · exact hQ1
      · exact hQ1
      · exact hQ1
    · refine ⟨⟨rfl, ⟨rfl, trivial⟩, ?_⟩, ⟨rfl, trivial, ?_⟩, ⟨rfl, trivial, ?_⟩, ⟨rfl, trivial, ?_⟩, ⟨rfl, ⟨rfl, trivial⟩, ?_⟩, ⟨rfl, ⟨rfl, trivial⟩, ?_⟩, ⟨rfl, trivial, ?_⟩, ⟨rfl, trivial, ?_⟩, ⟨rfl, trivial, ?_⟩, ⟨rfl, ⟨rfl, trivial⟩, ?_⟩, ⟨rfl, trivial, ?_⟩, ⟨rfl, trivial, ?_⟩, ⟨rfl, ⟨rfl, trivial⟩, ?_⟩, ⟨rfl, ⟨rfl, trivial⟩, ?_⟩, ⟨rfl, trivial, ?_⟩, ⟨rfl, trivial, ?_⟩, ⟨rfl, trivial, ?_⟩, ⟨rfl, trivial, ?_⟩, ⟨rfl, trivial, ?_⟩, ⟨rfl, trivial, ?_⟩, ⟨rfl, trivial, ?_⟩, trivial⟩
      · intro w14 hE
        intro RR
        refine WL.move rfl rfl ?_
        exact WL.done ⟨_, rfl, rfl, rfl, (fun h => absurd h (by decide)), (fun j h => by cases h)⟩
      · intro w15 hE
        rintro _ rfl
        intro RR
        refine WL.nilCheck rfl rfl ?_
        exact WL.done ⟨_, rfl, rfl, rfl, (fun h => absurd h (by decide)), (fun j h => by cases h)⟩
      · intro w16 hE
        rintro _ rfl
        intro RR
        refine WL.fieldA (off := 4) Try.fla73_2 rfl rfl ?_
        exact WL.done ⟨_, rfl, rfl, rfl, (fun h => absurd h (by decide)), (fun j h => by cases h)⟩
      · intro w17 hE
        have hE := hE rfl
        have hS := hS.grow hE
        rintro _ rfl
        intro RR
        refine WL.load Try.underlying22 rfl rfl (Rd.at_ (hS.ro hg_c) (j := 4) rfl) rfl ?_
        exact WL.done ⟨_, rfl, ext_refl _, rfl, (fun h => absurd h (by decide)), (fun j h => by cases h)⟩
      · intro w18 hE
        intro RR
        refine WL.move rfl rfl ?_
        exact WL.done ⟨_, rfl, rfl, rfl, (fun h => absurd h (by decide)), (fun j h => by cases h)⟩
      · intro w19 hE
        intro RR
        refine WL.move rfl rfl ?_
        exact WL.done ⟨_, rfl, rfl, rfl, (fun h => absurd h (by decide)), (fun j h => by cases h)⟩
      · intro w20 hE
        rintro _ rfl
        intro RR
        refine WL.nilCheck rfl rfl ?_
        exact WL.done ⟨_, rfl, rfl, rfl, (fun h => absurd h (by decide)), (fun j h => by cases h)⟩
      · intro w21 hE
        rintro _ rfl
        intro RR
        refine WL.fieldA (off := 5) Try.fla73_3 rfl rfl ?_
        exact WL.done ⟨_, rfl, rfl, rfl, (fun h => absurd h (by decide)), (fun j h => by cases h)⟩
      · intro w22 hE
        have hE := hE rfl
        have hS := hS.grow hE
        rintro _ rfl
        intro RR
        refine WL.load Try.underlying22 rfl rfl (Rd.at_ (hS.ro hg_c) (j := 5) rfl) rfl ?_
        exact WL.done ⟨_, rfl, ext_refl _, rfl, (fun h => absurd h (by decide)), (fun j h => by cases h)⟩
      · intro w23 hE
        intro RR
        refine WL.move rfl rfl ?_
        exact WL.done ⟨_, rfl, rfl, rfl, (fun h => absurd h (by decide)), (fun j h => by cases h)⟩
      · intro w24 hE
        rintro _ rfl
        rintro _ rfl
        intro RR
        refine SL.index Try.underlying22 Try.el3 (hS.ro hg_log) rfl rfl o25 rfl ?_
        exact WL.done ⟨_, rfl, rfl, rfl, (fun h => absurd h (by decide)), (fun j h => by cases h)⟩
      · intro w26 hE
        have hE := hE rfl
        have hS := hS.grow hE
        rintro _ rfl
        intro RR
        refine WL.load Try.underlying3 rfl rfl (Rd.gi (hS.ro hg_log) o25) rfl ?_
        exact WL.done ⟨_, rfl, ext_refl _, rfl, (fun h => absurd h (by decide)), (fun j h => by cases h)⟩
      · intro w27 hE
        intro RR
        refine WL.move rfl rfl ?_
        exact WL.done ⟨_, rfl, rfl, rfl, (fun h => absurd h (by decide)), (fun j h => by cases h)⟩
      · intro w28 hE
        intro RR
        refine WL.move rfl rfl ?_
        exact WL.done ⟨_, rfl, rfl, rfl, (fun h => absurd h (by decide)), (fun j h => by cases h)⟩
      · intro w29 hE
        have hE := hE rfl
        have hS := hS.grow hE
        rintro _ rfl
        rintro _ rfl
        intro RR
        refine WL.call Try.func75 rfl Try.nm75 rfl rfl (calls_un (ok_exponent (GFR.ext hgg hS.ext) o32)) ?_
        rintro _ w31 ⟨_, hGw31, hRww31, hNww31, r30q, rfl, rfl, he⟩
        subst he
        exact WL.done ⟨_, rfl, hGw31, rfl, (fun h => absurd h (by decide)), (fun j h => by cases h)⟩
      · intro w33 hE
        rintro _ rfl
        rintro _ rfl
        intro RR
        refine WL.mul (r := ((gi Fg.log x) * r30)) rfl rfl (wr o34) rfl ?_
        exact WL.done ⟨_, rfl, rfl, rfl, (fun h => absurd h (by decide)), (fun j h => by cases h)⟩
      · intro w35 hE
        have hE := hE rfl
        have hS := hS.grow hE
        rintro _ rfl
        rintro _ rfl
        intro RR
        refine WL.call Try.func75 rfl Try.nm75 rfl rfl (calls_un (ok_exponent (GFR.ext hgg hS.ext) o38)) ?_
        rintro _ w37 ⟨_, hGw37, hRww37, hNww37, r36q, rfl, rfl, he⟩
        subst he
        exact WL.done ⟨_, rfl, hGw37, rfl, (fun h => absurd h (by decide)), (fun j h => by cases h)⟩
      · intro w39 hE
        rintro _ rfl
        rintro _ rfl
        intro RR
        refine SL.index Try.underlying22 Try.el3 (hS.ro hg_exp) rfl rfl o40 rfl ?_
        exact WL.done ⟨_, rfl, rfl, rfl, (fun h => absurd h (by decide)), (fun j h => by cases h)⟩
      · intro w41 hE
        have hE := hE rfl
        have hS := hS.grow hE
        rintro _ rfl
        intro RR
        refine WL.load Try.underlying3 rfl rfl (Rd.gi (hS.ro hg_exp) o40) rfl ?_
        exact WL.done ⟨_, rfl, ext_refl _, rfl, (fun h => absurd h (by decide)), (fun j h => by cases h)⟩
      · intro w42 hE
        rintro _ rfl
        intro RR
        refine WL.assign rfl rfl ?_
        exact WL.done ⟨_, rfl, rfl, rfl, (fun h => absurd h (by decide)), (fun j h => by cases h)⟩
      · intro w43 hE
        intro RR
        refine WL.assign rfl rfl ?_
        exact WL.done ⟨_, rfl, rfl, rfl, (fun h => absurd h (by decide)), (fun j h => by cases h)⟩
    · intro vals w44 hT hVs hAp hCp
      have hS := hS.grow hT
      have hv0 : vals 0 = _ := hVs 0 (by decide)
      have hv1 : vals 1 = _ := hVs 1 (by decide)
      have hv2 : vals 2 = _ := hVs 2 (by decide)
      have hv3 : vals 3 = _ := hVs 3 (by decide)
      have hv4 : vals 4 = _ := hVs 4 (by decide)
      have hv5 : vals 5 = _ := hVs 5 (by decide)
      have hv6 : vals 6 = _ := hVs 6 (by decide)
      have hv7 : vals 7 = _ := hVs 7 (by decide)
      have hv8 : vals 8 = _ := hVs 8 (by decide)
      have hv9 : vals 9 = _ := hVs 9 (by decide)
      have hv10 : vals 10 = _ := hVs 10 (by decide)
      have hv11 : vals 11 = _ := hVs 11 (by decide)
      have hv12 : vals 12 = _ := hVs 12 (by decide)
      have hv13 : vals 13 = _ := hVs 13 (by decide)
      have hv14 : vals 14 = _ := hVs 14 (by decide)
      have hv15 : vals 15 = _ := hVs 15 (by decide)
      have hv16 : vals 16 = _ := hVs 16 (by decide)
      have hv17 : vals 17 = _ := hVs 17 (by decide)
      have hv18 : vals 18 = _ := hVs 18 (by decide)
      have hv19 : vals 19 = _ := hVs 19 (by decide)
      have hv20 : vals 20 = _ := hVs 20 (by decide)
      rw [show (List.filterMap (fun i => Option.map (fun t => (t, vals i)) (dstAt _ i)) (List.range _)) = [(12, .pointer (some ag)), (13, .pointer (some ag)), (14, .pointer (some (ag.add 4))), (15, .slice Ag_exp Fg.exp.length kg_exp), (16, .pointer (some ag)), (17, .pointer (some ag)), (18, .pointer (some ag)), (19, .pointer (some (ag.add 5))), (20, .slice Ag_log Fg.log.length kg_log), (21, .int .i64 x), (22, .pointer (some ((adOf Ag_log).add x.toNat))), (23, .int .i64 (gi Fg.log x)), (24, .pointer (some ag)), (25, .int .i64 n), (26, .int .i64 r30), (27, .int .i64 ((gi Fg.log x) * r30)), (28, .int .i64 r36), (29, .pointer (some ((adOf Ag_exp).add r36.toNat))), (30, .int .i64 (gi Fg.exp r36)), (6, .int .i64 (gi Fg.exp r36)), (7, .int .i64 (0 : Int))] from by
        show [(12, vals 0), (13, vals 1), (14, vals 2), (15, vals 3), (16, vals 4), (17, vals 5), (18, vals 6), (19, vals 7), (20, vals 8), (21, vals 9), (22, vals 10), (23, vals 11), (24, vals 12), (25, vals 13), (26, vals 14), (27, vals 15), (28, vals 16), (29, vals 17), (30, vals 18), (6, vals 19), (7, vals 20)] = _
        rw [hv0, hv1, hv2, hv3, hv4, hv5, hv6, hv7, hv8, hv9, hv10, hv11, hv12, hv13, hv14, hv15, hv16, hv17, hv18, hv19, hv20]]
      refine WA.done (by decide +kernel) ?_
      refine W.ret ?_
      refine ⟨_, rfl, Fin.nil ?_⟩
      exact ⟨_, hS.ext, (hS.pick [] rfl).rows, News.of (hS.pick [] rfl).rows rfl, ⟨(gi Fg.exp r36), (0 : Int), rfl, rfl, hv⟩⟩
  · have hv := hv.2 (c13)
    refine W.seq ?_
    refine W.region ?_
    refine WL.move rfl rfl ?_
    refine WL.lssD rfl rfl rfl ?_
    refine WL.assign rfl rfl ?_
    refine WL.done ?_
    refine W.cond2 rfl (fun c45 => ?_) (fun c45 => ?_)
    · have hv := hv.1 (of_decide_eq_true c45)
      refine W.seq ?_
      refine W.region ?_
      refine WL.assign rfl rfl ?_
      refine WL.assign rfl rfl ?_
      refine WL.done ?_
      refine W.ret ?_
      refine ⟨_, rfl, Fin.nil ?_⟩
      exact ⟨_, hS.ext, (hS.pick [] rfl).rows, News.of (hS.pick [] rfl).rows rfl, ⟨(0 : Int), (7 : Int), rfl, rfl, hv⟩⟩
    · have hv := hv.2 (of_decide_eq_false c45)
      refine W.seq ?_
      refine W.region ?_
      refine WL.move rfl rfl ?_
      refine WL.eqlD rfl rfl rfl ?_
      refine WL.assign rfl rfl ?_
      refine WL.done ?_
      refine W.cond2 rfl (fun c46 => ?_) (fun c46 => ?_)
      · have hv := hv.1 (of_decide_eq_true c46)
        refine W.seq ?_
        refine W.region ?_
        refine WL.assign rfl rfl ?_
        refine WL.assign rfl rfl ?_
        refine WL.done ?_
        refine W.ret ?_
        refine ⟨_, rfl, Fin.nil ?_⟩
        exact ⟨_, hS.ext, (hS.pick [] rfl).rows, News.of (hS.pick [] rfl).rows rfl, ⟨(1 : Int), (0 : Int), rfl, rfl, hv⟩⟩
      · have hv := hv.2 (of_decide_eq_false c46)
        refine W.skip ?_
        refine W.seq ?_
        refine W.region ?_
        refine WL.assign rfl rfl ?_
        refine WL.assign rfl rfl ?_
        refine WL.done ?_
        refine W.ret ?_
        refine ⟨_, rfl, Fin.nil ?_⟩
        exact ⟨_, hS.ext, (hS.pick [] rfl).rows, News.of (hS.pick [] rfl).rows rfl, ⟨(0 : Int), (0 : Int), rfl, rfl, hv⟩⟩

def V_MulOrder (Fg : GFv) (x : Int) (Q : Int × Int → Prop) : Prop :=
  V_isUnit Fg x (fun r12 => (((!r12) = true) → (Q ((0 : Int), (7 : Int)))) ∧ ((!r12) = false → ((I64 (Fg.q - (1 : Int))) ∧ ((I64 (Fg.q - (1 : Int))) ∧ ((0 ≤ x ∧ x < (Fg.log.length : Nat)) ∧ (∃ (r35 : Int), V_gcd (Fg.q - (1 : Int)) (gi Fg.log x) (fun q => q = r35) ∧ ((r35 ≠ 0 ∧ I64 ((Fg.q - (1 : Int)).tdiv r35)) ∧ (Q (((Fg.q - (1 : Int)).tdiv r35), (0 : Int))))))))))
theorem ok_MulOrder {w : World} {Q : Int × Int → Prop} {Fg : GFv} {x : Int} {ag : Addr} {Bg : Nat} (hgg : GFR Bg w ag Fg) (hv : V_MulOrder Fg x Q) :
    Calls Try.prog 54 #[.pointer (some ag), .int .i64 x] w fun e w' => ∃ v Qr, e = .returned v ∧ w.grownBy w' none ∧ Rows w.heap.size none w' Qr ∧ News w.heap.size Qr ∧ ∃ (r0 : Int) (r1 : Int), v = .tuple #[.int .i64 r0, .int .i64 r1] ∧ Qr = [] ∧ Q (r0, r1) := by
  have hgg_ := hgg
  obtain ⟨Ag_mod, kg_mod, Ag_exp, kg_exp, Ag_log, kg_log, Ag_above, kg_above, hg_c, hg_mod, hg_exp, hg_log, hg_above⟩ := hgg_
  refine calls_swap ?_
  refine calls_of_W (vs := [.pointer (some ag), .int .i64 x]) [4, 5] Try.func54 rfl rfl rfl rfl ?_
  have hS := St.start w
  unfold V_MulOrder at hv
  refine W.seq ?_
  refine W.region ?_
  refine WL.assign rfl rfl ?_
  refine WL.assign rfl rfl ?_
  refine WL.done ?_
  refine W.seq ?_
  refine W.seq ?_
  refine W.region ?_
  refine WL.move rfl rfl ?_
  refine WL.move rfl rfl ?_
  refine SL.call hS (ok_isUnit (GFR.ext hgg hS.ext) hv) Try.func74 rfl Try.nm74 rfl rfl ?_
  rintro _ _ w11 ⟨r12, rfl, rfl, hv⟩ hGw11 hS
  change St _ _ _ _ [] at hS
  refine WL.not rfl rfl ?_
  refine WL.done ?_
  refine W.cond2 rfl (fun c13 => ?_) (fun c13 => ?_)
  · have hv := hv.1 (c13)
    refine W.seq ?_
    refine W.region ?_
    refine WL.assign rfl rfl ?_
    refine WL.assign rfl rfl ?_
    refine WL.done ?_
    refine W.ret ?_
    refine ⟨_, rfl, Fin.nil ?_⟩
    exact ⟨_, hS.ext, (hS.pick [] rfl).rows, News.of (hS.pick [] rfl).rows rfl, ⟨(0 : Int), (7 : Int), rfl, rfl, hv⟩⟩
  · have hv := hv.2 (c13)
    refine W.skip ?_
    refine W.seq ?_
    obtain ⟨o19, hv⟩ := hv
    obtain ⟨o25, hv⟩ := hv
    obtain ⟨o32, hv⟩ := hv
    obtain ⟨r35, o37, hv⟩ := hv
    obtain ⟨o39, hv⟩ := hv
    have hS0 := hS
    refine W.drawX 21 (fun _ => false) (fun _ => none) [⟨[], [0], true⟩, ⟨[0], [], true⟩, ⟨[1], [], true⟩, ⟨[2], [], false⟩, ⟨[3], [], true⟩, ⟨[], [0], true⟩, ⟨[5], [], true⟩, ⟨[6], [], true⟩, ⟨[7], [], false⟩, ⟨[8], [], true⟩, ⟨[], [0], true⟩, ⟨[10], [], true⟩, ⟨[11], [], true⟩, ⟨[12], [], false⟩, ⟨[], [1], true⟩, ⟨[13, 14], [], true⟩, ⟨[15], [], false⟩, ⟨[9, 16], [], false⟩, ⟨[4, 17], [], true⟩, ⟨[18], [], true⟩, ⟨[], [], true⟩] [[(0, .pointer (some ag))], [], [], [], [], [(0, .pointer (some ag))], [], [], [], [], [(0, .pointer (some ag))], [], [], [], [(1, .int .i64 x)], [], [], [], [], [], []] (fun iQ => [fun v _ => v = .pointer (some ag), fun v _ => v = .pointer (some ag), fun v _ => v = .pointer (some (ag.add 3)), fun v _ => v = .int .i64 Fg.q, fun v _ => v = .int .i64 (Fg.q - (1 : Int)), fun v _ => v = .pointer (some ag), fun v _ => v = .pointer (some ag), fun v _ => v = .pointer (some (ag.add 3)), fun v _ => v = .int .i64 Fg.q, fun v _ => v = .int .i64 (Fg.q - (1 : Int)), fun v _ => v = .pointer (some ag), fun v _ => v = .pointer (some ag), fun v _ => v = .pointer (some (ag.add 5)), fun v _ => v = .slice Ag_log Fg.log.length kg_log, fun v _ => v = .int .i64 x, fun v _ => v = .pointer (some ((adOf Ag_log).add x.toNat)), fun v _ => v = .int .i64 (gi Fg.log x), fun v _ => v = .int .i64 r35, fun v _ => v = .int .i64 ((Fg.q - (1 : Int)).tdiv r35), fun v _ => v = .int .i64 ((Fg.q - (1 : Int)).tdiv r35), fun v _ => v = .int .i64 (0 : Int)].getD iQ (fun _ _ => True)) Try.mixed (by kernel_rfl) ?_ (by kernel_rfl) ?_ ?_
    · refine Vs_monoT _ ?_
      intro VQ hVQ vQ wQ1 wQ2 hQ1 hQ2
      simp only [List.mem_cons, List.not_mem_nil, or_false] at hVQ
      rcases hVQ with rfl | rfl | rfl | rfl | rfl | rfl | rfl | rfl | rfl | rfl | rfl | rfl | rfl | rfl | rfl | rfl | rfl | rfl | rfl | rfl | rfl
      · exact hQ1
      · exact hQ1
      · exact hQ1
      · exact hQ1
      · exact hQ1
      · exact hQ1
      · exact hQ1
      · exact hQ1
      · exact hQ1
      · exact hQ1
      · exact hQ1
      · exact hQ1
      · exact hQ1
      · exact hQ1
      · exact hQ1
      · exact hQ1
      · exact hQ1
      · exact hQ1
      · exact hQ1
      · exact hQ1
      · exact hQ1
    · refine ⟨⟨rfl, ⟨rfl, trivial⟩, ?_⟩, ⟨rfl, trivial, ?_⟩, ⟨rfl, trivial, ?_⟩, ⟨rfl, trivial, ?_⟩, ⟨rfl, trivial, ?_⟩, ⟨rfl, ⟨rfl, trivial⟩, ?_⟩, ⟨rfl, trivial, ?_⟩, ⟨rfl, trivial, ?_⟩, ⟨rfl, trivial, ?_⟩, ⟨rfl, trivial, ?_⟩, ⟨rfl, ⟨rfl, trivial⟩, ?_⟩, ⟨rfl, trivial, ?_⟩, ⟨rfl, trivial, ?_⟩, ⟨rfl, trivial, ?_⟩, ⟨rfl, ⟨rfl, trivial⟩, ?_⟩, ⟨rfl, trivial, ?_⟩, ⟨rfl, trivial, ?_⟩, ⟨rfl, trivial, ?_⟩, ⟨rfl, trivial, ?_⟩, ⟨rfl, trivial, ?_⟩, ⟨rfl, trivial, ?_⟩, trivial⟩
      · intro w14 hE
        intro RR
        refine WL.move rfl rfl ?_
        exact WL.done ⟨_, rfl, rfl, rfl, (fun h => absurd h (by decide)), (fun j h => by cases h)⟩
      · intro w15 hE
        rintro _ rfl
        intro RR
        refine WL.nilCheck rfl rfl ?_
        exact WL.done ⟨_, rfl, rfl, rfl, (fun h => absurd h (by decide)), (fun j h => by cases h)⟩
      · intro w16 hE
        rintro _ rfl
        intro RR
        refine WL.fieldA (off := 3) Try.fla73_1 rfl rfl ?_
        exact WL.done ⟨_, rfl, rfl, rfl, (fun h => absurd h (by decide)), (fun j h => by cases h)⟩
      · intro w17 hE
        have hE := hE rfl
        have hS := hS.grow hE
        rintro _ rfl
        intro RR
        refine WL.load Try.underlying3 rfl rfl (Rd.at_ (hS.ro hg_c) (j := 3) rfl) rfl ?_
        exact WL.done ⟨_, rfl, ext_refl _, rfl, (fun h => absurd h (by decide)), (fun j h => by cases h)⟩
      · intro w18 hE
        rintro _ rfl
        intro RR
        refine WL.sub (r := (Fg.q - (1 : Int))) rfl rfl (wr o19) rfl ?_
        exact WL.done ⟨_, rfl, rfl, rfl, (fun h => absurd h (by decide)), (fun j h => by cases h)⟩
      · intro w20 hE
        intro RR
        refine WL.move rfl rfl ?_
        exact WL.done ⟨_, rfl, rfl, rfl, (fun h => absurd h (by decide)), (fun j h => by cases h)⟩
      · intro w21 hE
        rintro _ rfl
        intro RR
        refine WL.nilCheck rfl rfl ?_
        exact WL.done ⟨_, rfl, rfl, rfl, (fun h => absurd h (by decide)), (fun j h => by cases h)⟩
      · intro w22 hE
        rintro _ rfl
        intro RR
        refine WL.fieldA (off := 3) Try.fla73_1 rfl rfl ?_
        exact WL.done ⟨_, rfl, rfl, rfl, (fun h => absurd h (by decide)), (fun j h => by cases h)⟩
      · intro w23 hE
        have hE := hE rfl
        have hS := hS.grow hE
        rintro _ rfl
        intro RR
        refine WL.load Try.underlying3 rfl rfl (Rd.at_ (hS.ro hg_c) (j := 3) rfl) rfl ?_
        exact WL.done ⟨_, rfl, ext_refl _, rfl, (fun h => absurd h (by decide)), (fun j h => by cases h)⟩
      · intro w24 hE
        rintro _ rfl
        intro RR
        refine WL.sub (r := (Fg.q - (1 : Int))) rfl rfl (wr o25) rfl ?_
        exact WL.done ⟨_, rfl, rfl, rfl, (fun h => absurd h (by decide)), (fun j h => by cases h)⟩
      · intro w26 hE
        intro RR
        refine WL.move rfl rfl ?_
        exact WL.done ⟨_, rfl, rfl, rfl, (fun h => absurd h (by decide)), (fun j h => by cases h)⟩
      · intro w27 hE
        rintro _ rfl
        intro RR
        refine WL.nilCheck rfl rfl ?_
        exact WL.done ⟨_, rfl, rfl, rfl, (fun h => absurd h (by decide)), (fun j h => by cases h)⟩
      · intro w28 hE
        rintro _ rfl
        intro RR
        refine WL.fieldA (off := 5) Try.fla73_3 rfl rfl ?_
        exact WL.done ⟨_, rfl, rfl, rfl, (fun h => absurd h (by decide)), (fun j h => by cases h)⟩
      · intro w29 hE
        have hE := hE rfl
        have hS := hS.grow hE
        rintro _ rfl
        intro RR
        refine WL.load Try.underlying22 rfl rfl (Rd.at_ (hS.ro hg_c) (j := 5) rfl) rfl ?_
        exact WL.done ⟨_, rfl, ext_refl _, rfl, (fun h => absurd h (by decide)), (fun j h => by cases h)⟩
      · intro w30 hE
        intro RR
        refine WL.move rfl rfl ?_
        exact WL.done ⟨_, rfl, rfl, rfl, (fun h => absurd h (by decide)), (fun j h => by cases h)⟩
      · intro w31 hE
        rintro _ rfl
        rintro _ rfl
        intro RR
        refine SL.index Try.underlying22 Try.el3 (hS.ro hg_log) rfl rfl o32 rfl ?_
        exact WL.done ⟨_, rfl, rfl, rfl, (fun h => absurd h (by decide)), (fun j h => by cases h)⟩
      · intro w33 hE
        have hE := hE rfl
        have hS := hS.grow hE
        rintro _ rfl
        intro RR
        refine WL.load Try.underlying3 rfl rfl (Rd.gi (hS.ro hg_log) o32) rfl ?_
        exact WL.done ⟨_, rfl, ext_refl _, rfl, (fun h => absurd h (by decide)), (fun j h => by cases h)⟩
      · intro w34 hE
        have hE := hE rfl
        have hS := hS.grow hE
        rintro _ rfl
        rintro _ rfl
        intro RR
        refine WL.call Try.func78 rfl Try.nm78 rfl rfl (calls_un (ok_gcd  o37)) ?_
        rintro _ w36 ⟨_, hGw36, hRww36, hNww36, r35q, rfl, rfl, he⟩
        subst he
        exact WL.done ⟨_, rfl, hGw36, rfl, (fun h => absurd h (by decide)), (fun j h => by cases h)⟩
      · intro w38 hE
        rintro _ rfl
        rintro _ rfl
        intro RR
        refine WL.quo (r := ((Fg.q - (1 : Int)).tdiv r35)) rfl rfl o39.1 (wr o39.2) rfl ?_
        exact WL.done ⟨_, rfl, rfl, rfl, (fun h => absurd h (by decide)), (fun j h => by cases h)⟩
      · intro w40 hE
        rintro _ rfl
        intro RR
        refine WL.assign rfl rfl ?_
        exact WL.done ⟨_, rfl, rfl, rfl, (fun h => absurd h (by decide)), (fun j h => by cases h)⟩
      · intro w41 hE
        intro RR
        refine WL.assign rfl rfl ?_
        exact WL.done ⟨_, rfl, rfl, rfl, (fun h => absurd h (by decide)), (fun j h => by cases h)⟩
    · intro vals w42 hT hVs hAp hCp
      have hS := hS.grow hT
      have hv0 : vals 0 = _ := hVs 0 (by decide)
      have hv1 : vals 1 = _ := hVs 1 (by decide)
      have hv2 : vals 2 = _ := hVs 2 (by decide)
      have hv3 : vals 3 = _ := hVs 3 (by decide)
      have hv4 : vals 4 = _ := hVs 4 (by decide)
      have hv5 : vals 5 = _ := hVs 5 (by decide)
      have hv6 : vals 6 = _ := hVs 6 (by decide)
      have hv7 : vals 7 = _ := hVs 7 (by decide)
      have hv8 : vals 8 = _ := hVs 8 (by decide)
      have hv9 : vals 9 = _ := hVs 9 (by decide)
      have hv10 : vals 10 = _ := hVs 10 (by decide)
      have hv11 : vals 11 = _ := hVs 11 (by decide)
      have hv12 : vals 12 = _ := hVs 12 (by decide)
      have hv13 : vals 13 = _ := hVs 13 (by decide)
      have hv14 : vals 14 = _ := hVs 14 (by decide)
      have hv15 : vals 15 = _ := hVs 15 (by decide)
      have hv16 : vals 16 = _ := hVs 16 (by decide)
      have hv17 : vals 17 = _ := hVs 17 (by decide)
      have hv18 : vals 18 = _ := hVs 18 (by decide)
      have hv19 : vals 19 = _ := hVs 19 (by decide)
      have hv20 : vals 20 = _ := hVs 20 (by decide)
      rw [show (List.filterMap (fun i => Option.map (fun t => (t, vals i)) (dstAt _ i)) (List.range _)) = [(10, .pointer (some ag)), (11, .pointer (some ag)), (12, .pointer (some (ag.add 3))), (13, .int .i64 Fg.q), (14, .int .i64 (Fg.q - (1 : Int))), (15, .pointer (some ag)), (16, .pointer (some ag)), (17, .pointer (some (ag.add 3))), (18, .int .i64 Fg.q), (19, .int .i64 (Fg.q - (1 : Int))), (20, .pointer (some ag)), (21, .pointer (some ag)), (22, .pointer (some (ag.add 5))), (23, .slice Ag_log Fg.log.length kg_log), (24, .int .i64 x), (25, .pointer (some ((adOf Ag_log).add x.toNat))), (26, .int .i64 (gi Fg.log x)), (27, .int .i64 r35), (28, .int .i64 ((Fg.q - (1 : Int)).tdiv r35)), (4, .int .i64 ((Fg.q - (1 : Int)).tdiv r35)), (5, .int .i64 (0 : Int))] from by
        show [(10, vals 0), (11, vals 1), (12, vals 2), (13, vals 3), (14, vals 4), (15, vals 5), (16, vals 6), (17, vals 7), (18, vals 8), (19, vals 9), (20, vals 10), (21, vals 11), (22, vals 12), (23, vals 13), (24, vals 14), (25, vals 15), (26, vals 16), (27, vals 17), (28, vals 18), (4, vals 19), (5, vals 20)] = _
        rw [hv0, hv1, hv2, hv3, hv4, hv5, hv6, hv7, hv8, hv9, hv10, hv11, hv12, hv13, hv14, hv15, hv16, hv17, hv18, hv19, hv20]]
      refine WA.done (by decide +kernel) ?_
      refine W.ret ?_
      refine ⟨_, rfl, Fin.nil ?_⟩
      exact ⟨_, hS.ext, (hS.pick [] rfl).rows, News.of (hS.pick [] rfl).rows rfl, ⟨((Fg.q - (1 : Int)).tdiv r35), (0 : Int), rfl, rfl, hv⟩⟩

def V_Sum (Fg : GFv) (l : List Int) (Q : Int → Prop) : Prop :=
  ∃ (I17 : Int → Int → Prop) (μ18 : Int → Int → Nat), I17 (0 : Int) (0 : Int) ∧ ∀ (z15 : Int) (z16 : Int), (I17 z15 z16 → (((z16 < ((l.length : Nat) : Int)) → ((0 ≤ z16 ∧ z16 < (l.length : Nat)) ∧ (V_Add Fg z15 (gi l z16) (fun r23 => (I64 (z16 + (1 : Int))) ∧ (I17 r23 (z16 + (1 : Int)) ∧ μ18 r23 (z16 + (1 : Int)) < μ18 z15 z16))))) ∧ (¬ (z16 < ((l.length : Nat) : Int)) → Q z15)))
theorem ok_Sum {w : World} {Q : Int → Prop} {Fg : GFv} {l : List Int} {ag : Addr} {Bg : Nat} (hgg : GFR Bg w ag Fg) {Bl : Nat} {Al : Option Addr} {nl kl : Nat} (hl : Rd Bl w 1 Al nl kl (is l)) (hv : V_Sum Fg l Q) :
    Calls Try.prog 46 #[.pointer (some ag), .slice Al nl kl] w fun e w' => ∃ v Qr, e = .returned v ∧ w.grownBy w' none ∧ Rows w.heap.size none w' Qr ∧ News w.heap.size Qr ∧ ∃ (r0 : Int), v = .int .i64 r0 ∧ Qr = [] ∧ Q r0 := by
  have hgg_ := hgg
  obtain ⟨Ag_mod, kg_mod, Ag_exp, kg_exp, Ag_log, kg_log, Ag_above, kg_above, hg_c, hg_mod, hg_exp, hg_log, hg_above⟩ := hgg_
  have hnl := hl.ilen
  subst hnl
  refine calls_swap ?_
  refine calls_of_W (vs := [.pointer (some ag), .slice Al l.length kl]) [4] Try.func46 rfl rfl rfl rfl ?_
  have hS := St.start w
  unfold V_Sum at hv
  refine W.seq ?_
  refine W.region ?_
  refine WL.assign rfl rfl ?_
  refine WL.done ?_
  refine W.seq ?_
  refine W.region ?_
  refine WL.assign rfl rfl ?_
  refine WL.done ?_
  refine W.seq ?_
  refine W.seq ?_
  refine W.region ?_
  refine WL.move rfl rfl ?_
  refine WL.len Try.underlying22 rfl rfl ?_
  refine WL.move rfl rfl ?_
  refine WL.done ?_
  refine W.block ?_
  obtain ⟨I17, μ18, hv, hk25⟩ := hv
  change St _ _ _ _ [] at hS
  refine W.loop (σ := Int × Int) (fun q w1 => match q with | (z15, z16) => I17 z15 z16 ∧ St TT w none w1 []) (fun q => match q with | (z15, z16) => [(0, .pointer (some ag)), (4, .int .i64 (0 : Int)), (5, .int .i64 z15), (8, .slice Al l.length kl), (9, .int .i64 ((l.length : Nat) : Int)), (10, .int .i64 z16)]) (fun q => match q with | (z15, z16) => μ18 z15 z16) ((0 : Int), (0 : Int)) ⟨hv, hS⟩ ⟨rfl, rfl, rfl, rfl, rfl, rfl, trivial⟩ ?_
  rintro ⟨z15, z16⟩ w19 ⟨hv, hS⟩
  have hv := hk25 z15 z16 hv
  refine W.seq ?_
  refine W.region ?_
  refine WL.lssD rfl rfl rfl ?_
  refine WL.done ?_
  refine W.seq ?_
  refine W.cond2 rfl (fun c20 => ?_) (fun c20 => ?_)
  · have hv := hv.1 (of_decide_eq_true c20)
    refine W.skip ?_
    refine W.seq ?_
    refine W.block ?_
    refine W.seq ?_
    refine W.region ?_
    obtain ⟨o21, hv⟩ := hv
    refine SL.index Try.underlying22 Try.el3 (hS.ro hl) rfl rfl o21 rfl ?_
    refine WL.load Try.underlying3 rfl rfl (Rd.gi (hS.ro hl) o21) rfl ?_
    refine WL.assign rfl rfl ?_
    refine WL.done ?_
    refine W.region ?_
    refine WL.move rfl rfl ?_
    refine WL.move rfl rfl ?_
    refine WL.move rfl rfl ?_
    refine SL.call hS (ok_Add (GFR.ext hgg hS.ext) hv) Try.func32 rfl Try.nm32 rfl rfl ?_
    rintro _ _ w22 ⟨r23, rfl, rfl, hv⟩ hGw22 hS
    change St _ _ _ _ [] at hS
    refine WL.assign rfl rfl ?_
    refine WL.done ?_
    refine W.region ?_
    obtain ⟨o24, hv⟩ := hv
    refine WL.add (r := (z16 + (1 : Int))) rfl rfl (wr o24) rfl ?_
    refine WL.move rfl rfl ?_
    refine WL.done ?_
    change St _ _ _ _ [] at hS
    exact ⟨(r23, (z16 + (1 : Int))), ⟨rfl, rfl, rfl, rfl, rfl, rfl, trivial⟩, hv.2, rfl, hv.1, hS⟩
  · have hv := hv.2 (of_decide_eq_false c20)
    refine W.exit ?_
    refine W.seq ?_
    refine W.region ?_
    refine WL.move rfl rfl ?_
    refine WL.assign rfl rfl ?_
    refine WL.done ?_
    refine W.ret ?_
    refine ⟨_, rfl, Fin.nil ?_⟩
    exact ⟨_, hS.ext, (hS.pick [] rfl).rows, News.of (hS.pick [] rfl).rows rfl, ⟨z15, rfl, rfl, hv⟩⟩

def V_Dot (Fg : GFv) (l : List Int) (o : List Int) (Q : Int → Prop) : Prop :=
  ∃ (I17 : Int → Int → Prop) (μ18 : Int → Int → Nat), I17 (0 : Int) (0 : Int) ∧ ∀ (z15 : Int) (z16 : Int), (I17 z15 z16 → (((z16 < (min ((l.length : Nat) : Int) ((o.length : Nat) : Int))) → ((0 ≤ z16 ∧ z16 < (l.length : Nat)) ∧ ((0 ≤ z16 ∧ z16 < (o.length : Nat)) ∧ (∃ (r35 : Int), V_Mul Fg (gi l z16) (gi o z16) (fun q => q = r35) ∧ (∃ (r39 : Int), V_Add Fg z15 r35 (fun q => q = r39) ∧ ((I64 (z16 + (1 : Int))) ∧ (I17 r39 (z16 + (1 : Int)) ∧ μ18 r39 (z16 + (1 : Int)) < μ18 z15 z16))))))) ∧ (¬ (z16 < (min ((l.length : Nat) : Int) ((o.length : Nat) : Int))) → Q z15)))
theorem ok_Dot {w : World} {Q : Int → Prop} {Fg : GFv} {l : List Int} {o : List Int} {ag : Addr} {Bg : Nat} (hgg : GFR Bg w ag Fg) {Bl : Nat} {Al : Option Addr} {nl kl : Nat} (hl : Rd Bl w 1 Al nl kl (is l)) {Bo : Nat} {Ao : Option Addr} {no ko : Nat} (ho : Rd Bo w 1 Ao no ko (is o)) (hv : V_Dot Fg l o Q) :
    Calls Try.prog 47 #[.pointer (some ag), .slice Al nl kl, .slice Ao no ko] w fun e w' => ∃ v Qr, e = .returned v ∧ w.grownBy w' none ∧ Rows w.heap.size none w' Qr ∧ News w.heap.size Qr ∧ ∃ (r0 : Int), v = .int .i64 r0 ∧ Qr = [] ∧ Q r0 := by
  have hgg_ := hgg
  obtain ⟨Ag_mod, kg_mod, Ag_exp, kg_exp, Ag_log, kg_log, Ag_above, kg_above, hg_c, hg_mod, hg_exp, hg_log, hg_above⟩ := hgg_
  have hnl := hl.ilen
  subst hnl
  have hno := ho.ilen
  subst hno
  refine calls_swap ?_
  refine calls_of_W (vs := [.pointer (some ag), .slice Al l.length kl, .slice Ao o.length ko]) [6] Try.func47 rfl rfl rfl rfl ?_
  have hS := St.start w
  unfold V_Dot at hv
  refine W.seq ?_
  refine W.region ?_
  refine WL.assign rfl rfl ?_
  refine WL.done ?_
  refine W.seq ?_
  refine W.region ?_
  refine WL.assign rfl rfl ?_
  refine WL.done ?_
  refine W.seq ?_
  refine W.seq ?_
  refine W.region ?_
  refine WL.move rfl rfl ?_
  refine WL.len Try.underlying22 rfl rfl ?_
  refine WL.move rfl rfl ?_
  refine WL.len Try.underlying22 rfl rfl ?_
  refine WL.min2 (r := (min ((l.length : Nat) : Int) ((o.length : Nat) : Int))) rfl rfl rfl rfl ?_
  refine WL.move rfl rfl ?_
  refine WL.done ?_
  refine W.block ?_
  obtain ⟨I17, μ18, hv, hk45⟩ := hv
  change St _ _ _ _ [] at hS
  refine W.loop (σ := Int × Int) (fun q w1 => match q with | (z15, z16) => I17 z15 z16 ∧ St TT w none w1 []) (fun q => match q with | (z15, z16) => [(0, .pointer (some ag)), (1, .slice Al l.length kl), (2, .slice Ao o.length ko), (6, .int .i64 (0 : Int)), (7, .int .i64 z15), (13, .int .i64 (min ((l.length : Nat) : Int) ((o.length : Nat) : Int))), (14, .int .i64 z16)]) (fun q => match q with | (z15, z16) => μ18 z15 z16) ((0 : Int), (0 : Int)) ⟨hv, hS⟩ ⟨rfl, rfl, rfl, rfl, rfl, rfl, rfl, trivial⟩ ?_
  rintro ⟨z15, z16⟩ w19 ⟨hv, hS⟩
  have hv := hk45 z15 z16 hv
  refine W.seq ?_
  refine W.region ?_
  refine WL.lssD rfl rfl rfl ?_
  refine WL.done ?_
  refine W.seq ?_
  refine W.cond2 rfl (fun c20 => ?_) (fun c20 => ?_)
  · have hv := hv.1 (of_decide_eq_true c20)
    refine W.skip ?_
    refine W.seq ?_
    refine W.block ?_
    refine W.seq ?_
    refine W.region ?_
    refine WL.move rfl rfl ?_
    refine WL.assign rfl rfl ?_
    refine WL.done ?_
    obtain ⟨o27, hv⟩ := hv
    obtain ⟨o32, hv⟩ := hv
    obtain ⟨r35, o37, hv⟩ := hv
    obtain ⟨r39, o41, hv⟩ := hv
    have hS0 := hS
    refine W.drawX 14 (fun _ => false) (fun _ => none) [⟨[], [0], true⟩, ⟨[], [7], true⟩, ⟨[], [0], true⟩, ⟨[], [1], true⟩, ⟨[], [8], true⟩, ⟨[3, 4], [], true⟩, ⟨[5], [], false⟩, ⟨[], [2], true⟩, ⟨[], [8], true⟩, ⟨[7, 8], [], true⟩, ⟨[9], [], false⟩, ⟨[2, 6, 10], [], false⟩, ⟨[0, 1, 11], [], false⟩, ⟨[12], [], true⟩] [[(0, .pointer (some ag))], [(7, .int .i64 z15)], [(0, .pointer (some ag))], [(1, .slice Al l.length kl)], [(8, .int .i64 z16)], [], [], [(2, .slice Ao o.length ko)], [(8, .int .i64 z16)], [], [], [], [], []] (fun iQ => [fun v _ => v = .pointer (some ag), fun v _ => v = .int .i64 z15, fun v _ => v = .pointer (some ag), fun v _ => v = .slice Al l.length kl, fun v _ => v = .int .i64 z16, fun v _ => v = .pointer (some ((adOf Al).add z16.toNat)), fun v _ => v = .int .i64 (gi l z16), fun v _ => v = .slice Ao o.length ko, fun v _ => v = .int .i64 z16, fun v _ => v = .pointer (some ((adOf Ao).add z16.toNat)), fun v _ => v = .int .i64 (gi o z16), fun v _ => v = .int .i64 r35, fun v _ => v = .int .i64 r39, fun v _ => v = .int .i64 r39].getD iQ (fun _ _ => True)) Try.mixed (by kernel_rfl) ?_ (by kernel_rfl) ?_ ?_
    · refine Vs_monoT _ ?_
      intro VQ hVQ vQ wQ1 wQ2 hQ1 hQ2
      simp only [List.mem_cons, List.not_mem_nil, or_false] at hVQ
      rcases hVQ with rfl | rfl | rfl | rfl | rfl | rfl | rfl | rfl | rfl | rfl | rfl | rfl | rfl | rfl
      · exact hQ1
      · exact hQ1
      · exact hQ1
      · exact hQ1
      · exact hQ1
      · exact hQ1
      · exact hQ1
      · exact hQ1
      · exact hQ1
      · exact hQ1
      · exact hQ1
      · exact hQ1
      · exact hQ1
      · exact hQ1
    · refine ⟨⟨rfl, ⟨rfl, trivial⟩, ?_⟩, ⟨rfl, ⟨rfl, trivial⟩, ?_⟩, ⟨rfl, ⟨rfl, trivial⟩, ?_⟩, ⟨rfl, ⟨rfl, trivial⟩, ?_⟩, ⟨rfl, ⟨rfl, trivial⟩, ?_⟩, ⟨rfl, trivial, ?_⟩, ⟨rfl, trivial, ?_⟩, ⟨rfl, ⟨rfl, trivial⟩, ?_⟩, ⟨rfl, ⟨rfl, trivial⟩, ?_⟩, ⟨rfl, trivial, ?_⟩, ⟨rfl, trivial, ?_⟩, ⟨rfl, trivial, ?_⟩, ⟨rfl, trivial, ?_⟩, ⟨rfl, trivial, ?_⟩, trivial⟩
      · intro w21 hE
        intro RR
        refine WL.move rfl rfl ?_
        exact WL.done ⟨_, rfl, rfl, rfl, (fun h => absurd h (by decide)), (fun j h => by cases h)⟩
      · intro w22 hE
        intro RR
        refine WL.move rfl rfl ?_
        exact WL.done ⟨_, rfl, rfl, rfl, (fun h => absurd h (by decide)), (fun j h => by cases h)⟩
      · intro w23 hE
        intro RR
        refine WL.move rfl rfl ?_
        exact WL.done ⟨_, rfl, rfl, rfl, (fun h => absurd h (by decide)), (fun j h => by cases h)⟩
      · intro w24 hE
        intro RR
        refine WL.move rfl rfl ?_
        exact WL.done ⟨_, rfl, rfl, rfl, (fun h => absurd h (by decide)), (fun j h => by cases h)⟩
      · intro w25 hE
        intro RR
        refine WL.move rfl rfl ?_
        exact WL.done ⟨_, rfl, rfl, rfl, (fun h => absurd h (by decide)), (fun j h => by cases h)⟩
      · intro w26 hE
        rintro _ rfl
        rintro _ rfl
        intro RR
        refine SL.index Try.underlying22 Try.el3 (hS.ro hl) rfl rfl o27 rfl ?_
        exact WL.done ⟨_, rfl, rfl, rfl, (fun h => absurd h (by decide)), (fun j h => by cases h)⟩
      · intro w28 hE
        have hE := hE rfl
        have hS := hS.grow hE
        rintro _ rfl
        intro RR
        refine WL.load Try.underlying3 rfl rfl (Rd.gi (hS.ro hl) o27) rfl ?_
        exact WL.done ⟨_, rfl, ext_refl _, rfl, (fun h => absurd h (by decide)), (fun j h => by cases h)⟩
      · intro w29 hE
        intro RR
        refine WL.move rfl rfl ?_
        exact WL.done ⟨_, rfl, rfl, rfl, (fun h => absurd h (by decide)), (fun j h => by cases h)⟩
      · intro w30 hE
        intro RR
        refine WL.move rfl rfl ?_
        exact WL.done ⟨_, rfl, rfl, rfl, (fun h => absurd h (by decide)), (fun j h => by cases h)⟩
      · intro w31 hE
        rintro _ rfl
        rintro _ rfl
        intro RR
        refine SL.index Try.underlying22 Try.el3 (hS.ro ho) rfl rfl o32 rfl ?_
        exact WL.done ⟨_, rfl, rfl, rfl, (fun h => absurd h (by decide)), (fun j h => by cases h)⟩
      · intro w33 hE
        have hE := hE rfl
        have hS := hS.grow hE
        rintro _ rfl
        intro RR
        refine WL.load Try.underlying3 rfl rfl (Rd.gi (hS.ro ho) o32) rfl ?_
        exact WL.done ⟨_, rfl, ext_refl _, rfl, (fun h => absurd h (by decide)), (fun j h => by cases h)⟩
      · intro w34 hE
        have hE := hE rfl
        have hS := hS.grow hE
        rintro _ rfl
        rintro _ rfl
        rintro _ rfl
        intro RR
        refine WL.call Try.func38 rfl Try.nm38 rfl rfl (calls_un (ok_Mul (GFR.ext hgg hS.ext) o37)) ?_
        rintro _ w36 ⟨_, hGw36, hRww36, hNww36, r35q, rfl, rfl, he⟩
        subst he
        exact WL.done ⟨_, rfl, hGw36, rfl, (fun h => absurd h (by decide)), (fun j h => by cases h)⟩
      · intro w38 hE
        have hE := hE rfl
        have hS := hS.grow hE
        rintro _ rfl
        rintro _ rfl
        rintro _ rfl
        intro RR
        refine WL.call Try.func32 rfl Try.nm32 rfl rfl (calls_un (ok_Add (GFR.ext hgg hS.ext) o41)) ?_
        rintro _ w40 ⟨_, hGw40, hRww40, hNww40, r39q, rfl, rfl, he⟩
        subst he
        exact WL.done ⟨_, rfl, hGw40, rfl, (fun h => absurd h (by decide)), (fun j h => by cases h)⟩
      · intro w42 hE
        rintro _ rfl
        intro RR
        refine WL.assign rfl rfl ?_
        exact WL.done ⟨_, rfl, rfl, rfl, (fun h => absurd h (by decide)), (fun j h => by cases h)⟩
    · intro vals w43 hT hVs hAp hCp
      have hS := hS.grow hT
      have hv0 : vals 0 = _ := hVs 0 (by decide)
      have hv1 : vals 1 = _ := hVs 1 (by decide)
      have hv2 : vals 2 = _ := hVs 2 (by decide)
      have hv3 : vals 3 = _ := hVs 3 (by decide)
      have hv4 : vals 4 = _ := hVs 4 (by decide)
      have hv5 : vals 5 = _ := hVs 5 (by decide)
      have hv6 : vals 6 = _ := hVs 6 (by decide)
      have hv7 : vals 7 = _ := hVs 7 (by decide)
      have hv8 : vals 8 = _ := hVs 8 (by decide)
      have hv9 : vals 9 = _ := hVs 9 (by decide)
      have hv10 : vals 10 = _ := hVs 10 (by decide)
      have hv11 : vals 11 = _ := hVs 11 (by decide)
      have hv12 : vals 12 = _ := hVs 12 (by decide)
      have hv13 : vals 13 = _ := hVs 13 (by decide)
      rw [show (List.filterMap (fun i => Option.map (fun t => (t, vals i)) (dstAt _ i)) (List.range _)) = [(17, .pointer (some ag)), (18, .int .i64 z15), (19, .pointer (some ag)), (20, .slice Al l.length kl), (21, .int .i64 z16), (22, .pointer (some ((adOf Al).add z16.toNat))), (23, .int .i64 (gi l z16)), (24, .slice Ao o.length ko), (25, .int .i64 z16), (26, .pointer (some ((adOf Ao).add z16.toNat))), (27, .int .i64 (gi o z16)), (28, .int .i64 r35), (29, .int .i64 r39), (7, .int .i64 r39)] from by
        show [(17, vals 0), (18, vals 1), (19, vals 2), (20, vals 3), (21, vals 4), (22, vals 5), (23, vals 6), (24, vals 7), (25, vals 8), (26, vals 9), (27, vals 10), (28, vals 11), (29, vals 12), (7, vals 13)] = _
        rw [hv0, hv1, hv2, hv3, hv4, hv5, hv6, hv7, hv8, hv9, hv10, hv11, hv12, hv13]]
      refine WA.done (by decide +kernel) ?_
      refine W.region ?_
      obtain ⟨o44, hv⟩ := hv
      refine WL.add (r := (z16 + (1 : Int))) rfl rfl (wr o44) rfl ?_
      refine WL.move rfl rfl ?_
      refine WL.done ?_
      change St _ _ _ _ [] at hS
      exact ⟨(r39, (z16 + (1 : Int))), ⟨rfl, rfl, rfl, rfl, rfl, rfl, rfl, trivial⟩, hv.2, rfl, hv.1, hS⟩
  · have hv := hv.2 (of_decide_eq_false c20)
    refine W.exit ?_
    refine W.seq ?_
    refine W.region ?_
    refine WL.move rfl rfl ?_
    refine WL.assign rfl rfl ?_
    refine WL.done ?_
    refine W.ret ?_
    refine ⟨_, rfl, Fin.nil ?_⟩
    exact ⟨_, hS.ext, (hS.pick [] rfl).rows, News.of (hS.pick [] rfl).rows rfl, ⟨z15, rfl, rfl, hv⟩⟩

def V_Scale (Fg : GFv) (x : Int) (l : List Int) (Q : List Int → Prop) : Prop :=
  (0 ≤ ((l.length : Nat) : Int) ∧ ((l.length : Nat) : Int) * 8 ≤ 281474976710656 ∧ ((l.length : Nat) : Int) ≤ 281474976710656) ∧ (∃ (I21 : List Int → Int → Prop) (μ22 : List Int → Int → Nat), I21 (List.replicate ((l.length : Nat) : Int).toNat (0 : Int)) (0 : Int) ∧ ∀ (x19 : List Int) (z20 : Int), (I21 x19 z20 → (((z20 < ((l.length : Nat) : Int)) → ((0 ≤ z20 ∧ z20 < (l.length : Nat)) ∧ (V_Mul Fg x (gi l z20) (fun r27 => (0 ≤ z20 ∧ z20 < (((l.length : Nat) : Int).toNat : Nat)) ∧ ((I64 (z20 + (1 : Int))) ∧ (I21 (si x19 z20 r27) (z20 + (1 : Int)) ∧ μ22 (si x19 z20 r27) (z20 + (1 : Int)) < μ22 x19 z20)))))) ∧ (¬ (z20 < ((l.length : Nat) : Int)) → Q x19))))
theorem ok_Scale {w : World} {Q : List Int → Prop} {Fg : GFv} {x : Int} {l : List Int} {ag : Addr} {Bg : Nat} (hgg : GFR Bg w ag Fg) {Bl : Nat} {Al : Option Addr} {nl kl : Nat} (hl : Rd Bl w 1 Al nl kl (is l)) (hv : V_Scale Fg x l Q) :
    Calls Try.prog 45 #[.pointer (some ag), .int .i64 x, .slice Al nl kl] w fun e w' => ∃ v Qr, e = .returned v ∧ w.grownBy w' none ∧ Rows w.heap.size none w' Qr ∧ News w.heap.size Qr ∧ ∃ (x : List Int)  (A : Option Addr) (c : Nat), v = .slice A x.length c ∧ Qr = [.row 3 1 A x.length c (is x)] ∧ Q x := by
  have hgg_ := hgg
  obtain ⟨Ag_mod, kg_mod, Ag_exp, kg_exp, Ag_log, kg_log, Ag_above, kg_above, hg_c, hg_mod, hg_exp, hg_log, hg_above⟩ := hgg_
  have hnl := hl.ilen
  subst hnl
  refine calls_swap ?_
  refine calls_of_W (vs := [.pointer (some ag), .int .i64 x, .slice Al l.length kl]) [6] Try.func45 rfl rfl rfl rfl ?_
  have hS := St.start w
  unfold V_Scale at hv
  refine W.seq ?_
  refine W.region ?_
  refine WL.assign rfl rfl ?_
  refine WL.done ?_
  refine W.seq ?_
  refine W.region ?_
  refine WL.move rfl rfl ?_
  refine WL.len Try.underlying22 rfl rfl ?_
  obtain ⟨o11, hv⟩ := hv
  refine SL.make (J := ((l.length : Nat) : Int)) hS Try.underlying22 Try.el3 rfl rfl o11 (made_is _) rfl ?_
  intro A12 w13 hS
  refine WL.assign rfl rfl ?_
  refine WL.done ?_
  refine W.seq ?_
  refine W.seq ?_
  refine W.region ?_
  refine WL.move rfl rfl ?_
  refine WL.len Try.underlying22 rfl rfl ?_
  refine WL.move rfl rfl ?_
  refine WL.done ?_
  refine W.block ?_
  obtain ⟨I21, μ22, hv, hk31⟩ := hv
  change St _ _ _ _ [.row 3 1 A12 (((l.length : Nat) : Int).toNat) (((l.length : Nat) : Int).toNat) (is (List.replicate ((l.length : Nat) : Int).toNat (0 : Int)))] at hS
  refine W.loop (σ := List Int × Int) (fun q w1 => match q with | (x19, z20) => I21 x19 z20 ∧ St TT w none w1 [.row 3 1 A12 (((l.length : Nat) : Int).toNat) (((l.length : Nat) : Int).toNat) (is x19)]) (fun q => match q with | (x19, z20) => [(0, .pointer (some ag)), (1, .int .i64 x), (6, .slice none 0 0), (7, .slice A12 (((l.length : Nat) : Int).toNat) (((l.length : Nat) : Int).toNat)), (13, .slice Al l.length kl), (14, .int .i64 ((l.length : Nat) : Int)), (15, .int .i64 z20)]) (fun q => match q with | (x19, z20) => μ22 x19 z20) (List.replicate ((l.length : Nat) : Int).toNat (0 : Int), (0 : Int)) ⟨hv, hS⟩ ⟨rfl, rfl, rfl, rfl, rfl, rfl, rfl, trivial⟩ ?_
  rintro ⟨x19, z20⟩ w23 ⟨hv, hS⟩
  have hv := hk31 x19 z20 hv
  refine W.seq ?_
  refine W.region ?_
  refine WL.lssD rfl rfl rfl ?_
  refine WL.done ?_
  refine W.seq ?_
  refine W.cond2 rfl (fun c24 => ?_) (fun c24 => ?_)
  · have hv := hv.1 (of_decide_eq_true c24)
    refine W.skip ?_
    refine W.seq ?_
    refine W.block ?_
    refine W.seq ?_
    refine W.region ?_
    refine WL.move rfl rfl ?_
    obtain ⟨o25, hv⟩ := hv
    refine SL.index Try.underlying22 Try.el3 (hS.ro hl) rfl rfl o25 rfl ?_
    refine WL.load Try.underlying3 rfl rfl (Rd.gi (hS.ro hl) o25) rfl ?_
    refine WL.assign rfl rfl ?_
    refine WL.assign rfl rfl ?_
    refine WL.done ?_
    refine W.region ?_
    refine WL.move rfl rfl ?_
    refine WL.move rfl rfl ?_
    refine WL.move rfl rfl ?_
    refine WL.move rfl rfl ?_
    refine WL.move rfl rfl ?_
    refine SL.call hS (ok_Mul (GFR.ext hgg hS.ext) hv) Try.func38 rfl Try.nm38 rfl rfl ?_
    rintro _ _ w26 ⟨r27, rfl, rfl, hv⟩ hGw26 hS
    change St _ _ _ _ [.row 3 1 A12 (((l.length : Nat) : Int).toNat) (((l.length : Nat) : Int).toNat) (is x19)] at hS
    obtain ⟨o28, hv⟩ := hv
    refine SL.index Try.underlying22 Try.el3 (hS.rd (i := 0) rfl) rfl rfl o28 rfl ?_
    refine SL.store (cs' := is (si x19 z20 r27)) 0 z20.toNat hS rfl Try.el3 rfl rfl rfl (is_lt (hS.rd (i := 0) rfl) o28) (is_set _ _ _) ?_
    intro w29 hS
    refine WL.done ?_
    refine W.region ?_
    obtain ⟨o30, hv⟩ := hv
    refine WL.add (r := (z20 + (1 : Int))) rfl rfl (wr o30) rfl ?_
    refine WL.move rfl rfl ?_
    refine WL.done ?_
    change St _ _ _ _ [.row 3 1 A12 (((l.length : Nat) : Int).toNat) (((l.length : Nat) : Int).toNat) (is (si x19 z20 r27))] at hS
    exact ⟨(si x19 z20 r27, (z20 + (1 : Int))), ⟨rfl, rfl, rfl, rfl, rfl, rfl, rfl, trivial⟩, hv.2, rfl, hv.1, hS⟩
  · have hv := hv.2 (of_decide_eq_false c24)
    refine W.exit ?_
    refine W.seq ?_
    refine W.region ?_
    refine WL.move rfl rfl ?_
    refine WL.assign rfl rfl ?_
    refine WL.done ?_
    refine W.ret ?_
    have hm := (hS.rd (i := 0) rfl).ilen
    have hS := hS.relen (i := 0) rfl hm.symm
    refine ⟨_, rfl, Fin.nil ?_⟩
    exact ⟨_, hS.ext, (hS.pick [0] rfl).rows, News.of (hS.pick [0] rfl).rows rfl, ⟨x19, A12, ((l.length : Nat) : Int).toNat, (by rw [hm]), rfl, hv⟩⟩

def V_Digits (Fg : GFv) (x : Int) (Q : List Int → Prop) : Prop :=
  ∃ (r24 : Int), V_element Fg x (fun q => q = r24) ∧ (∃ (x28 : List Int), V_digits Fg.P Fg.M r24 (fun q => q = x28) ∧ Q x28)
theorem ok_Digits {w : World} {Q : List Int → Prop} {Fg : GFv} {x : Int} {ag : Addr} {Bg : Nat} (hgg : GFR Bg w ag Fg) (hv : V_Digits Fg x Q) :
    Calls Try.prog 49 #[.pointer (some ag), .int .i64 x] w fun e w' => ∃ v Qr, e = .returned v ∧ w.grownBy w' none ∧ Rows w.heap.size none w' Qr ∧ News w.heap.size Qr ∧ ∃ (x : List Int)  (A : Option Addr) (c : Nat), v = .slice A x.length c ∧ Qr = [.row 3 1 A x.length c (is x)] ∧ Q x := by
  have hgg_ := hgg
  obtain ⟨Ag_mod, kg_mod, Ag_exp, kg_exp, Ag_log, kg_log, Ag_above, kg_above, hg_c, hg_mod, hg_exp, hg_log, hg_above⟩ := hgg_
  refine calls_swap ?_
  refine calls_of_W (vs := [.pointer (some ag), .int .i64 x]) [4] Try.func49 rfl rfl rfl rfl ?_
  have hS := St.start w
  unfold V_Digits at hv
  refine W.seq ?_
  refine W.region ?_
  refine WL.assign rfl rfl ?_
  refine WL.done ?_
  refine W.seq ?_
  obtain ⟨r24, o26, hv⟩ := hv
  obtain ⟨x28, o35, hv⟩ := hv
  have hS0 := hS
  refine W.drawX 15 (fun iA => [false, false, false, false, false, false, false, false, false, false, false, false, false, true, false].getD iA false) (fun iC => match iC with | 14 => some 13 | _ => none) [⟨[], [0], true⟩, ⟨[0], [], true⟩, ⟨[1], [], true⟩, ⟨[2], [], true⟩, ⟨[3], [], false⟩, ⟨[], [0], true⟩, ⟨[5], [], true⟩, ⟨[6], [], true⟩, ⟨[7], [], true⟩, ⟨[8], [], false⟩, ⟨[], [0], true⟩, ⟨[], [1], true⟩, ⟨[10, 11], [], false⟩, ⟨[4, 9, 12], [], false⟩, ⟨[13], [], true⟩] [[(0, .pointer (some ag))], [], [], [], [], [(0, .pointer (some ag))], [], [], [], [], [(0, .pointer (some ag))], [(1, .int .i64 x)], [], [], []] (fun iQ => [fun v _ => v = .pointer (some ag), fun v _ => v = .pointer (some ag), fun v _ => v = .pointer (some ag), fun v _ => v = .pointer (some ag), fun v _ => v = .int .i64 Fg.P, fun v _ => v = .pointer (some ag), fun v _ => v = .pointer (some ag), fun v _ => v = .pointer (some ag), fun v _ => v = .pointer (some (ag.add 1)), fun v _ => v = .int .i64 Fg.M, fun v _ => v = .pointer (some ag), fun v _ => v = .int .i64 x, fun v _ => v = .int .i64 r24, fun v wQ => ∃ A29_13 k30_13, v = .slice A29_13 x28.length k30_13 ∧ Own 0 wQ 3 1 A29_13 x28.length k30_13 (is x28) ∧ (∀ g, bl A29_13 = some g → w.heap.size ≤ g), fun v wQ => ∃ A29_13_14 k30_13_14, v = .slice A29_13_14 x28.length k30_13_14 ∧ Own 0 wQ 3 1 A29_13_14 x28.length k30_13_14 (is x28) ∧ (∀ g, bl A29_13_14 = some g → w.heap.size ≤ g)].getD iQ (fun _ _ => True)) Try.mixed (by kernel_rfl) ?_ (by kernel_rfl) ?_ ?_
  · refine Vs_monoT _ ?_
    intro VQ hVQ vQ wQ1 wQ2 hQ1 hQ2
    simp only [List.mem_cons, List.not_mem_nil, or_false] at hVQ
    rcases hVQ with rfl | rfl | rfl | rfl | rfl | rfl | rfl | rfl | rfl | rfl | rfl | rfl | rfl | rfl | rfl
    · exact hQ1
    · exact hQ1
    · exact hQ1
    · exact hQ1
    · exact hQ1
    · exact hQ1
    · exact hQ1
    · exact hQ1
    · exact hQ1
    · exact hQ1
    · exact hQ1
    · exact hQ1
    · exact hQ1
    · obtain ⟨A29_13, k30_13, hQe, hO33_13, hN34_13⟩ := hQ1
      exact ⟨A29_13, k30_13, hQe, hO33_13.ext hQ2, hN34_13⟩
    · obtain ⟨A29_13_14, k30_13_14, hQe, hO33_13_14, hN34_13_14⟩ := hQ1
      exact ⟨A29_13_14, k30_13_14, hQe, hO33_13_14.ext hQ2, hN34_13_14⟩
  · refine ⟨⟨rfl, ⟨rfl, trivial⟩, ?_⟩, ⟨rfl, trivial, ?_⟩, ⟨rfl, trivial, ?_⟩, ⟨rfl, trivial, ?_⟩, ⟨rfl, trivial, ?_⟩, ⟨rfl, ⟨rfl, trivial⟩, ?_⟩, ⟨rfl, trivial, ?_⟩, ⟨rfl, trivial, ?_⟩, ⟨rfl, trivial, ?_⟩, ⟨rfl, trivial, ?_⟩, ⟨rfl, ⟨rfl, trivial⟩, ?_⟩, ⟨rfl, ⟨rfl, trivial⟩, ?_⟩, ⟨rfl, trivial, ?_⟩, ⟨rfl, trivial, ?_⟩, ⟨rfl, trivial, ?_⟩, trivial⟩
    · intro w11 hE
      intro RR
      refine WL.move rfl rfl ?_
      exact WL.done ⟨_, rfl, rfl, rfl, (fun h => absurd h (by decide)), (fun j h => by cases h)⟩
    · intro w12 hE
      rintro _ rfl
      intro RR
      refine WL.nilCheck rfl rfl ?_
      exact WL.done ⟨_, rfl, rfl, rfl, (fun h => absurd h (by decide)), (fun j h => by cases h)⟩
    · intro w13 hE
      rintro _ rfl
      intro RR
      refine WL.fieldA (off := 0) Try.fla73_0 rfl rfl ?_
      exact WL.done ⟨_, rfl, rfl, rfl, (fun h => absurd h (by decide)), (fun j h => by cases h)⟩
    · intro w14 hE
      rintro _ rfl
      intro RR
      refine WL.fieldA (off := 0) Try.fla24_0 rfl rfl ?_
      exact WL.done ⟨_, rfl, rfl, rfl, (fun h => absurd h (by decide)), (fun j h => by cases h)⟩
    · intro w15 hE
      have hE := hE rfl
      have hS := hS.grow hE
      rintro _ rfl
      intro RR
      refine WL.load Try.underlying3 rfl rfl (Rd.at_ (hS.ro hg_c) (j := 0) rfl) rfl ?_
      exact WL.done ⟨_, rfl, ext_refl _, rfl, (fun h => absurd h (by decide)), (fun j h => by cases h)⟩
    · intro w16 hE
      intro RR
      refine WL.move rfl rfl ?_
      exact WL.done ⟨_, rfl, rfl, rfl, (fun h => absurd h (by decide)), (fun j h => by cases h)⟩
    · intro w17 hE
      rintro _ rfl
      intro RR
      refine WL.nilCheck rfl rfl ?_
      exact WL.done ⟨_, rfl, rfl, rfl, (fun h => absurd h (by decide)), (fun j h => by cases h)⟩
    · intro w18 hE
      rintro _ rfl
      intro RR
      refine WL.fieldA (off := 0) Try.fla73_0 rfl rfl ?_
      exact WL.done ⟨_, rfl, rfl, rfl, (fun h => absurd h (by decide)), (fun j h => by cases h)⟩
    · intro w19 hE
      rintro _ rfl
      intro RR
      refine WL.fieldA (off := 1) Try.fla24_1 rfl rfl ?_
      exact WL.done ⟨_, rfl, rfl, rfl, (fun h => absurd h (by decide)), (fun j h => by cases h)⟩
    · intro w20 hE
      have hE := hE rfl
      have hS := hS.grow hE
      rintro _ rfl
      intro RR
      refine WL.load Try.underlying3 rfl rfl (Rd.at_ (hS.ro hg_c) (j := 1) rfl) rfl ?_
      exact WL.done ⟨_, rfl, ext_refl _, rfl, (fun h => absurd h (by decide)), (fun j h => by cases h)⟩
    · intro w21 hE
      intro RR
      refine WL.move rfl rfl ?_
      exact WL.done ⟨_, rfl, rfl, rfl, (fun h => absurd h (by decide)), (fun j h => by cases h)⟩
    · intro w22 hE
      intro RR
      refine WL.move rfl rfl ?_
      exact WL.done ⟨_, rfl, rfl, rfl, (fun h => absurd h (by decide)), (fun j h => by cases h)⟩
    · intro w23 hE
      have hE := hE rfl
      have hS := hS.grow hE
      rintro _ rfl
      rintro _ rfl
      intro RR
      refine WL.call Try.func73 rfl Try.nm73 rfl rfl (calls_un (ok_element (GFR.ext hgg hS.ext) o26)) ?_
      rintro _ w25 ⟨_, hGw25, hRww25, hNww25, r24q, rfl, rfl, he⟩
      subst he
      exact WL.done ⟨_, rfl, hGw25, rfl, (fun h => absurd h (by decide)), (fun j h => by cases h)⟩
    · intro w27 hE
      have hE := hE rfl
      have hS := hS.grow hE
      rintro _ rfl
      rintro _ rfl
      rintro _ rfl
      intro RR
      refine WL.call Try.func76 rfl Try.nm76 rfl rfl (calls_un (ok_digits  o35)) ?_
      rintro _ w32 ⟨_, hGw32, hRww32, hNww32, x28q, A29, k30, rfl, rfl, he⟩
      subst he
      have hO33 := (hRww32.get (i := 0) rfl).1
      have hN34 : ∀ g, bl A29 = some g → _ ≤ g := fun g hg => Nat.le_trans hE.size (hNww32.1 g hg)
      exact WL.done ⟨_, rfl, hGw32, ⟨A29, k30, rfl, hO33, hN34⟩, (fun _ => fun g hg => ⟨hNww32.1 g hg, (hO33.bl_ge g hg).2⟩), (fun j h => by cases h)⟩
    · intro w36 hE
      rintro _ ⟨A29_13, k30_13, rfl, hO33_13, hN34_13⟩
      intro RR
      refine WL.assign rfl rfl ?_
      exact WL.done ⟨_, rfl, rfl, ⟨A29_13, k30_13, rfl, hO33_13, hN34_13⟩, (fun h => absurd h (by decide)), (fun j h => by cases h; rfl)⟩
  · intro vals w37 hT hVs hAp hCp
    have hS := hS.grow hT
    have hv0 : vals 0 = _ := hVs 0 (by decide)
    have hv1 : vals 1 = _ := hVs 1 (by decide)
    have hv2 : vals 2 = _ := hVs 2 (by decide)
    have hv3 : vals 3 = _ := hVs 3 (by decide)
    have hv4 : vals 4 = _ := hVs 4 (by decide)
    have hv5 : vals 5 = _ := hVs 5 (by decide)
    have hv6 : vals 6 = _ := hVs 6 (by decide)
    have hv7 : vals 7 = _ := hVs 7 (by decide)
    have hv8 : vals 8 = _ := hVs 8 (by decide)
    have hv9 : vals 9 = _ := hVs 9 (by decide)
    have hv10 : vals 10 = _ := hVs 10 (by decide)
    have hv11 : vals 11 = _ := hVs 11 (by decide)
    have hv12 : vals 12 = _ := hVs 12 (by decide)
    obtain ⟨A29_13, k30_13, hv13, hO33_13, hN34_13⟩ := hVs 13 (by decide)
    have hv14 : vals 14 = .slice A29_13 x28.length k30_13 := (hCp 14 13 (by decide) rfl).trans hv13
    have hS := St.addOwn [] hS0 hS hO33_13 hN34_13 (fun s hs => by cases hs)
    change St _ _ _ _ [.row 3 1 A29_13 x28.length k30_13 (is x28)] at hS
    rw [show (List.filterMap (fun i => Option.map (fun t => (t, vals i)) (dstAt _ i)) (List.range _)) = [(5, .pointer (some ag)), (6, .pointer (some ag)), (7, .pointer (some ag)), (8, .pointer (some ag)), (9, .int .i64 Fg.P), (10, .pointer (some ag)), (11, .pointer (some ag)), (12, .pointer (some ag)), (13, .pointer (some (ag.add 1))), (14, .int .i64 Fg.M), (15, .pointer (some ag)), (16, .int .i64 x), (17, .int .i64 r24), (18, .slice A29_13 x28.length k30_13), (4, .slice A29_13 x28.length k30_13)] from by
      show [(5, vals 0), (6, vals 1), (7, vals 2), (8, vals 3), (9, vals 4), (10, vals 5), (11, vals 6), (12, vals 7), (13, vals 8), (14, vals 9), (15, vals 10), (16, vals 11), (17, vals 12), (18, vals 13), (4, vals 14)] = _
      rw [hv0, hv1, hv2, hv3, hv4, hv5, hv6, hv7, hv8, hv9, hv10, hv11, hv12, hv13, hv14]]
    refine WA.done (by decide +kernel) ?_
    refine W.ret ?_
    refine ⟨_, rfl, Fin.nil ?_⟩
    exact ⟨_, hS.ext, (hS.pick [0] rfl).rows, News.of (hS.pick [0] rfl).rows rfl, ⟨x28, A29_13, k30_13, rfl, rfl, hv⟩⟩

def V_FromDigits (Fg : GFv) (l : List Int) (Q : Int × Int → Prop) : Prop :=
  ((((l.length : Nat) : Int) ≠ Fg.M) → (Q ((0 : Int), (3 : Int)))) ∧ (¬ (((l.length : Nat) : Int) ≠ Fg.M) → (∃ (I15 : Int → Prop) (μ16 : Int → Nat), I15 (0 : Int) ∧ ∀ (z14 : Int), (I15 z14 → (((z14 < ((l.length : Nat) : Int)) → ((0 ≤ z14 ∧ z14 < (l.length : Nat)) ∧ ((((gi l z14) < (0 : Int)) → (Q ((0 : Int), (2 : Int)))) ∧ (¬ ((gi l z14) < (0 : Int)) → (((Fg.P ≤ (gi l z14)) → (Q ((0 : Int), (2 : Int)))) ∧ (¬ (Fg.P ≤ (gi l z14)) → ((I64 (z14 + (1 : Int))) ∧ (I15 (z14 + (1 : Int)) ∧ μ16 (z14 + (1 : Int)) < μ16 z14)))))))) ∧ (¬ (z14 < ((l.length : Nat) : Int)) → (V_fromDigits Fg.P l (fun r24 => Q (r24, (0 : Int)))))))))
theorem ok_FromDigits {w : World} {Q : Int × Int → Prop} {Fg : GFv} {l : List Int} {ag : Addr} {Bg : Nat} (hgg : GFR Bg w ag Fg) {Bl : Nat} {Al : Option Addr} {nl kl : Nat} (hl : Rd Bl w 1 Al nl kl (is l)) (hv : V_FromDigits Fg l Q) :
    Calls Try.prog 50 #[.pointer (some ag), .slice Al nl kl] w fun e w' => ∃ v Qr, e = .returned v ∧ w.grownBy w' none ∧ Rows w.heap.size none w' Qr ∧ News w.heap.size Qr ∧ ∃ (r0 : Int) (r1 : Int), v = .tuple #[.int .i64 r0, .int .i64 r1] ∧ Qr = [] ∧ Q (r0, r1) := by
  have hgg_ := hgg
  obtain ⟨Ag_mod, kg_mod, Ag_exp, kg_exp, Ag_log, kg_log, Ag_above, kg_above, hg_c, hg_mod, hg_exp, hg_log, hg_above⟩ := hgg_
  have hnl := hl.ilen
  subst hnl
  refine calls_swap ?_
  refine calls_of_W (vs := [.pointer (some ag), .slice Al l.length kl]) [4, 5] Try.func50 rfl rfl rfl rfl ?_
  have hS := St.start w
  unfold V_FromDigits at hv
  refine W.seq ?_
  refine W.region ?_
  refine WL.assign rfl rfl ?_
  refine WL.assign rfl rfl ?_
  refine WL.done ?_
  refine W.seq ?_
  refine W.seq ?_
  refine W.region ?_
  refine WL.move rfl rfl ?_
  refine WL.len Try.underlying22 rfl rfl ?_
  refine WL.move rfl rfl ?_
  refine WL.nilCheck rfl rfl ?_
  refine WL.fieldA (off := 0) Try.fla73_0 rfl rfl ?_
  refine WL.fieldA (off := 1) Try.fla24_1 rfl rfl ?_
  refine WL.load Try.underlying3 rfl rfl (Rd.at_ (hS.ro hg_c) (j := 1) rfl) rfl ?_
  refine WL.neqD rfl rfl rfl ?_
  refine WL.done ?_
  refine W.cond2 rfl (fun c11 => ?_) (fun c11 => ?_)
  · have hv := hv.1 (of_decide_eq_true c11)
    refine W.seq ?_
    refine W.region ?_
    refine WL.assign rfl rfl ?_
    refine WL.assign rfl rfl ?_
    refine WL.done ?_
    refine W.ret ?_
    refine ⟨_, rfl, Fin.nil ?_⟩
    exact ⟨_, hS.ext, (hS.pick [] rfl).rows, News.of (hS.pick [] rfl).rows rfl, ⟨(0 : Int), (3 : Int), rfl, rfl, hv⟩⟩
  · have hv := hv.2 (of_decide_eq_false c11)
    refine W.skip ?_
    refine W.seq ?_
    refine W.seq ?_
    refine W.region ?_
    refine WL.move rfl rfl ?_
    refine WL.len Try.underlying22 rfl rfl ?_
    refine WL.move rfl rfl ?_
    refine WL.done ?_
    refine W.block ?_
    obtain ⟨I15, μ16, hv, hk25⟩ := hv
    change St _ _ _ _ [] at hS
    refine W.loop (σ := Int) (fun z14 w1 => I15 z14 ∧ St TT w none w1 []) (fun z14 => [(0, .pointer (some ag)), (1, .slice Al l.length kl), (4, .int .i64 (0 : Int)), (5, .int .i64 (0 : Int)), (16, .slice Al l.length kl), (17, .int .i64 ((l.length : Nat) : Int)), (18, .int .i64 z14)]) (fun z14 => μ16 z14) (0 : Int) ⟨hv, hS⟩ ⟨rfl, rfl, rfl, rfl, rfl, rfl, rfl, trivial⟩ ?_
    rintro z14 w17 ⟨hv, hS⟩
    have hv := hk25 z14 hv
    refine W.seq ?_
    refine W.region ?_
    refine WL.lssD rfl rfl rfl ?_
    refine WL.done ?_
    refine W.seq ?_
    refine W.cond2 rfl (fun c18 => ?_) (fun c18 => ?_)
    · have hv := hv.1 (of_decide_eq_true c18)
      refine W.skip ?_
      refine W.seq ?_
      refine W.block ?_
      refine W.seq ?_
      refine W.region ?_
      obtain ⟨o19, hv⟩ := hv
      refine SL.index Try.underlying22 Try.el3 (hS.ro hl) rfl rfl o19 rfl ?_
      refine WL.load Try.underlying3 rfl rfl (Rd.gi (hS.ro hl) o19) rfl ?_
      refine WL.assign rfl rfl ?_
      refine WL.done ?_
      refine W.seq ?_
      refine W.region ?_
      refine WL.move rfl rfl ?_
      refine WL.lssD rfl rfl rfl ?_
      refine WL.move rfl rfl ?_
      by_cases g20 : (gi l z14) < (0 : Int)
      · have hv := hv.1 g20
        rw [decide_eq_true g20]
        refine WL.pass rfl rfl rfl ?_
        refine WL.pass rfl rfl rfl ?_
        refine WL.pass rfl rfl rfl ?_
        refine WL.pass rfl rfl rfl ?_
        refine WL.pass rfl rfl rfl ?_
        refine WL.pass rfl rfl rfl ?_
        refine WL.pass rfl rfl rfl ?_
        refine WL.pick rfl rfl rfl ?_
        refine WL.done ?_
        refine W.condT rfl ?_
        refine W.seq ?_
        refine W.region ?_
        refine WL.assign rfl rfl ?_
        refine WL.assign rfl rfl ?_
        refine WL.done ?_
        refine W.ret ?_
        refine ⟨_, rfl, Fin.nil ?_⟩
        exact ⟨_, hS.ext, (hS.pick [] rfl).rows, News.of (hS.pick [] rfl).rows rfl, ⟨(0 : Int), (2 : Int), rfl, rfl, hv⟩⟩
      · have hv := hv.2 g20
        rw [decide_eq_false g20]
        refine WL.take rfl ?_
        refine WL.move rfl rfl ?_
        refine WL.take rfl ?_
        refine WL.move rfl rfl ?_
        refine WL.take rfl ?_
        refine WL.nilCheck rfl rfl ?_
        refine WL.take rfl ?_
        refine WL.fieldA (off := 0) Try.fla73_0 rfl rfl ?_
        refine WL.take rfl ?_
        refine WL.fieldA (off := 0) Try.fla24_0 rfl rfl ?_
        refine WL.take rfl ?_
        refine WL.load Try.underlying3 rfl rfl (Rd.at_ (hS.ro hg_c) (j := 0) rfl) rfl ?_
        refine WL.take rfl ?_
        refine WL.geqD rfl rfl rfl ?_
        refine WL.pick rfl rfl rfl ?_
        refine WL.done ?_
        refine W.cond2 rfl (fun c21 => ?_) (fun c21 => ?_)
        · have hv := hv.1 (of_decide_eq_true c21)
          refine W.seq ?_
          refine W.region ?_
          refine WL.assign rfl rfl ?_
          refine WL.assign rfl rfl ?_
          refine WL.done ?_
          refine W.ret ?_
          refine ⟨_, rfl, Fin.nil ?_⟩
          exact ⟨_, hS.ext, (hS.pick [] rfl).rows, News.of (hS.pick [] rfl).rows rfl, ⟨(0 : Int), (2 : Int), rfl, rfl, hv⟩⟩
        · have hv := hv.2 (of_decide_eq_false c21)
          refine W.skip ?_
          refine W.region ?_
          obtain ⟨o22, hv⟩ := hv
          refine WL.add (r := (z14 + (1 : Int))) rfl rfl (wr o22) rfl ?_
          refine WL.move rfl rfl ?_
          refine WL.done ?_
          change St _ _ _ _ [] at hS
          exact ⟨(z14 + (1 : Int)), ⟨rfl, rfl, rfl, rfl, rfl, rfl, rfl, trivial⟩, hv.2, rfl, hv.1, hS⟩
    · have hv := hv.2 (of_decide_eq_false c18)
      refine W.exit ?_
      refine W.seq ?_
      refine W.region ?_
      refine WL.move rfl rfl ?_
      refine WL.nilCheck rfl rfl ?_
      refine WL.fieldA (off := 0) Try.fla73_0 rfl rfl ?_
      refine WL.fieldA (off := 0) Try.fla24_0 rfl rfl ?_
      refine WL.load Try.underlying3 rfl rfl (Rd.at_ (hS.ro hg_c) (j := 0) rfl) rfl ?_
      refine WL.move rfl rfl ?_
      refine SL.call hS (ok_fromDigits (hS.ro hl) hv) Try.func77 rfl Try.nm77 rfl rfl ?_
      rintro _ _ w23 ⟨r24, rfl, rfl, hv⟩ hGw23 hS
      change St _ _ _ _ [] at hS
      refine WL.assign rfl rfl ?_
      refine WL.assign rfl rfl ?_
      refine WL.done ?_
      refine W.ret ?_
      refine ⟨_, rfl, Fin.nil ?_⟩
      exact ⟨_, hS.ext, (hS.pick [] rfl).rows, News.of (hS.pick [] rfl).rows rfl, ⟨r24, (0 : Int), rfl, rfl, hv⟩⟩

def V_leastMod (Pf : Int) (Mf : Int) (mf : List Int) (Q : List Int → Prop) : Prop :=
  ∃ (I28 : List Int → Int → Prop) (μ29 : List Int → Int → Nat), I28 mf (0 : Int) ∧ ∀ (x23 : List Int) (z27 : Int), (I28 x23 z27 → (V_digits Pf Mf z27 (fun x32 => V_isIrreducible Pf Mf x32 (fun r38 => ((r38 = true) → Q x32) ∧ (r38 = false → ((I64 (z27 + (1 : Int))) ∧ (I28 x32 (z27 + (1 : Int)) ∧ μ29 x32 (z27 + (1 : Int)) < μ29 x23 z27)))))))
theorem ok_leastMod {w : World} {Q : List Int → Prop} {Pf : Int} {Mf : Int} {mf : List Int} {Bf : Nat} {Af : Option Addr} {nf kf : Nat} (hf : Rd Bf w 1 Af nf kf (is mf)) (hv : V_leastMod Pf Mf mf Q) :
    Calls Try.prog 71 #[.agg #[.int .i64 Pf, .int .i64 Mf, .slice Af nf kf]] w fun e w' => ∃ v Qr, e = .returned v ∧ w.grownBy w' none ∧ Rows w.heap.size none w' Qr ∧ News w.heap.size Qr ∧ ∃ (x : List Int)  (A : Option Addr) (c : Nat), v = .slice A x.length c ∧ Qr = [.row 3 1 A x.length c (is x)] ∧ Q x := by
  have hnf := hf.ilen
  subst hnf
  refine calls_swap ?_
  refine calls_of_W (vs := [.agg #[.int .i64 Pf, .int .i64 Mf, .slice Af mf.length kf]]) [2] Try.func71 rfl rfl rfl rfl ?_
  have hS := St.start w
  unfold V_leastMod at hv
  refine W.seq ?_
  refine W.region ?_
  refine SL.box (z := 3) (cs := [.int .i64 Pf, .int .i64 Mf, .slice Af mf.length kf]) hS rfl rfl rfl rfl ?_
  intro g11 w12 hS
  refine WL.assign rfl rfl ?_
  refine WL.done ?_
  refine W.seq ?_
  refine W.region ?_
  refine WL.assign rfl rfl ?_
  refine WL.done ?_
  refine W.block ?_
  obtain ⟨I28, μ29, hv, hk41⟩ := hv
  have hS := hS.addRo hf
  change St _ _ _ _ [.ro 1 Af mf.length kf (is mf), .row 24 3 (some ⟨g11, 0, none⟩) 1 1 [.int .i64 Pf, .int .i64 Mf, .slice Af mf.length kf]] at hS
  refine W.loop (σ := List Int × Int × Option Addr × Nat) (fun q w1 => match q with | (x23, z27, A24, k25) => I28 x23 z27 ∧ St TT w none w1 [.ro 1 A24 x23.length k25 (is x23), .row 24 3 (some ⟨g11, 0, none⟩) 1 1 [.int .i64 Pf, .int .i64 Mf, .slice A24 x23.length k25]]) (fun q => match q with | (x23, z27, A24, k25) => [(1, .pointer (some ⟨g11, 0, none⟩)), (2, .slice none 0 0), (3, .int .i64 z27)]) (fun q => match q with | (x23, z27, A24, k25) => μ29 x23 z27) (mf, (0 : Int), Af, kf) ⟨hv, hS⟩ ⟨rfl, rfl, rfl, trivial⟩ ?_
  rintro ⟨x23, z27, A24, k25⟩ w30 ⟨hv, hS⟩
  have hv := hk41 x23 z27 hv
  refine W.seq ?_
  refine W.block ?_
  refine W.seq ?_
  refine W.region ?_
  refine WL.fieldA (off := 0) Try.fla24_0 rfl rfl ?_
  refine WL.load Try.underlying3 rfl rfl (Own.vcells (hS.own (i := 1) rfl) 0 _ rfl) rfl ?_
  refine WL.fieldA (off := 1) Try.fla24_1 rfl rfl ?_
  refine WL.load Try.underlying3 rfl rfl (Own.vcells (hS.own (i := 1) rfl) 1 _ rfl) rfl ?_
  refine WL.move rfl rfl ?_
  refine SL.call hS (ok_digits  hv) Try.func76 rfl Try.nm76 rfl rfl ?_
  rintro _ _ w31 ⟨x32, A33, k34, rfl, rfl, hv⟩ hGw31 hS
  change St _ _ _ _ [.row 3 1 A33 x32.length k34 (is x32), .ro 1 A24 x23.length k25 (is x23), .row 24 3 (some ⟨g11, 0, none⟩) 1 1 [.int .i64 Pf, .int .i64 Mf, .slice A24 x23.length k25]] at hS
  refine WL.fieldA (off := 2) Try.fla24_2 rfl rfl ?_
  refine SL.store (cs' := [.int .i64 Pf, .int .i64 Mf, .slice A33 x32.length k34]) 2 2 hS rfl Try.el22 rfl rfl rfl (of_ble rfl) rfl ?_
  intro w36 hS
  refine WL.done ?_
  refine W.seq ?_
  refine W.region ?_
  refine WL.loadV (cs := [.int .i64 Pf, .int .i64 Mf, .slice A33 x32.length k34]) Try.el24 Try.agg24 rfl rfl (Own.vcells (hS.own (i := 2) rfl)) rfl ?_
  refine SL.call hS (ok_isIrreducible (hS.rd (i := 0) rfl) hv) Try.func68 rfl Try.nm68 rfl rfl ?_
  rintro _ _ w37 ⟨r38, rfl, rfl, hv⟩ hGw37 hS
  change St _ _ _ _ [.row 3 1 A33 x32.length k34 (is x32), .ro 1 A24 x23.length k25 (is x23), .row 24 3 (some ⟨g11, 0, none⟩) 1 1 [.int .i64 Pf, .int .i64 Mf, .slice A33 x32.length k34]] at hS
  refine WL.done ?_
  refine W.cond2 rfl (fun c39 => ?_) (fun c39 => ?_)
  · have hv := hv.1 (c39)
    refine W.seq ?_
    refine W.region ?_
    refine WL.fieldA (off := 2) Try.fla24_2 rfl rfl ?_
    refine WL.load Try.underlying22 rfl rfl (Own.vcells (hS.own (i := 2) rfl) 2 _ rfl) rfl ?_
    refine WL.assign rfl rfl ?_
    refine WL.done ?_
    refine W.ret ?_
    refine ⟨_, rfl, Fin.nil ?_⟩
    exact ⟨_, hS.ext, (hS.pick [0] rfl).rows, News.of (hS.pick [0] rfl).rows rfl, ⟨x32, A33, k34, rfl, rfl, hv⟩⟩
  · have hv := hv.2 (c39)
    refine W.skip ?_
    refine W.region ?_
    refine WL.move rfl rfl ?_
    obtain ⟨o40, hv⟩ := hv
    refine WL.add (r := (z27 + (1 : Int))) rfl rfl (wr o40) rfl ?_
    refine WL.assign rfl rfl ?_
    refine WL.done ?_
    have hS := hS.freeze (i := 0) rfl
    have hS := hS.pick [0, 2] rfl
    change St _ _ _ _ [.ro 1 A33 x32.length k34 (is x32), .row 24 3 (some ⟨g11, 0, none⟩) 1 1 [.int .i64 Pf, .int .i64 Mf, .slice A33 x32.length k34]] at hS
    exact ⟨(x32, (z27 + (1 : Int)), A33, k34), ⟨rfl, rfl, rfl, trivial⟩, hv.2, rfl, hv.1, hS⟩

def V_Standard (x : Int) (Q : (Int × Int × List Int) × Int → Prop) : Prop :=
  ((x < (2 : Int)) → (Q (((0 : Int), (0 : Int), ([] : List Int)), (6 : Int)))) ∧ (¬ (x < (2 : Int)) → ((((256 : Int) < x) → (Q (((0 : Int), (0 : Int), ([] : List Int)), (6 : Int)))) ∧ (¬ ((256 : Int) < x) → (V_leastDivisor x (fun r18 => ∃ (I25 : Int → Prop) (μ26 : Int → Nat), I25 (1 : Int) ∧ ∀ (z24 : Int), (I25 z24 → (V_order r18 z24 ([] : List Int) (fun r29 => ((r29 < x) → ((I64 (z24 + (1 : Int))) ∧ (I25 (z24 + (1 : Int)) ∧ μ26 (z24 + (1 : Int)) < μ26 z24))) ∧ (¬ (r29 < x) → (V_order r18 z24 ([] : List Int) (fun r34 => ((r34 ≠ x) → (Q (((0 : Int), (0 : Int), ([] : List Int)), (6 : Int)))) ∧ (¬ (r34 ≠ x) → (∃ J41 : List Int → Prop, ((((1 : Int) < z24) → (V_leastMod r18 z24 ([] : List Int) (fun x44 => J41 x44))) ∧ (¬ ((1 : Int) < z24) → (J41 ([] : List Int)))) ∧ ∀ (x37 : List Int), (J41 x37 → (Q ((r18, z24, x37), (0 : Int)))))))))))))))))
theorem ok_Standard {w : World} {Q : (Int × Int × List Int) × Int → Prop} {x : Int}  (hv : V_Standard x Q) :
    Calls Try.prog 28 #[.int .i64 x] w fun e w' => ∃ v Qr, e = .returned v ∧ w.grownBy w' none ∧ Rows w.heap.size none w' Qr ∧ News w.heap.size Qr ∧ ∃ (P M : Int) (x : List Int) (r0 : Int) (A : Option Addr) (c : Nat), v = .tuple #[.agg #[.int .i64 P, .int .i64 M, .slice A x.length c], .int .i64 r0] ∧ Qr = [.row 3 1 A x.length c (is x)] ∧ Q ((P, M, x), r0) := by
  refine calls_swap ?_
  refine calls_of_Wc (vs := [.int .i64 x]) [.cell 2 24, .tmp 3] Try.func28 rfl rfl rfl rfl ?_
  have hS := St.start w
  unfold V_Standard at hv
  refine W.seq ?_
  refine W.region ?_
  refine SL.alloc (cs := [.int .i64 (0 : Int), .int .i64 (0 : Int), .slice none 0 0]) hS Try.el24 rfl rfl ?_
  intro g11 w12 hS
  refine WL.assign rfl rfl ?_
  refine WL.done ?_
  refine W.seq ?_
  refine W.seq ?_
  refine W.region ?_
  refine WL.move rfl rfl ?_
  refine WL.lssD rfl rfl rfl ?_
  refine WL.move rfl rfl ?_
  by_cases g13 : x < (2 : Int)
  · have hv := hv.1 g13
    rw [decide_eq_true g13]
    refine WL.pass rfl rfl rfl ?_
    refine WL.pass rfl rfl rfl ?_
    refine WL.pick rfl rfl rfl ?_
    refine WL.done ?_
    refine W.condT rfl ?_
    refine W.seq ?_
    refine W.region ?_
    refine WL.build (cells := #[.int .i64 (0 : Int), .int .i64 (0 : Int), .slice none 0 0]) Try.bld24 rfl rfl rfl ?_
    refine SL.storeV (cs := [.int .i64 (0 : Int), .int .i64 (0 : Int), .slice none 0 0]) 0 hS rfl Try.el24 rfl rfl rfl rfl rfl ?_
    intro w14 hS
    refine WL.assign rfl rfl ?_
    refine WL.done ?_
    refine W.ret ?_
    have hS := hS.nil (e := 3) (z := 1)
    repeat with_reducible first | refine blk.ret ?_ | refine exits.retI ?_
    refine endC.mk ⟨[.agg #[.int .i64 (0 : Int), .int .i64 (0 : Int), .slice none 0 0], .int .i64 (6 : Int)], ⟨_, _, _, rfl, rfl, run_loadV (cs := [.int .i64 (0 : Int), .int .i64 (0 : Int), .slice none 0 0]) Try.el24 Try.agg24 rfl (Own.vcells (hS.own (i := 1) rfl)), ⟨_, _, rfl, rfl, rfl⟩⟩, ?_⟩
    exact ⟨_, hS.ext, (hS.pick [0] rfl).rows, News.of (hS.pick [0] rfl).rows rfl, ⟨(0 : Int), (0 : Int), ([] : List Int), (6 : Int), none, 0, rfl, rfl, hv⟩⟩
  · have hv := hv.2 g13
    rw [decide_eq_false g13]
    refine WL.take rfl ?_
    refine WL.move rfl rfl ?_
    refine WL.take rfl ?_
    refine WL.gtrD rfl rfl rfl ?_
    refine WL.pick rfl rfl rfl ?_
    refine WL.done ?_
    refine W.cond2 rfl (fun c15 => ?_) (fun c15 => ?_)
    · have hv := hv.1 (of_decide_eq_true c15)
      refine W.seq ?_
      refine W.region ?_
      refine WL.build (cells := #[.int .i64 (0 : Int), .int .i64 (0 : Int), .slice none 0 0]) Try.bld24 rfl rfl rfl ?_
      refine SL.storeV (cs := [.int .i64 (0 : Int), .int .i64 (0 : Int), .slice none 0 0]) 0 hS rfl Try.el24 rfl rfl rfl rfl rfl ?_
      intro w16 hS
      refine WL.assign rfl rfl ?_
      refine WL.done ?_
      refine W.ret ?_
      have hS := hS.nil (e := 3) (z := 1)
      repeat with_reducible first | refine blk.ret ?_ | refine exits.retI ?_
      refine endC.mk ⟨[.agg #[.int .i64 (0 : Int), .int .i64 (0 : Int), .slice none 0 0], .int .i64 (6 : Int)], ⟨_, _, _, rfl, rfl, run_loadV (cs := [.int .i64 (0 : Int), .int .i64 (0 : Int), .slice none 0 0]) Try.el24 Try.agg24 rfl (Own.vcells (hS.own (i := 1) rfl)), ⟨_, _, rfl, rfl, rfl⟩⟩, ?_⟩
      exact ⟨_, hS.ext, (hS.pick [0] rfl).rows, News.of (hS.pick [0] rfl).rows rfl, ⟨(0 : Int), (0 : Int), ([] : List Int), (6 : Int), none, 0, rfl, rfl, hv⟩⟩
    · have hv := hv.2 (of_decide_eq_false c15)
      refine W.skip ?_
      refine W.seq ?_
      refine W.region ?_
      refine WL.move rfl rfl ?_
      refine SL.call hS (ok_leastDivisor  hv) Try.func70 rfl Try.nm70 rfl rfl ?_
      rintro _ _ w17 ⟨r18, rfl, rfl, hv⟩ hGw17 hS
      change St _ _ _ _ [.row 24 3 (some ⟨g11, 0, none⟩) 1 1 [.int .i64 (0 : Int), .int .i64 (0 : Int), .slice none 0 0]] at hS
      refine WL.build (cells := #[.int .i64 r18, .int .i64 (1 : Int), .slice none 0 0]) Try.bld24 rfl rfl rfl ?_
      refine SL.alloc (cs := [.int .i64 (0 : Int), .int .i64 (0 : Int), .slice none 0 0]) hS Try.el24 rfl rfl ?_
      intro g19 w20 hS
      refine SL.storeV (cs := [.int .i64 r18, .int .i64 (1 : Int), .slice none 0 0]) 0 hS rfl Try.el24 rfl rfl rfl rfl rfl ?_
      intro w21 hS
      refine WL.done ?_
      refine W.seq ?_
      refine W.block ?_
      obtain ⟨I25, μ26, hv, hk52⟩ := hv
      change St _ _ _ _ [.row 24 3 (some ⟨g19, 0, none⟩) 1 1 [.int .i64 r18, .int .i64 (1 : Int), .slice none 0 0], .row 24 3 (some ⟨g11, 0, none⟩) 1 1 [.int .i64 (0 : Int), .int .i64 (0 : Int), .slice none 0 0]] at hS
      refine W.loop (σ := Int) (fun z24 w1 => I25 z24 ∧ St TT w none w1 [.row 24 3 (some ⟨g19, 0, none⟩) 1 1 [.int .i64 r18, .int .i64 z24, .slice none 0 0], .row 24 3 (some ⟨g11, 0, none⟩) 1 1 [.int .i64 (0 : Int), .int .i64 (0 : Int), .slice none 0 0]]) (fun z24 => [(0, .int .i64 x), (2, .pointer (some ⟨g11, 0, none⟩)), (3, .int .i64 (0 : Int)), (4, .pointer (some ⟨g19, 0, none⟩))]) (fun z24 => μ26 z24) (1 : Int) ⟨hv, hS⟩ ⟨rfl, rfl, rfl, rfl, trivial⟩ ?_
      rintro z24 w27 ⟨hv, hS⟩
      have hv := hk52 z24 hv
      refine W.seq ?_
      refine W.seq ?_
      refine W.region ?_
      refine WL.loadV (cs := [.int .i64 r18, .int .i64 z24, .slice none 0 0]) Try.el24 Try.agg24 rfl rfl (Own.vcells (hS.own (i := 0) rfl)) rfl ?_
      refine SL.call hS (ok_order (Rd.nilL w27) hv) Try.func61 rfl Try.nm61 rfl rfl ?_
      rintro _ _ w28 ⟨r29, rfl, rfl, hv⟩ hGw28 hS
      change St _ _ _ _ [.row 24 3 (some ⟨g19, 0, none⟩) 1 1 [.int .i64 r18, .int .i64 z24, .slice none 0 0], .row 24 3 (some ⟨g11, 0, none⟩) 1 1 [.int .i64 (0 : Int), .int .i64 (0 : Int), .slice none 0 0]] at hS
      refine WL.move rfl rfl ?_
      refine WL.lssD rfl rfl rfl ?_
      refine WL.done ?_
      refine W.cond2 rfl (fun c30 => ?_) (fun c30 => ?_)
      · have hv := hv.1 (of_decide_eq_true c30)
        refine W.skip ?_
        refine W.block ?_
        refine W.region ?_
        refine WL.fieldA (off := 1) Try.fla24_1 rfl rfl ?_
        refine WL.load Try.underlying3 rfl rfl (Own.vcells (hS.own (i := 0) rfl) 1 _ rfl) rfl ?_
        obtain ⟨o31, hv⟩ := hv
        refine WL.add (r := (z24 + (1 : Int))) rfl rfl (wr o31) rfl ?_
        refine WL.fieldA (off := 1) Try.fla24_1 rfl rfl ?_
        refine SL.store (cs' := [.int .i64 r18, .int .i64 (z24 + (1 : Int)), .slice none 0 0]) 0 1 hS rfl Try.el3 rfl rfl rfl (of_ble rfl) rfl ?_
        intro w32 hS
        refine WL.done ?_
        change St _ _ _ _ [.row 24 3 (some ⟨g19, 0, none⟩) 1 1 [.int .i64 r18, .int .i64 (z24 + (1 : Int)), .slice none 0 0], .row 24 3 (some ⟨g11, 0, none⟩) 1 1 [.int .i64 (0 : Int), .int .i64 (0 : Int), .slice none 0 0]] at hS
        exact ⟨(z24 + (1 : Int)), ⟨rfl, rfl, rfl, rfl, trivial⟩, hv.2, rfl, hv.1, hS⟩
      · have hv := hv.2 (of_decide_eq_false c30)
        refine W.exit ?_
        refine W.seq ?_
        refine W.seq ?_
        refine W.region ?_
        refine WL.loadV (cs := [.int .i64 r18, .int .i64 z24, .slice none 0 0]) Try.el24 Try.agg24 rfl rfl (Own.vcells (hS.own (i := 0) rfl)) rfl ?_
        refine SL.call hS (ok_order (Rd.nilL w28) hv) Try.func61 rfl Try.nm61 rfl rfl ?_
        rintro _ _ w33 ⟨r34, rfl, rfl, hv⟩ hGw33 hS
        change St _ _ _ _ [.row 24 3 (some ⟨g19, 0, none⟩) 1 1 [.int .i64 r18, .int .i64 z24, .slice none 0 0], .row 24 3 (some ⟨g11, 0, none⟩) 1 1 [.int .i64 (0 : Int), .int .i64 (0 : Int), .slice none 0 0]] at hS
        refine WL.move rfl rfl ?_
        refine WL.neqD rfl rfl rfl ?_
        refine WL.done ?_
        refine W.cond2 rfl (fun c35 => ?_) (fun c35 => ?_)
        · have hv := hv.1 (of_decide_eq_true c35)
          refine W.seq ?_
          refine W.region ?_
          refine WL.build (cells := #[.int .i64 (0 : Int), .int .i64 (0 : Int), .slice none 0 0]) Try.bld24 rfl rfl rfl ?_
          refine SL.storeV (cs := [.int .i64 (0 : Int), .int .i64 (0 : Int), .slice none 0 0]) 1 hS rfl Try.el24 rfl rfl rfl rfl rfl ?_
          intro w36 hS
          refine WL.assign rfl rfl ?_
          refine WL.done ?_
          refine W.ret ?_
          have hS := hS.nil (e := 3) (z := 1)
          repeat with_reducible first | refine blk.ret ?_ | refine exits.retI ?_
          refine endC.mk ⟨[.agg #[.int .i64 (0 : Int), .int .i64 (0 : Int), .slice none 0 0], .int .i64 (6 : Int)], ⟨_, _, _, rfl, rfl, run_loadV (cs := [.int .i64 (0 : Int), .int .i64 (0 : Int), .slice none 0 0]) Try.el24 Try.agg24 rfl (Own.vcells (hS.own (i := 2) rfl)), ⟨_, _, rfl, rfl, rfl⟩⟩, ?_⟩
          exact ⟨_, hS.ext, (hS.pick [0] rfl).rows, News.of (hS.pick [0] rfl).rows rfl, ⟨(0 : Int), (0 : Int), ([] : List Int), (6 : Int), none, 0, rfl, rfl, hv⟩⟩
        · have hv := hv.2 (of_decide_eq_false c35)
          refine W.skip ?_
          refine W.seq ?_
          refine W.seq ?_
          refine W.region ?_
          refine WL.fieldA (off := 1) Try.fla24_1 rfl rfl ?_
          refine WL.load Try.underlying3 rfl rfl (Own.vcells (hS.own (i := 0) rfl) 1 _ rfl) rfl ?_
          refine WL.gtrD rfl rfl rfl ?_
          refine WL.done ?_
          obtain ⟨J41, hv, hk51⟩ := hv
          refine W.cutN (σ := List Int × Option Addr × Nat) (fun q w1 => match q with | (x37, A38, k39) => J41 x37 ∧ St TT w none w1 [.row 3 1 A38 x37.length k39 (is x37), .row 24 3 (some ⟨g19, 0, none⟩) 1 1 [.int .i64 r18, .int .i64 z24, .slice A38 x37.length k39], .row 24 3 (some ⟨g11, 0, none⟩) 1 1 [.int .i64 (0 : Int), .int .i64 (0 : Int), .slice none 0 0]]) (fun q => match q with | (x37, A38, k39) => [(2, .pointer (some ⟨g11, 0, none⟩)), (3, .int .i64 (0 : Int)), (4, .pointer (some ⟨g19, 0, none⟩))]) ?_ ?_
          · refine W.cond2 rfl (fun c42 => ?_) (fun c42 => ?_)
            · have hv := hv.1 (of_decide_eq_true c42)
              refine W.region ?_
              refine WL.loadV (cs := [.int .i64 r18, .int .i64 z24, .slice none 0 0]) Try.el24 Try.agg24 rfl rfl (Own.vcells (hS.own (i := 0) rfl)) rfl ?_
              refine SL.call hS (ok_leastMod (Rd.nilL w33) hv) Try.func71 rfl Try.nm71 rfl rfl ?_
              rintro _ _ w43 ⟨x44, A45, k46, rfl, rfl, hv⟩ hGw43 hS
              change St _ _ _ _ [.row 3 1 A45 x44.length k46 (is x44), .row 24 3 (some ⟨g19, 0, none⟩) 1 1 [.int .i64 r18, .int .i64 z24, .slice none 0 0], .row 24 3 (some ⟨g11, 0, none⟩) 1 1 [.int .i64 (0 : Int), .int .i64 (0 : Int), .slice none 0 0]] at hS
              refine WL.fieldA (off := 2) Try.fla24_2 rfl rfl ?_
              refine SL.store (cs' := [.int .i64 r18, .int .i64 z24, .slice A45 x44.length k46]) 1 2 hS rfl Try.el22 rfl rfl rfl (of_ble rfl) rfl ?_
              intro w48 hS
              refine WL.done ?_
              change St _ _ _ _ [.row 3 1 A45 x44.length k46 (is x44), .row 24 3 (some ⟨g19, 0, none⟩) 1 1 [.int .i64 r18, .int .i64 z24, .slice A45 x44.length k46], .row 24 3 (some ⟨g11, 0, none⟩) 1 1 [.int .i64 (0 : Int), .int .i64 (0 : Int), .slice none 0 0]] at hS
              exact ⟨(x44, A45, k46), ⟨rfl, rfl, rfl, trivial⟩, rfl, hv, hS⟩
            · have hv := hv.2 (of_decide_eq_false c42)
              refine W.skip ?_
              have hS := hS.nil (e := 3) (z := 1)
              have hm0 : 0 = ([] : List Int).length := (hS.rd (i := 0) rfl).ilen.symm
              have hS := hS.relen (i := 0) rfl hm0
              change St _ _ _ _ [.row 3 1 none ([] : List Int).length 0 (is ([] : List Int)), .row 24 3 (some ⟨g19, 0, none⟩) 1 1 [.int .i64 r18, .int .i64 z24, .slice none ([] : List Int).length 0], .row 24 3 (some ⟨g11, 0, none⟩) 1 1 [.int .i64 (0 : Int), .int .i64 (0 : Int), .slice none 0 0]] at hS
              exact ⟨(([] : List Int), none, 0), ⟨rfl, rfl, rfl, trivial⟩, rfl, hv, hS⟩
          · rintro ⟨x37, A38, k39⟩ w49 ⟨hv, hS⟩
            have hv := hk51 x37 hv
            refine W.seq ?_
            refine W.region ?_
            refine WL.loadV (cs := [.int .i64 r18, .int .i64 z24, .slice A38 x37.length k39]) Try.el24 Try.agg24 rfl rfl (Own.vcells (hS.own (i := 1) rfl)) rfl ?_
            refine SL.storeV (cs := [.int .i64 r18, .int .i64 z24, .slice A38 x37.length k39]) 2 hS rfl Try.el24 rfl rfl rfl rfl rfl ?_
            intro w50 hS
            refine WL.assign rfl rfl ?_
            refine WL.done ?_
            refine W.ret ?_
            repeat with_reducible first | refine blk.ret ?_ | refine exits.retI ?_
            refine endC.mk ⟨[.agg #[.int .i64 r18, .int .i64 z24, .slice A38 x37.length k39], .int .i64 (0 : Int)], ⟨_, _, _, rfl, rfl, run_loadV (cs := [.int .i64 r18, .int .i64 z24, .slice A38 x37.length k39]) Try.el24 Try.agg24 rfl (Own.vcells (hS.own (i := 2) rfl)), ⟨_, _, rfl, rfl, rfl⟩⟩, ?_⟩
            exact ⟨_, hS.ext, (hS.pick [0] rfl).rows, News.of (hS.pick [0] rfl).rows rfl, ⟨r18, z24, x37, (0 : Int), A38, k39, rfl, rfl, hv⟩⟩
end Go.Proofs.Ytinibbfpdbddpaa
