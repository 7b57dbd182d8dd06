/- Contracts of functions of the program, and what they lean on: D5, D6. -/
import Derived.Test.YtmdigamgojfjdaaPolyCanonG4
set_option linter.unusedSimpArgs false
set_option linter.unusedVariables false
namespace Go.Proofs.Ytmdigamgojfjdaa
open Go.RowKit
def V_Is (Fg : GFv) (x : Int) (Q : Bool → Prop) : Prop :=
  (((0 : Int) ≤ x) → (Q (decide (x < Fg.q)))) ∧ (¬ ((0 : Int) ≤ x) → Q false)
theorem ok_Is {w : World} {Q : Bool → Prop} {Fg : GFv} {x : Int} {ag : Addr} {Bg : Nat} (hgg : GFR Bg w ag Fg) (hv : V_Is Fg x Q) :
    Calls Try.prog 96 #[.pointer (some ag), .int .i64 x] w fun e w' => ∃ v Qr, e = .returned v ∧ w.grownBy w' none ∧ Rows w.heap.size none w' Qr ∧ News w.heap.size Qr ∧ ∃ (r0 : Bool), v = .bool r0 ∧ Qr = [] ∧ Q r0 := by
  have hgg_ := hgg
  obtain ⟨Ag_mod, kg_mod, Ag_exp, kg_exp, Ag_log, kg_log, Ag_above, kg_above, hg_c, hg_mod, hg_exp, hg_log, hg_above⟩ := hgg_
  refine calls_swap ?_
  refine calls_of_W (vs := [.pointer (some ag), .int .i64 x]) [4] Try.func96 rfl rfl rfl rfl ?_
  have hS := St.start w
  unfold V_Is at hv
  refine W.seq ?_
  refine W.region ?_
  refine WL.assign rfl rfl ?_
  refine WL.done ?_
  refine W.seq ?_
  refine W.region ?_
  refine WL.move rfl rfl ?_
  refine WL.geqD rfl rfl rfl ?_
  refine WL.move rfl rfl ?_
  by_cases g11 : (0 : Int) ≤ x
  · have hv := hv.1 g11
    rw [decide_eq_true g11]
    refine WL.take rfl ?_
    refine WL.move rfl rfl ?_
    refine WL.take rfl ?_
    refine WL.move rfl rfl ?_
    refine WL.take rfl ?_
    refine WL.nilCheck rfl rfl ?_
    refine WL.take rfl ?_
    refine WL.fieldA (off := 3) Try.fla94_1 rfl rfl ?_
    refine WL.take rfl ?_
    refine WL.load Try.underlying3 rfl rfl (Rd.at_ (hS.ro hg_c) (j := 3) rfl) rfl ?_
    refine WL.take rfl ?_
    refine WL.lssD rfl rfl rfl ?_
    refine WL.pick rfl rfl rfl ?_
    refine WL.assign rfl rfl ?_
    refine WL.done ?_
    refine W.ret ?_
    refine ⟨_, rfl, Fin.nil ?_⟩
    exact ⟨_, hS.ext, (hS.pick [] rfl).rows, News.of (hS.pick [] rfl).rows rfl, ⟨(decide (x < Fg.q)), rfl, rfl, hv⟩⟩
  · have hv := hv.2 g11
    rw [decide_eq_false g11]
    refine WL.pass rfl rfl rfl ?_
    refine WL.pass rfl rfl rfl ?_
    refine WL.pass rfl rfl rfl ?_
    refine WL.pass rfl rfl rfl ?_
    refine WL.pass rfl rfl rfl ?_
    refine WL.pass rfl rfl rfl ?_
    refine WL.pick rfl rfl rfl ?_
    refine WL.assign rfl rfl ?_
    refine WL.done ?_
    refine W.ret ?_
    refine ⟨_, rfl, Fin.nil ?_⟩
    exact ⟨_, hS.ext, (hS.pick [] rfl).rows, News.of (hS.pick [] rfl).rows rfl, ⟨false, rfl, rfl, hv⟩⟩

def V_isUnit (Fg : GFv) (x : Int) (Q : Bool → Prop) : Prop :=
  (((0 : Int) < x) → (Q (decide (x < Fg.q)))) ∧ (¬ ((0 : Int) < x) → Q false)
theorem ok_isUnit {w : World} {Q : Bool → Prop} {Fg : GFv} {x : Int} {ag : Addr} {Bg : Nat} (hgg : GFR Bg w ag Fg) (hv : V_isUnit Fg x Q) :
    Calls Try.prog 99 #[.pointer (some ag), .int .i64 x] w fun e w' => ∃ v Qr, e = .returned v ∧ w.grownBy w' none ∧ Rows w.heap.size none w' Qr ∧ News w.heap.size Qr ∧ ∃ (r0 : Bool), v = .bool r0 ∧ Qr = [] ∧ Q r0 := by
  have hgg_ := hgg
  obtain ⟨Ag_mod, kg_mod, Ag_exp, kg_exp, Ag_log, kg_log, Ag_above, kg_above, hg_c, hg_mod, hg_exp, hg_log, hg_above⟩ := hgg_
  refine calls_swap ?_
  refine calls_of_W (vs := [.pointer (some ag), .int .i64 x]) [4] Try.func99 rfl rfl rfl rfl ?_
  have hS := St.start w
  unfold V_isUnit at hv
  refine W.seq ?_
  refine W.region ?_
  refine WL.assign rfl rfl ?_
  refine WL.done ?_
  refine W.seq ?_
  refine W.region ?_
  refine WL.move rfl rfl ?_
  refine WL.gtrD rfl rfl rfl ?_
  refine WL.move rfl rfl ?_
  by_cases g11 : (0 : Int) < x
  · have hv := hv.1 g11
    rw [decide_eq_true g11]
    refine WL.take rfl ?_
    refine WL.move rfl rfl ?_
    refine WL.take rfl ?_
    refine WL.move rfl rfl ?_
    refine WL.take rfl ?_
    refine WL.nilCheck rfl rfl ?_
    refine WL.take rfl ?_
    refine WL.fieldA (off := 3) Try.fla94_1 rfl rfl ?_
    refine WL.take rfl ?_
    refine WL.load Try.underlying3 rfl rfl (Rd.at_ (hS.ro hg_c) (j := 3) rfl) rfl ?_
    refine WL.take rfl ?_
    refine WL.lssD rfl rfl rfl ?_
    refine WL.pick rfl rfl rfl ?_
    refine WL.assign rfl rfl ?_
    refine WL.done ?_
    refine W.ret ?_
    refine ⟨_, rfl, Fin.nil ?_⟩
    exact ⟨_, hS.ext, (hS.pick [] rfl).rows, News.of (hS.pick [] rfl).rows rfl, ⟨(decide (x < Fg.q)), rfl, rfl, hv⟩⟩
  · have hv := hv.2 g11
    rw [decide_eq_false g11]
    refine WL.pass rfl rfl rfl ?_
    refine WL.pass rfl rfl rfl ?_
    refine WL.pass rfl rfl rfl ?_
    refine WL.pass rfl rfl rfl ?_
    refine WL.pass rfl rfl rfl ?_
    refine WL.pass rfl rfl rfl ?_
    refine WL.pick rfl rfl rfl ?_
    refine WL.assign rfl rfl ?_
    refine WL.done ?_
    refine W.ret ?_
    refine ⟨_, rfl, Fin.nil ?_⟩
    exact ⟨_, hS.ext, (hS.pick [] rfl).rows, News.of (hS.pick [] rfl).rows rfl, ⟨false, rfl, rfl, hv⟩⟩

def V_element (Fg : GFv) (x : Int) (Q : Int → Prop) : Prop :=
  V_Is Fg x (fun r12 => ((r12 = true) → Q x) ∧ (r12 = false → (Q (0 : Int))))
theorem ok_element {w : World} {Q : Int → Prop} {Fg : GFv} {x : Int} {ag : Addr} {Bg : Nat} (hgg : GFR Bg w ag Fg) (hv : V_element Fg x Q) :
    Calls Try.prog 98 #[.pointer (some ag), .int .i64 x] w fun e w' => ∃ v Qr, e = .returned v ∧ w.grownBy w' none ∧ Rows w.heap.size none w' Qr ∧ News w.heap.size Qr ∧ ∃ (r0 : Int), v = .int .i64 r0 ∧ Qr = [] ∧ Q r0 := by
  have hgg_ := hgg
  obtain ⟨Ag_mod, kg_mod, Ag_exp, kg_exp, Ag_log, kg_log, Ag_above, kg_above, hg_c, hg_mod, hg_exp, hg_log, hg_above⟩ := hgg_
  refine calls_swap ?_
  refine calls_of_W (vs := [.pointer (some ag), .int .i64 x]) [4] Try.func98 rfl rfl rfl rfl ?_
  have hS := St.start w
  unfold V_element at hv
  refine W.seq ?_
  refine W.region ?_
  refine WL.assign rfl rfl ?_
  refine WL.done ?_
  refine W.seq ?_
  refine W.seq ?_
  refine W.region ?_
  refine WL.move rfl rfl ?_
  refine WL.move rfl rfl ?_
  refine SL.call hS (ok_Is (GFR.ext (GFR.norm hgg) hS.ext) hv) Try.func96 rfl Try.nm96 rfl rfl ?_
  rintro _ _ w11 ⟨r12, rfl, rfl, hv⟩ hGw11 hS
  change St _ _ _ _ [] at hS
  refine WL.done ?_
  refine W.cond2 rfl (fun c13 => ?_) (fun c13 => ?_)
  · have hv := hv.1 (c13)
    refine W.seq ?_
    refine W.region ?_
    refine WL.move rfl rfl ?_
    refine WL.assign rfl rfl ?_
    refine WL.done ?_
    refine W.ret ?_
    refine ⟨_, rfl, Fin.nil ?_⟩
    exact ⟨_, hS.ext, (hS.pick [] rfl).rows, News.of (hS.pick [] rfl).rows rfl, ⟨x, rfl, rfl, hv⟩⟩
  · have hv := hv.2 (c13)
    refine W.skip ?_
    refine W.seq ?_
    refine W.region ?_
    refine WL.assign rfl rfl ?_
    refine WL.done ?_
    refine W.ret ?_
    refine ⟨_, rfl, Fin.nil ?_⟩
    exact ⟨_, hS.ext, (hS.pick [] rfl).rows, News.of (hS.pick [] rfl).rows rfl, ⟨(0 : Int), rfl, rfl, hv⟩⟩

def V_Mul (Fg : GFv) (x : Int) (y : Int) (Q : Int → Prop) : Prop :=
  V_isUnit Fg x (fun r12 => (((!r12) = true) → (Q (0 : Int))) ∧ ((!r12) = false → (V_isUnit Fg y (fun r15 => (((!r15) = true) → (Q (0 : Int))) ∧ ((!r15) = false → ((0 ≤ x ∧ x < (Fg.log.length : Nat)) ∧ ((0 ≤ y ∧ y < (Fg.log.length : Nat)) ∧ ((I64 ((gi Fg.log x) + (gi Fg.log y))) ∧ ((0 ≤ ((gi Fg.log x) + (gi Fg.log y)) ∧ ((gi Fg.log x) + (gi Fg.log y)) < (Fg.exp.length : Nat)) ∧ (Q (gi Fg.exp ((gi Fg.log x) + (gi Fg.log y)))))))))))))
theorem ok_Mul {w : World} {Q : Int → Prop} {Fg : GFv} {x : Int} {y : Int} {ag : Addr} {Bg : Nat} (hgg : GFR Bg w ag Fg) (hv : V_Mul Fg x y Q) :
    Calls Try.prog 74 #[.pointer (some ag), .int .i64 x, .int .i64 y] w fun e w' => ∃ v Qr, e = .returned v ∧ w.grownBy w' none ∧ Rows w.heap.size none w' Qr ∧ News w.heap.size Qr ∧ ∃ (r0 : Int), v = .int .i64 r0 ∧ Qr = [] ∧ Q r0 := by
  have hgg_ := hgg
  obtain ⟨Ag_mod, kg_mod, Ag_exp, kg_exp, Ag_log, kg_log, Ag_above, kg_above, hg_c, hg_mod, hg_exp, hg_log, hg_above⟩ := hgg_
  refine calls_swap ?_
  refine calls_of_W (vs := [.pointer (some ag), .int .i64 x, .int .i64 y]) [6] Try.func74 rfl rfl rfl rfl ?_
  have hS := St.start w
  unfold V_Mul at hv
  refine W.seq ?_
  refine W.region ?_
  refine WL.assign rfl rfl ?_
  refine WL.done ?_
  refine W.seq ?_
  refine W.seq ?_
  refine W.region ?_
  refine WL.move rfl rfl ?_
  refine WL.move rfl rfl ?_
  refine SL.call hS (ok_isUnit (GFR.ext (GFR.norm hgg) hS.ext) hv) Try.func99 rfl Try.nm99 rfl rfl ?_
  rintro _ _ w11 ⟨r12, rfl, rfl, hv⟩ hGw11 hS
  change St _ _ _ _ [] at hS
  refine WL.not rfl rfl ?_
  refine WL.move rfl rfl ?_
  rcases g13 : (!r12) with _ | _
  · have hv := hv.2 g13
    refine WL.take rfl ?_
    refine WL.move rfl rfl ?_
    refine WL.take rfl ?_
    refine WL.move rfl rfl ?_
    refine WL.take rfl ?_
    refine SL.call hS (ok_isUnit (GFR.ext (GFR.norm hgg) hS.ext) hv) Try.func99 rfl Try.nm99 rfl rfl ?_
    rintro _ _ w14 ⟨r15, rfl, rfl, hv⟩ hGw14 hS
    change St _ _ _ _ [] at hS
    refine WL.take rfl ?_
    refine WL.not rfl rfl ?_
    refine WL.pick rfl rfl rfl ?_
    refine WL.done ?_
    refine W.cond2 rfl (fun c16 => ?_) (fun c16 => ?_)
    · have hv := hv.1 (c16)
      refine W.seq ?_
      refine W.region ?_
      refine WL.assign rfl rfl ?_
      refine WL.done ?_
      refine W.ret ?_
      refine ⟨_, rfl, Fin.nil ?_⟩
      exact ⟨_, hS.ext, (hS.pick [] rfl).rows, News.of (hS.pick [] rfl).rows rfl, ⟨(0 : Int), rfl, rfl, hv⟩⟩
    · have hv := hv.2 (c16)
      refine W.skip ?_
      refine W.seq ?_
      obtain ⟨o27, hv⟩ := hv
      obtain ⟨o35, hv⟩ := hv
      obtain ⟨o38, hv⟩ := hv
      obtain ⟨o40, hv⟩ := hv
      have hS0 := hS
      refine W.drawX 22 (fun _ => false) (fun _ => none) [⟨[], [0], true⟩, ⟨[0], [], true⟩, ⟨[1], [], true⟩, ⟨[2], [], false⟩, ⟨[], [0], true⟩, ⟨[4], [], true⟩, ⟨[5], [], true⟩, ⟨[6], [], false⟩, ⟨[], [1], true⟩, ⟨[7, 8], [], true⟩, ⟨[9], [], false⟩, ⟨[], [0], true⟩, ⟨[11], [], true⟩, ⟨[12], [], true⟩, ⟨[13], [], false⟩, ⟨[], [2], true⟩, ⟨[14, 15], [], true⟩, ⟨[16], [], false⟩, ⟨[10, 17], [], true⟩, ⟨[3, 18], [], true⟩, ⟨[19], [], false⟩, ⟨[20], [], true⟩] [[(0, .pointer (some ag))], [], [], [], [(0, .pointer (some ag))], [], [], [], [(1, .int .i64 x)], [], [], [(0, .pointer (some ag))], [], [], [], [(2, .int .i64 y)], [], [], [], [], [], []] (fun iQ => [fun v _ => v = .pointer (some ag), fun v _ => v = .pointer (some ag), fun v _ => v = .pointer (some (ag.add 4)), fun v _ => v = .slice Ag_exp Fg.exp.length kg_exp, fun v _ => v = .pointer (some ag), fun v _ => v = .pointer (some ag), fun v _ => v = .pointer (some (ag.add 5)), fun v _ => v = .slice Ag_log Fg.log.length kg_log, fun v _ => v = .int .i64 x, fun v _ => v = .pointer (some ((adOf Ag_log).add x.toNat)), fun v _ => v = .int .i64 (gi Fg.log x), fun v _ => v = .pointer (some ag), fun v _ => v = .pointer (some ag), fun v _ => v = .pointer (some (ag.add 5)), fun v _ => v = .slice Ag_log Fg.log.length kg_log, fun v _ => v = .int .i64 y, fun v _ => v = .pointer (some ((adOf Ag_log).add y.toNat)), fun v _ => v = .int .i64 (gi Fg.log y), fun v _ => v = .int .i64 ((gi Fg.log x) + (gi Fg.log y)), fun v _ => v = .pointer (some ((adOf Ag_exp).add (((gi Fg.log x) + (gi Fg.log y)).toNat))), fun v _ => v = .int .i64 (gi Fg.exp ((gi Fg.log x) + (gi Fg.log y))), fun v _ => v = .int .i64 (gi Fg.exp ((gi Fg.log x) + (gi Fg.log y)))].getD iQ (fun _ _ => True)) Try.mixed (by kernel_rfl) ?_ (by kernel_rfl) ?_ ?_
      · refine Vs_monoT _ ?_
        intro VQ hVQ vQ wQ1 wQ2 hQ1 hQ2
        simp only [List.mem_cons, List.not_mem_nil, or_false] at hVQ
        rcases hVQ with rfl | rfl | rfl | rfl | rfl | rfl | rfl | rfl | rfl | rfl | rfl | rfl | rfl | rfl | rfl | rfl | rfl | rfl | rfl | rfl | rfl | rfl
        · exact hQ1
        · exact hQ1
        · exact hQ1
        · exact hQ1
        · exact hQ1
        · exact hQ1
        · exact hQ1
        · exact hQ1
        · exact hQ1
        · exact hQ1
        · exact hQ1
        · exact hQ1
        · exact hQ1
        · exact hQ1
        · exact hQ1
        · exact hQ1
        · exact hQ1
        · exact hQ1
        · exact hQ1
        · exact hQ1
        · exact hQ1
        · exact hQ1
      · refine ⟨⟨rfl, ⟨rfl, trivial⟩, ?_⟩, ⟨rfl, trivial, ?_⟩, ⟨rfl, trivial, ?_⟩, ⟨rfl, trivial, ?_⟩, ⟨rfl, ⟨rfl, trivial⟩, ?_⟩, ⟨rfl, trivial, ?_⟩, ⟨rfl, trivial, ?_⟩, ⟨rfl, trivial, ?_⟩, ⟨rfl, ⟨rfl, trivial⟩, ?_⟩, ⟨rfl, trivial, ?_⟩, ⟨rfl, trivial, ?_⟩, ⟨rfl, ⟨rfl, trivial⟩, ?_⟩, ⟨rfl, trivial, ?_⟩, ⟨rfl, trivial, ?_⟩, ⟨rfl, trivial, ?_⟩, ⟨rfl, ⟨rfl, trivial⟩, ?_⟩, ⟨rfl, trivial, ?_⟩, ⟨rfl, trivial, ?_⟩, ⟨rfl, trivial, ?_⟩, ⟨rfl, trivial, ?_⟩, ⟨rfl, trivial, ?_⟩, ⟨rfl, trivial, ?_⟩, trivial⟩
        · intro w17 hE
          intro RR
          refine WL.move rfl rfl ?_
          exact WL.done ⟨_, rfl, rfl, rfl, (fun h => absurd h (by decide)), (fun j h => by cases h)⟩
        · intro w18 hE
          rintro _ rfl
          intro RR
          refine WL.nilCheck rfl rfl ?_
          exact WL.done ⟨_, rfl, rfl, rfl, (fun h => absurd h (by decide)), (fun j h => by cases h)⟩
        · intro w19 hE
          rintro _ rfl
          intro RR
          refine WL.fieldA (off := 4) Try.fla94_2 rfl rfl ?_
          exact WL.done ⟨_, rfl, rfl, rfl, (fun h => absurd h (by decide)), (fun j h => by cases h)⟩
        · intro w20 hE
          have hE := hE rfl
          have hS := hS.grow hE
          rintro _ rfl
          intro RR
          refine WL.load Try.underlying22 rfl rfl (Rd.at_ (hS.ro hg_c) (j := 4) rfl) rfl ?_
          exact WL.done ⟨_, rfl, ext_refl _, rfl, (fun h => absurd h (by decide)), (fun j h => by cases h)⟩
        · intro w21 hE
          intro RR
          refine WL.move rfl rfl ?_
          exact WL.done ⟨_, rfl, rfl, rfl, (fun h => absurd h (by decide)), (fun j h => by cases h)⟩
        · intro w22 hE
          rintro _ rfl
          intro RR
          refine WL.nilCheck rfl rfl ?_
          exact WL.done ⟨_, rfl, rfl, rfl, (fun h => absurd h (by decide)), (fun j h => by cases h)⟩
        · intro w23 hE
          rintro _ rfl
          intro RR
          refine WL.fieldA (off := 5) Try.fla94_3 rfl rfl ?_
          exact WL.done ⟨_, rfl, rfl, rfl, (fun h => absurd h (by decide)), (fun j h => by cases h)⟩
        · intro w24 hE
          have hE := hE rfl
          have hS := hS.grow hE
          rintro _ rfl
          intro RR
          refine WL.load Try.underlying22 rfl rfl (Rd.at_ (hS.ro hg_c) (j := 5) rfl) rfl ?_
          exact WL.done ⟨_, rfl, ext_refl _, rfl, (fun h => absurd h (by decide)), (fun j h => by cases h)⟩
        · intro w25 hE
          intro RR
          refine WL.move rfl rfl ?_
          exact WL.done ⟨_, rfl, rfl, rfl, (fun h => absurd h (by decide)), (fun j h => by cases h)⟩
        · intro w26 hE
          rintro _ rfl
          rintro _ rfl
          intro RR
          refine SL.index Try.underlying22 Try.el3 (hS.ro hg_log) rfl rfl o27 rfl ?_
          exact WL.done ⟨_, rfl, rfl, rfl, (fun h => absurd h (by decide)), (fun j h => by cases h)⟩
        · intro w28 hE
          have hE := hE rfl
          have hS := hS.grow hE
          rintro _ rfl
          intro RR
          refine WL.load Try.underlying3 rfl rfl (Rd.gi (hS.ro hg_log) o27) rfl ?_
          exact WL.done ⟨_, rfl, ext_refl _, rfl, (fun h => absurd h (by decide)), (fun j h => by cases h)⟩
        · intro w29 hE
          intro RR
          refine WL.move rfl rfl ?_
          exact WL.done ⟨_, rfl, rfl, rfl, (fun h => absurd h (by decide)), (fun j h => by cases h)⟩
        · intro w30 hE
          rintro _ rfl
          intro RR
          refine WL.nilCheck rfl rfl ?_
          exact WL.done ⟨_, rfl, rfl, rfl, (fun h => absurd h (by decide)), (fun j h => by cases h)⟩
        · intro w31 hE
          rintro _ rfl
          intro RR
          refine WL.fieldA (off := 5) Try.fla94_3 rfl rfl ?_
          exact WL.done ⟨_, rfl, rfl, rfl, (fun h => absurd h (by decide)), (fun j h => by cases h)⟩
        · intro w32 hE
          have hE := hE rfl
          have hS := hS.grow hE
          rintro _ rfl
          intro RR
          refine WL.load Try.underlying22 rfl rfl (Rd.at_ (hS.ro hg_c) (j := 5) rfl) rfl ?_
          exact WL.done ⟨_, rfl, ext_refl _, rfl, (fun h => absurd h (by decide)), (fun j h => by cases h)⟩
        · intro w33 hE
          intro RR
          refine WL.move rfl rfl ?_
          exact WL.done ⟨_, rfl, rfl, rfl, (fun h => absurd h (by decide)), (fun j h => by cases h)⟩
        · intro w34 hE
          rintro _ rfl
          rintro _ rfl
          intro RR
          refine SL.index Try.underlying22 Try.el3 (hS.ro hg_log) rfl rfl o35 rfl ?_
          exact WL.done ⟨_, rfl, rfl, rfl, (fun h => absurd h (by decide)), (fun j h => by cases h)⟩
        · intro w36 hE
          have hE := hE rfl
          have hS := hS.grow hE
          rintro _ rfl
          intro RR
          refine WL.load Try.underlying3 rfl rfl (Rd.gi (hS.ro hg_log) o35) rfl ?_
          exact WL.done ⟨_, rfl, ext_refl _, rfl, (fun h => absurd h (by decide)), (fun j h => by cases h)⟩
        · intro w37 hE
          rintro _ rfl
          rintro _ rfl
          intro RR
          refine WL.add (r := ((gi Fg.log x) + (gi Fg.log y))) rfl rfl (wr o38) rfl ?_
          exact WL.done ⟨_, rfl, rfl, rfl, (fun h => absurd h (by decide)), (fun j h => by cases h)⟩
        · intro w39 hE
          rintro _ rfl
          rintro _ rfl
          intro RR
          refine SL.index Try.underlying22 Try.el3 (hS.ro hg_exp) rfl rfl o40 rfl ?_
          exact WL.done ⟨_, rfl, rfl, rfl, (fun h => absurd h (by decide)), (fun j h => by cases h)⟩
        · intro w41 hE
          have hE := hE rfl
          have hS := hS.grow hE
          rintro _ rfl
          intro RR
          refine WL.load Try.underlying3 rfl rfl (Rd.gi (hS.ro hg_exp) o40) rfl ?_
          exact WL.done ⟨_, rfl, ext_refl _, rfl, (fun h => absurd h (by decide)), (fun j h => by cases h)⟩
        · intro w42 hE
          rintro _ rfl
          intro RR
          refine WL.assign rfl rfl ?_
          exact WL.done ⟨_, rfl, rfl, rfl, (fun h => absurd h (by decide)), (fun j h => by cases h)⟩
      · intro vals w43 hT hVs hAp hCp
        have hS := hS.grow hT
        have hv0 : vals 0 = _ := hVs 0 (by decide)
        have hv1 : vals 1 = _ := hVs 1 (by decide)
        have hv2 : vals 2 = _ := hVs 2 (by decide)
        have hv3 : vals 3 = _ := hVs 3 (by decide)
        have hv4 : vals 4 = _ := hVs 4 (by decide)
        have hv5 : vals 5 = _ := hVs 5 (by decide)
        have hv6 : vals 6 = _ := hVs 6 (by decide)
        have hv7 : vals 7 = _ := hVs 7 (by decide)
        have hv8 : vals 8 = _ := hVs 8 (by decide)
        have hv9 : vals 9 = _ := hVs 9 (by decide)
        have hv10 : vals 10 = _ := hVs 10 (by decide)
        have hv11 : vals 11 = _ := hVs 11 (by decide)
        have hv12 : vals 12 = _ := hVs 12 (by decide)
        have hv13 : vals 13 = _ := hVs 13 (by decide)
        have hv14 : vals 14 = _ := hVs 14 (by decide)
        have hv15 : vals 15 = _ := hVs 15 (by decide)
        have hv16 : vals 16 = _ := hVs 16 (by decide)
        have hv17 : vals 17 = _ := hVs 17 (by decide)
        have hv18 : vals 18 = _ := hVs 18 (by decide)
        have hv19 : vals 19 = _ := hVs 19 (by decide)
        have hv20 : vals 20 = _ := hVs 20 (by decide)
        have hv21 : vals 21 = _ := hVs 21 (by decide)
        rw [show (List.filterMap (fun i => Option.map (fun t => (t, vals i)) (dstAt _ i)) (List.range _)) = [(17, .pointer (some ag)), (18, .pointer (some ag)), (19, .pointer (some (ag.add 4))), (20, .slice Ag_exp Fg.exp.length kg_exp), (21, .pointer (some ag)), (22, .pointer (some ag)), (23, .pointer (some (ag.add 5))), (24, .slice Ag_log Fg.log.length kg_log), (25, .int .i64 x), (26, .pointer (some ((adOf Ag_log).add x.toNat))), (27, .int .i64 (gi Fg.log x)), (28, .pointer (some ag)), (29, .pointer (some ag)), (30, .pointer (some (ag.add 5))), (31, .slice Ag_log Fg.log.length kg_log), (32, .int .i64 y), (33, .pointer (some ((adOf Ag_log).add y.toNat))), (34, .int .i64 (gi Fg.log y)), (35, .int .i64 ((gi Fg.log x) + (gi Fg.log y))), (36, .pointer (some ((adOf Ag_exp).add (((gi Fg.log x) + (gi Fg.log y)).toNat)))), (37, .int .i64 (gi Fg.exp ((gi Fg.log x) + (gi Fg.log y)))), (6, .int .i64 (gi Fg.exp ((gi Fg.log x) + (gi Fg.log y))))] from by
          show [(17, vals 0), (18, vals 1), (19, vals 2), (20, vals 3), (21, vals 4), (22, vals 5), (23, vals 6), (24, vals 7), (25, vals 8), (26, vals 9), (27, vals 10), (28, vals 11), (29, vals 12), (30, vals 13), (31, vals 14), (32, vals 15), (33, vals 16), (34, vals 17), (35, vals 18), (36, vals 19), (37, vals 20), (6, vals 21)] = _
          rw [hv0, hv1, hv2, hv3, hv4, hv5, hv6, hv7, hv8, hv9, hv10, hv11, hv12, hv13, hv14, hv15, hv16, hv17, hv18, hv19, hv20, hv21]]
        refine WA.done (by decide +kernel) ?_
        refine W.ret ?_
        refine ⟨_, rfl, Fin.nil ?_⟩
        exact ⟨_, hS.ext, (hS.pick [] rfl).rows, News.of (hS.pick [] rfl).rows rfl, ⟨(gi Fg.exp ((gi Fg.log x) + (gi Fg.log y))), rfl, rfl, hv⟩⟩
  · have hv := hv.1 g13
    refine WL.pass rfl rfl rfl ?_
    refine WL.pass rfl rfl rfl ?_
    refine WL.pass rfl rfl rfl ?_
    refine WL.pass rfl rfl rfl ?_
    refine WL.pick rfl rfl rfl ?_
    refine WL.done ?_
    refine W.condT rfl ?_
    refine W.seq ?_
    refine W.region ?_
    refine WL.assign rfl rfl ?_
    refine WL.done ?_
    refine W.ret ?_
    refine ⟨_, rfl, Fin.nil ?_⟩
    exact ⟨_, hS.ext, (hS.pick [] rfl).rows, News.of (hS.pick [] rfl).rows rfl, ⟨(0 : Int), rfl, rfl, hv⟩⟩

def V_Neg (Fg : GFv) (x : Int) (Q : Int → Prop) : Prop :=
  (I64 (Fg.P - (1 : Int))) ∧ (V_Mul Fg (Fg.P - (1 : Int)) x (fun r13 => Q r13))
theorem ok_Neg {w : World} {Q : Int → Prop} {Fg : GFv} {x : Int} {ag : Addr} {Bg : Nat} (hgg : GFR Bg w ag Fg) (hv : V_Neg Fg x Q) :
    Calls Try.prog 76 #[.pointer (some ag), .int .i64 x] w fun e w' => ∃ v Qr, e = .returned v ∧ w.grownBy w' none ∧ Rows w.heap.size none w' Qr ∧ News w.heap.size Qr ∧ ∃ (r0 : Int), v = .int .i64 r0 ∧ Qr = [] ∧ Q r0 := by
  have hgg_ := hgg
  obtain ⟨Ag_mod, kg_mod, Ag_exp, kg_exp, Ag_log, kg_log, Ag_above, kg_above, hg_c, hg_mod, hg_exp, hg_log, hg_above⟩ := hgg_
  refine calls_swap ?_
  refine calls_of_W (vs := [.pointer (some ag), .int .i64 x]) [4] Try.func76 rfl rfl rfl rfl ?_
  have hS := St.start w
  unfold V_Neg at hv
  refine W.seq ?_
  refine W.region ?_
  refine WL.assign rfl rfl ?_
  refine WL.done ?_
  refine W.seq ?_
  refine W.region ?_
  refine WL.move rfl rfl ?_
  refine WL.move rfl rfl ?_
  refine WL.nilCheck rfl rfl ?_
  refine WL.fieldA (off := 0) Try.fla94_0 rfl rfl ?_
  refine WL.fieldA (off := 0) Try.fla24_0 rfl rfl ?_
  refine WL.load Try.underlying3 rfl rfl (Rd.at_ (hS.ro hg_c) (j := 0) rfl) rfl ?_
  obtain ⟨o11, hv⟩ := hv
  refine WL.sub (r := (Fg.P - (1 : Int))) rfl rfl (wr o11) rfl ?_
  refine WL.move rfl rfl ?_
  refine SL.call hS (ok_Mul (GFR.ext (GFR.norm hgg) hS.ext) hv) Try.func74 rfl Try.nm74 rfl rfl ?_
  rintro _ _ w12 ⟨r13, rfl, rfl, hv⟩ hGw12 hS
  change St _ _ _ _ [] at hS
  refine WL.assign rfl rfl ?_
  refine WL.done ?_
  refine W.ret ?_
  refine ⟨_, rfl, Fin.nil ?_⟩
  exact ⟨_, hS.ext, (hS.pick [] rfl).rows, News.of (hS.pick [] rfl).rows rfl, ⟨r13, rfl, rfl, hv⟩⟩

def V_Add (Fg : GFv) (x : Int) (y : Int) (Q : Int → Prop) : Prop :=
  V_element Fg x (fun r12 => V_element Fg y (fun r14 => ((Fg.P = (2 : Int)) → ((0 ≤ r12 ∧ r12 < 9223372036854775808 ∧ 0 ≤ r14 ∧ r14 < 9223372036854775808) ∧ (Q (ixor r12 r14)))) ∧ (¬ (Fg.P = (2 : Int)) → (((r12 = (0 : Int)) → Q r14) ∧ (¬ (r12 = (0 : Int)) → (((r14 = (0 : Int)) → Q r12) ∧ (¬ (r14 = (0 : Int)) → ((0 ≤ r14 ∧ r14 < (Fg.log.length : Nat)) ∧ ((0 ≤ r12 ∧ r12 < (Fg.log.length : Nat)) ∧ ((I64 ((gi Fg.log r14) - (gi Fg.log r12))) ∧ (∃ J40 : Int → Prop, (((((gi Fg.log r14) - (gi Fg.log r12)) < (0 : Int)) → ((I64 (Fg.q - (1 : Int))) ∧ ((I64 (((gi Fg.log r14) - (gi Fg.log r12)) + (Fg.q - (1 : Int)))) ∧ (J40 (((gi Fg.log r14) - (gi Fg.log r12)) + (Fg.q - (1 : Int))))))) ∧ (¬ (((gi Fg.log r14) - (gi Fg.log r12)) < (0 : Int)) → (J40 ((gi Fg.log r14) - (gi Fg.log r12))))) ∧ ∀ (z39 : Int), (J40 z39 → ((0 ≤ z39 ∧ z39 < (Fg.above.length : Nat)) ∧ ((((gi Fg.above z39) = (-1 : Int)) → (Q (0 : Int))) ∧ (¬ ((gi Fg.above z39) = (-1 : Int)) → ((0 ≤ r12 ∧ r12 < (Fg.log.length : Nat)) ∧ ((I64 ((gi Fg.log r12) + (gi Fg.above z39))) ∧ ((0 ≤ ((gi Fg.log r12) + (gi Fg.above z39)) ∧ ((gi Fg.log r12) + (gi Fg.above z39)) < (Fg.exp.length : Nat)) ∧ (Q (gi Fg.exp ((gi Fg.log r12) + (gi Fg.above z39))))))))))))))))))))))
theorem ok_Add {w : World} {Q : Int → Prop} {Fg : GFv} {x : Int} {y : Int} {ag : Addr} {Bg : Nat} (hgg : GFR Bg w ag Fg) (hv : V_Add Fg x y Q) :
    Calls Try.prog 67 #[.pointer (some ag), .int .i64 x, .int .i64 y] w fun e w' => ∃ v Qr, e = .returned v ∧ w.grownBy w' none ∧ Rows w.heap.size none w' Qr ∧ News w.heap.size Qr ∧ ∃ (r0 : Int), v = .int .i64 r0 ∧ Qr = [] ∧ Q r0 := by
  have hgg_ := hgg
  obtain ⟨Ag_mod, kg_mod, Ag_exp, kg_exp, Ag_log, kg_log, Ag_above, kg_above, hg_c, hg_mod, hg_exp, hg_log, hg_above⟩ := hgg_
  refine calls_swap ?_
  refine calls_of_W (vs := [.pointer (some ag), .int .i64 x, .int .i64 y]) [6] Try.func67 rfl rfl rfl rfl ?_
  have hS := St.start w
  unfold V_Add at hv
  refine W.seq ?_
  refine W.region ?_
  refine WL.assign rfl rfl ?_
  refine WL.done ?_
  refine W.seq ?_
  refine W.region ?_
  refine WL.move rfl rfl ?_
  refine WL.move rfl rfl ?_
  refine SL.call hS (ok_element (GFR.ext (GFR.norm hgg) hS.ext) hv) Try.func98 rfl Try.nm98 rfl rfl ?_
  rintro _ _ w11 ⟨r12, rfl, rfl, hv⟩ hGw11 hS
  change St _ _ _ _ [] at hS
  refine WL.move rfl rfl ?_
  refine WL.move rfl rfl ?_
  refine SL.call hS (ok_element (GFR.ext (GFR.norm hgg) hS.ext) hv) Try.func98 rfl Try.nm98 rfl rfl ?_
  rintro _ _ w13 ⟨r14, rfl, rfl, hv⟩ hGw13 hS
  change St _ _ _ _ [] at hS
  refine WL.assign rfl rfl ?_
  refine WL.assign rfl rfl ?_
  refine WL.done ?_
  refine W.seq ?_
  refine W.block ?_
  refine W.seq ?_
  refine W.region ?_
  refine WL.move rfl rfl ?_
  refine WL.nilCheck rfl rfl ?_
  refine WL.fieldA (off := 0) Try.fla94_0 rfl rfl ?_
  refine WL.fieldA (off := 0) Try.fla24_0 rfl rfl ?_
  refine WL.load Try.underlying3 rfl rfl (Rd.at_ (hS.ro hg_c) (j := 0) rfl) rfl ?_
  refine WL.eqlD rfl rfl rfl ?_
  refine WL.assign rfl rfl ?_
  refine WL.done ?_
  refine W.cond2 rfl (fun c15 => ?_) (fun c15 => ?_)
  · have hv := hv.1 (of_decide_eq_true c15)
    refine W.seq ?_
    refine W.region ?_
    refine WL.move rfl rfl ?_
    refine WL.move rfl rfl ?_
    obtain ⟨o16, hv⟩ := hv
    refine WL.bits (r := (ixor r12 r14)) rfl rfl (by decide) (run_ixor o16) rfl ?_
    refine WL.assign rfl rfl ?_
    refine WL.done ?_
    refine W.ret ?_
    refine ⟨_, rfl, Fin.nil ?_⟩
    exact ⟨_, hS.ext, (hS.pick [] rfl).rows, News.of (hS.pick [] rfl).rows rfl, ⟨(ixor r12 r14), rfl, rfl, hv⟩⟩
  · have hv := hv.2 (of_decide_eq_false c15)
    refine W.seq ?_
    refine W.region ?_
    refine WL.move rfl rfl ?_
    refine WL.eqlD rfl rfl rfl ?_
    refine WL.assign rfl rfl ?_
    refine WL.done ?_
    refine W.cond2 rfl (fun c17 => ?_) (fun c17 => ?_)
    · have hv := hv.1 (of_decide_eq_true c17)
      refine W.seq ?_
      refine W.region ?_
      refine WL.move rfl rfl ?_
      refine WL.assign rfl rfl ?_
      refine WL.done ?_
      refine W.ret ?_
      refine ⟨_, rfl, Fin.nil ?_⟩
      exact ⟨_, hS.ext, (hS.pick [] rfl).rows, News.of (hS.pick [] rfl).rows rfl, ⟨r14, rfl, rfl, hv⟩⟩
    · have hv := hv.2 (of_decide_eq_false c17)
      refine W.seq ?_
      refine W.region ?_
      refine WL.move rfl rfl ?_
      refine WL.eqlD rfl rfl rfl ?_
      refine WL.assign rfl rfl ?_
      refine WL.done ?_
      refine W.cond2 rfl (fun c18 => ?_) (fun c18 => ?_)
      · have hv := hv.1 (of_decide_eq_true c18)
        refine W.seq ?_
        refine W.region ?_
        refine WL.move rfl rfl ?_
        refine WL.assign rfl rfl ?_
        refine WL.done ?_
        refine W.ret ?_
        refine ⟨_, rfl, Fin.nil ?_⟩
        exact ⟨_, hS.ext, (hS.pick [] rfl).rows, News.of (hS.pick [] rfl).rows rfl, ⟨r12, rfl, rfl, hv⟩⟩
      · have hv := hv.2 (of_decide_eq_false c18)
        refine W.skip ?_
        refine W.seq ?_
        obtain ⟨o25, hv⟩ := hv
        obtain ⟨o33, hv⟩ := hv
        obtain ⟨o36, hv⟩ := hv
        have hS0 := hS
        refine W.drawX 16 (fun _ => false) (fun _ => none) [⟨[], [0], true⟩, ⟨[0], [], true⟩, ⟨[1], [], true⟩, ⟨[2], [], false⟩, ⟨[], [2], true⟩, ⟨[3, 4], [], true⟩, ⟨[5], [], false⟩, ⟨[], [0], true⟩, ⟨[7], [], true⟩, ⟨[8], [], true⟩, ⟨[9], [], false⟩, ⟨[], [1], true⟩, ⟨[10, 11], [], true⟩, ⟨[12], [], false⟩, ⟨[6, 13], [], true⟩, ⟨[14], [], true⟩] [[(0, .pointer (some ag))], [], [], [], [(2, .int .i64 r14)], [], [], [(0, .pointer (some ag))], [], [], [], [(1, .int .i64 r12)], [], [], [], []] (fun iQ => [fun v _ => v = .pointer (some ag), fun v _ => v = .pointer (some ag), fun v _ => v = .pointer (some (ag.add 5)), fun v _ => v = .slice Ag_log Fg.log.length kg_log, fun v _ => v = .int .i64 r14, fun v _ => v = .pointer (some ((adOf Ag_log).add r14.toNat)), fun v _ => v = .int .i64 (gi Fg.log r14), fun v _ => v = .pointer (some ag), fun v _ => v = .pointer (some ag), fun v _ => v = .pointer (some (ag.add 5)), fun v _ => v = .slice Ag_log Fg.log.length kg_log, fun v _ => v = .int .i64 r12, fun v _ => v = .pointer (some ((adOf Ag_log).add r12.toNat)), fun v _ => v = .int .i64 (gi Fg.log r12), fun v _ => v = .int .i64 ((gi Fg.log r14) - (gi Fg.log r12)), fun v _ => v = .int .i64 ((gi Fg.log r14) - (gi Fg.log r12))].getD iQ (fun _ _ => True)) Try.mixed (by kernel_rfl) ?_ (by kernel_rfl) ?_ ?_
        · refine Vs_monoT _ ?_
          intro VQ hVQ vQ wQ1 wQ2 hQ1 hQ2
          simp only [List.mem_cons, List.not_mem_nil, or_false] at hVQ
          rcases hVQ with rfl | rfl | rfl | rfl | rfl | rfl | rfl | rfl | rfl | rfl | rfl | rfl | rfl | rfl | rfl | rfl
          · exact hQ1
          · exact hQ1
          · exact hQ1
          · exact hQ1
          · exact hQ1
          · exact hQ1
          · exact hQ1
          · exact hQ1
          · exact hQ1
          · exact hQ1
          · exact hQ1
          · exact hQ1
          · exact hQ1
          · exact hQ1
          · exact hQ1
          · exact hQ1
        · refine ⟨⟨rfl, ⟨rfl, trivial⟩, ?_⟩, ⟨rfl, trivial, ?_⟩, ⟨rfl, trivial, ?_⟩, ⟨rfl, trivial, ?_⟩, ⟨rfl, ⟨rfl, trivial⟩, ?_⟩, ⟨rfl, trivial, ?_⟩, ⟨rfl, trivial, ?_⟩, ⟨rfl, ⟨rfl, trivial⟩, ?_⟩, ⟨rfl, trivial, ?_⟩, ⟨rfl, trivial, ?_⟩, ⟨rfl, trivial, ?_⟩, ⟨rfl, ⟨rfl, trivial⟩, ?_⟩, ⟨rfl, trivial, ?_⟩, ⟨rfl, trivial, ?_⟩, ⟨rfl, trivial, ?_⟩, ⟨rfl, trivial, ?_⟩, trivial⟩
          · intro w19 hE
            intro RR
            refine WL.move rfl rfl ?_
            exact WL.done ⟨_, rfl, rfl, rfl, (fun h => absurd h (by decide)), (fun j h => by cases h)⟩
          · intro w20 hE
            rintro _ rfl
            intro RR
            refine WL.nilCheck rfl rfl ?_
            exact WL.done ⟨_, rfl, rfl, rfl, (fun h => absurd h (by decide)), (fun j h => by cases h)⟩
          · intro w21 hE
            rintro _ rfl
            intro RR
            refine WL.fieldA (off := 5) Try.fla94_3 rfl rfl ?_
            exact WL.done ⟨_, rfl, rfl, rfl, (fun h => absurd h (by decide)), (fun j h => by cases h)⟩
          · intro w22 hE
            have hE := hE rfl
            have hS := hS.grow hE
            rintro _ rfl
            intro RR
            refine WL.load Try.underlying22 rfl rfl (Rd.at_ (hS.ro hg_c) (j := 5) rfl) rfl ?_
            exact WL.done ⟨_, rfl, ext_refl _, rfl, (fun h => absurd h (by decide)), (fun j h => by cases h)⟩
          · intro w23 hE
            intro RR
            refine WL.move rfl rfl ?_
            exact WL.done ⟨_, rfl, rfl, rfl, (fun h => absurd h (by decide)), (fun j h => by cases h)⟩
          · intro w24 hE
            rintro _ rfl
            rintro _ rfl
            intro RR
            refine SL.index Try.underlying22 Try.el3 (hS.ro hg_log) rfl rfl o25 rfl ?_
            exact WL.done ⟨_, rfl, rfl, rfl, (fun h => absurd h (by decide)), (fun j h => by cases h)⟩
          · intro w26 hE
            have hE := hE rfl
            have hS := hS.grow hE
            rintro _ rfl
            intro RR
            refine WL.load Try.underlying3 rfl rfl (Rd.gi (hS.ro hg_log) o25) rfl ?_
            exact WL.done ⟨_, rfl, ext_refl _, rfl, (fun h => absurd h (by decide)), (fun j h => by cases h)⟩
          · intro w27 hE
            intro RR
            refine WL.move rfl rfl ?_
            exact WL.done ⟨_, rfl, rfl, rfl, (fun h => absurd h (by decide)), (fun j h => by cases h)⟩
          · intro w28 hE
            rintro _ rfl
            intro RR
            refine WL.nilCheck rfl rfl ?_
            exact WL.done ⟨_, rfl, rfl, rfl, (fun h => absurd h (by decide)), (fun j h => by cases h)⟩
          · intro w29 hE
            rintro _ rfl
            intro RR
            refine WL.fieldA (off := 5) Try.fla94_3 rfl rfl ?_
            exact WL.done ⟨_, rfl, rfl, rfl, (fun h => absurd h (by decide)), (fun j h => by cases h)⟩
          · intro w30 hE
            have hE := hE rfl
            have hS := hS.grow hE
            rintro _ rfl
            intro RR
            refine WL.load Try.underlying22 rfl rfl (Rd.at_ (hS.ro hg_c) (j := 5) rfl) rfl ?_
            exact WL.done ⟨_, rfl, ext_refl _, rfl, (fun h => absurd h (by decide)), (fun j h => by cases h)⟩
          · intro w31 hE
            intro RR
            refine WL.move rfl rfl ?_
            exact WL.done ⟨_, rfl, rfl, rfl, (fun h => absurd h (by decide)), (fun j h => by cases h)⟩
          · intro w32 hE
            rintro _ rfl
            rintro _ rfl
            intro RR
            refine SL.index Try.underlying22 Try.el3 (hS.ro hg_log) rfl rfl o33 rfl ?_
            exact WL.done ⟨_, rfl, rfl, rfl, (fun h => absurd h (by decide)), (fun j h => by cases h)⟩
          · intro w34 hE
            have hE := hE rfl
            have hS := hS.grow hE
            rintro _ rfl
            intro RR
            refine WL.load Try.underlying3 rfl rfl (Rd.gi (hS.ro hg_log) o33) rfl ?_
            exact WL.done ⟨_, rfl, ext_refl _, rfl, (fun h => absurd h (by decide)), (fun j h => by cases h)⟩
          · intro w35 hE
            rintro _ rfl
            rintro _ rfl
            intro RR
            refine WL.sub (r := ((gi Fg.log r14) - (gi Fg.log r12))) rfl rfl (wr o36) rfl ?_
            exact WL.done ⟨_, rfl, rfl, rfl, (fun h => absurd h (by decide)), (fun j h => by cases h)⟩
          · intro w37 hE
            rintro _ rfl
            intro RR
            refine WL.assign rfl rfl ?_
            exact WL.done ⟨_, rfl, rfl, rfl, (fun h => absurd h (by decide)), (fun j h => by cases h)⟩
        · intro vals w38 hT hVs hAp hCp
          have hS := hS.grow hT
          have hv0 : vals 0 = _ := hVs 0 (by decide)
          have hv1 : vals 1 = _ := hVs 1 (by decide)
          have hv2 : vals 2 = _ := hVs 2 (by decide)
          have hv3 : vals 3 = _ := hVs 3 (by decide)
          have hv4 : vals 4 = _ := hVs 4 (by decide)
          have hv5 : vals 5 = _ := hVs 5 (by decide)
          have hv6 : vals 6 = _ := hVs 6 (by decide)
          have hv7 : vals 7 = _ := hVs 7 (by decide)
          have hv8 : vals 8 = _ := hVs 8 (by decide)
          have hv9 : vals 9 = _ := hVs 9 (by decide)
          have hv10 : vals 10 = _ := hVs 10 (by decide)
          have hv11 : vals 11 = _ := hVs 11 (by decide)
          have hv12 : vals 12 = _ := hVs 12 (by decide)
          have hv13 : vals 13 = _ := hVs 13 (by decide)
          have hv14 : vals 14 = _ := hVs 14 (by decide)
          have hv15 : vals 15 = _ := hVs 15 (by decide)
          rw [show (List.filterMap (fun i => Option.map (fun t => (t, vals i)) (dstAt _ i)) (List.range _)) = [(33, .pointer (some ag)), (34, .pointer (some ag)), (35, .pointer (some (ag.add 5))), (36, .slice Ag_log Fg.log.length kg_log), (37, .int .i64 r14), (38, .pointer (some ((adOf Ag_log).add r14.toNat))), (39, .int .i64 (gi Fg.log r14)), (40, .pointer (some ag)), (41, .pointer (some ag)), (42, .pointer (some (ag.add 5))), (43, .slice Ag_log Fg.log.length kg_log), (44, .int .i64 r12), (45, .pointer (some ((adOf Ag_log).add r12.toNat))), (46, .int .i64 (gi Fg.log r12)), (47, .int .i64 ((gi Fg.log r14) - (gi Fg.log r12))), (7, .int .i64 ((gi Fg.log r14) - (gi Fg.log r12)))] from by
            show [(33, vals 0), (34, vals 1), (35, vals 2), (36, vals 3), (37, vals 4), (38, vals 5), (39, vals 6), (40, vals 7), (41, vals 8), (42, vals 9), (43, vals 10), (44, vals 11), (45, vals 12), (46, vals 13), (47, vals 14), (7, vals 15)] = _
            rw [hv0, hv1, hv2, hv3, hv4, hv5, hv6, hv7, hv8, hv9, hv10, hv11, hv12, hv13, hv14, hv15]]
          refine WA.done (by decide +kernel) ?_
          refine W.seq ?_
          refine W.seq ?_
          refine W.region ?_
          refine WL.move rfl rfl ?_
          refine WL.lssD rfl rfl rfl ?_
          refine WL.done ?_
          obtain ⟨J40, hv, hk67⟩ := hv
          refine W.cutN (σ := Int) (fun z39 w1 => J40 z39 ∧ St TT w none w1 []) (fun z39 => [(0, .pointer (some ag)), (1, .int .i64 r12), (6, .int .i64 (0 : Int)), (7, .int .i64 z39)]) ?_ ?_
          · refine W.cond2 rfl (fun c41 => ?_) (fun c41 => ?_)
            · have hv := hv.1 (of_decide_eq_true c41)
              refine W.region ?_
              refine WL.move rfl rfl ?_
              refine WL.move rfl rfl ?_
              refine WL.nilCheck rfl rfl ?_
              refine WL.fieldA (off := 3) Try.fla94_1 rfl rfl ?_
              refine WL.load Try.underlying3 rfl rfl (Rd.at_ (hS.ro hg_c) (j := 3) rfl) rfl ?_
              obtain ⟨o42, hv⟩ := hv
              refine WL.sub (r := (Fg.q - (1 : Int))) rfl rfl (wr o42) rfl ?_
              obtain ⟨o43, hv⟩ := hv
              refine WL.add (r := (((gi Fg.log r14) - (gi Fg.log r12)) + (Fg.q - (1 : Int)))) rfl rfl (wr o43) rfl ?_
              refine WL.assign rfl rfl ?_
              refine WL.done ?_
              change St _ _ _ _ [] at hS
              exact ⟨(((gi Fg.log r14) - (gi Fg.log r12)) + (Fg.q - (1 : Int))), ⟨rfl, rfl, rfl, rfl, trivial⟩, rfl, hv, hS⟩
            · have hv := hv.2 (of_decide_eq_false c41)
              refine W.skip ?_
              change St _ _ _ _ [] at hS
              exact ⟨((gi Fg.log r14) - (gi Fg.log r12)), ⟨rfl, rfl, rfl, rfl, trivial⟩, rfl, hv, hS⟩
          · rintro z39 w44 ⟨hv, hS⟩
            have hv := hk67 z39 hv
            refine W.seq ?_
            refine W.region ?_
            refine WL.move rfl rfl ?_
            refine WL.nilCheck rfl rfl ?_
            refine WL.fieldA (off := 6) Try.fla94_4 rfl rfl ?_
            refine WL.load Try.underlying22 rfl rfl (Rd.at_ (hS.ro hg_c) (j := 6) rfl) rfl ?_
            refine WL.move rfl rfl ?_
            obtain ⟨o45, hv⟩ := hv
            refine SL.index Try.underlying22 Try.el3 (hS.ro hg_above) rfl rfl o45 rfl ?_
            refine WL.load Try.underlying3 rfl rfl (Rd.gi (hS.ro hg_above) o45) rfl ?_
            refine WL.assign rfl rfl ?_
            refine WL.done ?_
            refine W.seq ?_
            refine W.seq ?_
            refine W.region ?_
            refine WL.move rfl rfl ?_
            refine WL.eqlD rfl rfl rfl ?_
            refine WL.done ?_
            refine W.cond2 rfl (fun c46 => ?_) (fun c46 => ?_)
            · have hv := hv.1 (of_decide_eq_true c46)
              refine W.seq ?_
              refine W.region ?_
              refine WL.assign rfl rfl ?_
              refine WL.done ?_
              refine W.ret ?_
              refine ⟨_, rfl, Fin.nil ?_⟩
              exact ⟨_, hS.ext, (hS.pick [] rfl).rows, News.of (hS.pick [] rfl).rows rfl, ⟨(0 : Int), rfl, rfl, hv⟩⟩
            · have hv := hv.2 (of_decide_eq_false c46)
              refine W.skip ?_
              refine W.seq ?_
              obtain ⟨o57, hv⟩ := hv
              obtain ⟨o61, hv⟩ := hv
              obtain ⟨o63, hv⟩ := hv
              have hS0 := hS
              refine W.drawX 16 (fun _ => false) (fun _ => none) [⟨[], [0], true⟩, ⟨[0], [], true⟩, ⟨[1], [], true⟩, ⟨[2], [], false⟩, ⟨[], [0], true⟩, ⟨[4], [], true⟩, ⟨[5], [], true⟩, ⟨[6], [], false⟩, ⟨[], [1], true⟩, ⟨[7, 8], [], true⟩, ⟨[9], [], false⟩, ⟨[], [8], true⟩, ⟨[10, 11], [], true⟩, ⟨[3, 12], [], true⟩, ⟨[13], [], false⟩, ⟨[14], [], true⟩] [[(0, .pointer (some ag))], [], [], [], [(0, .pointer (some ag))], [], [], [], [(1, .int .i64 r12)], [], [], [(8, .int .i64 (gi Fg.above z39))], [], [], [], []] (fun iQ => [fun v _ => v = .pointer (some ag), fun v _ => v = .pointer (some ag), fun v _ => v = .pointer (some (ag.add 4)), fun v _ => v = .slice Ag_exp Fg.exp.length kg_exp, fun v _ => v = .pointer (some ag), fun v _ => v = .pointer (some ag), fun v _ => v = .pointer (some (ag.add 5)), fun v _ => v = .slice Ag_log Fg.log.length kg_log, fun v _ => v = .int .i64 r12, fun v _ => v = .pointer (some ((adOf Ag_log).add r12.toNat)), fun v _ => v = .int .i64 (gi Fg.log r12), fun v _ => v = .int .i64 (gi Fg.above z39), fun v _ => v = .int .i64 ((gi Fg.log r12) + (gi Fg.above z39)), fun v _ => v = .pointer (some ((adOf Ag_exp).add (((gi Fg.log r12) + (gi Fg.above z39)).toNat))), fun v _ => v = .int .i64 (gi Fg.exp ((gi Fg.log r12) + (gi Fg.above z39))), fun v _ => v = .int .i64 (gi Fg.exp ((gi Fg.log r12) + (gi Fg.above z39)))].getD iQ (fun _ _ => True)) Try.mixed (by kernel_rfl) ?_ (by kernel_rfl) ?_ ?_
              · refine Vs_monoT _ ?_
                intro VQ hVQ vQ wQ1 wQ2 hQ1 hQ2
                simp only [List.mem_cons, List.not_mem_nil, or_false] at hVQ
                rcases hVQ with rfl | rfl | rfl | rfl | rfl | rfl | rfl | rfl | rfl | rfl | rfl | rfl | rfl | rfl | rfl | rfl
                · exact hQ1
                · exact hQ1
                · exact hQ1
                · exact hQ1
                · exact hQ1
                · exact hQ1
                · exact hQ1
                · exact hQ1
                · exact hQ1
                · exact hQ1
                · exact hQ1
                · exact hQ1
                · exact hQ1
                · exact hQ1
                · exact hQ1
                · exact hQ1
              · refine ⟨⟨rfl, ⟨rfl, trivial⟩, ?_⟩, ⟨rfl, trivial, ?_⟩, ⟨rfl, trivial, ?_⟩, ⟨rfl, trivial, ?_⟩, ⟨rfl, ⟨rfl, trivial⟩, ?_⟩, ⟨rfl, trivial, ?_⟩, ⟨rfl, trivial, ?_⟩, ⟨rfl, trivial, ?_⟩, ⟨rfl, ⟨rfl, trivial⟩, ?_⟩, ⟨rfl, trivial, ?_⟩, ⟨rfl, trivial, ?_⟩, ⟨rfl, ⟨rfl, trivial⟩, ?_⟩, ⟨rfl, trivial, ?_⟩, ⟨rfl, trivial, ?_⟩, ⟨rfl, trivial, ?_⟩, ⟨rfl, trivial, ?_⟩, trivial⟩
                · intro w47 hE
                  intro RR
                  refine WL.move rfl rfl ?_
                  exact WL.done ⟨_, rfl, rfl, rfl, (fun h => absurd h (by decide)), (fun j h => by cases h)⟩
                · intro w48 hE
                  rintro _ rfl
                  intro RR
                  refine WL.nilCheck rfl rfl ?_
                  exact WL.done ⟨_, rfl, rfl, rfl, (fun h => absurd h (by decide)), (fun j h => by cases h)⟩
                · intro w49 hE
                  rintro _ rfl
                  intro RR
                  refine WL.fieldA (off := 4) Try.fla94_2 rfl rfl ?_
                  exact WL.done ⟨_, rfl, rfl, rfl, (fun h => absurd h (by decide)), (fun j h => by cases h)⟩
                · intro w50 hE
                  have hE := hE rfl
                  have hS := hS.grow hE
                  rintro _ rfl
                  intro RR
                  refine WL.load Try.underlying22 rfl rfl (Rd.at_ (hS.ro hg_c) (j := 4) rfl) rfl ?_
                  exact WL.done ⟨_, rfl, ext_refl _, rfl, (fun h => absurd h (by decide)), (fun j h => by cases h)⟩
                · intro w51 hE
                  intro RR
                  refine WL.move rfl rfl ?_
                  exact WL.done ⟨_, rfl, rfl, rfl, (fun h => absurd h (by decide)), (fun j h => by cases h)⟩
                · intro w52 hE
                  rintro _ rfl
                  intro RR
                  refine WL.nilCheck rfl rfl ?_
                  exact WL.done ⟨_, rfl, rfl, rfl, (fun h => absurd h (by decide)), (fun j h => by cases h)⟩
                · intro w53 hE
                  rintro _ rfl
                  intro RR
                  refine WL.fieldA (off := 5) Try.fla94_3 rfl rfl ?_
                  exact WL.done ⟨_, rfl, rfl, rfl, (fun h => absurd h (by decide)), (fun j h => by cases h)⟩
                · intro w54 hE
                  have hE := hE rfl
                  have hS := hS.grow hE
                  rintro _ rfl
                  intro RR
                  refine WL.load Try.underlying22 rfl rfl (Rd.at_ (hS.ro hg_c) (j := 5) rfl) rfl ?_
                  exact WL.done ⟨_, rfl, ext_refl _, rfl, (fun h => absurd h (by decide)), (fun j h => by cases h)⟩
                · intro w55 hE
                  intro RR
                  refine WL.move rfl rfl ?_
                  exact WL.done ⟨_, rfl, rfl, rfl, (fun h => absurd h (by decide)), (fun j h => by cases h)⟩
                · intro w56 hE
                  rintro _ rfl
                  rintro _ rfl
                  intro RR
                  refine SL.index Try.underlying22 Try.el3 (hS.ro hg_log) rfl rfl o57 rfl ?_
                  exact WL.done ⟨_, rfl, rfl, rfl, (fun h => absurd h (by decide)), (fun j h => by cases h)⟩
                · intro w58 hE
                  have hE := hE rfl
                  have hS := hS.grow hE
                  rintro _ rfl
                  intro RR
                  refine WL.load Try.underlying3 rfl rfl (Rd.gi (hS.ro hg_log) o57) rfl ?_
                  exact WL.done ⟨_, rfl, ext_refl _, rfl, (fun h => absurd h (by decide)), (fun j h => by cases h)⟩
                · intro w59 hE
                  intro RR
                  refine WL.move rfl rfl ?_
                  exact WL.done ⟨_, rfl, rfl, rfl, (fun h => absurd h (by decide)), (fun j h => by cases h)⟩
                · intro w60 hE
                  rintro _ rfl
                  rintro _ rfl
                  intro RR
                  refine WL.add (r := ((gi Fg.log r12) + (gi Fg.above z39))) rfl rfl (wr o61) rfl ?_
                  exact WL.done ⟨_, rfl, rfl, rfl, (fun h => absurd h (by decide)), (fun j h => by cases h)⟩
                · intro w62 hE
                  rintro _ rfl
                  rintro _ rfl
                  intro RR
                  refine SL.index Try.underlying22 Try.el3 (hS.ro hg_exp) rfl rfl o63 rfl ?_
                  exact WL.done ⟨_, rfl, rfl, rfl, (fun h => absurd h (by decide)), (fun j h => by cases h)⟩
                · intro w64 hE
                  have hE := hE rfl
                  have hS := hS.grow hE
                  rintro _ rfl
                  intro RR
                  refine WL.load Try.underlying3 rfl rfl (Rd.gi (hS.ro hg_exp) o63) rfl ?_
                  exact WL.done ⟨_, rfl, ext_refl _, rfl, (fun h => absurd h (by decide)), (fun j h => by cases h)⟩
                · intro w65 hE
                  rintro _ rfl
                  intro RR
                  refine WL.assign rfl rfl ?_
                  exact WL.done ⟨_, rfl, rfl, rfl, (fun h => absurd h (by decide)), (fun j h => by cases h)⟩
              · intro vals w66 hT hVs hAp hCp
                have hS := hS.grow hT
                have hv0 : vals 0 = _ := hVs 0 (by decide)
                have hv1 : vals 1 = _ := hVs 1 (by decide)
                have hv2 : vals 2 = _ := hVs 2 (by decide)
                have hv3 : vals 3 = _ := hVs 3 (by decide)
                have hv4 : vals 4 = _ := hVs 4 (by decide)
                have hv5 : vals 5 = _ := hVs 5 (by decide)
                have hv6 : vals 6 = _ := hVs 6 (by decide)
                have hv7 : vals 7 = _ := hVs 7 (by decide)
                have hv8 : vals 8 = _ := hVs 8 (by decide)
                have hv9 : vals 9 = _ := hVs 9 (by decide)
                have hv10 : vals 10 = _ := hVs 10 (by decide)
                have hv11 : vals 11 = _ := hVs 11 (by decide)
                have hv12 : vals 12 = _ := hVs 12 (by decide)
                have hv13 : vals 13 = _ := hVs 13 (by decide)
                have hv14 : vals 14 = _ := hVs 14 (by decide)
                have hv15 : vals 15 = _ := hVs 15 (by decide)
                rw [show (List.filterMap (fun i => Option.map (fun t => (t, vals i)) (dstAt _ i)) (List.range _)) = [(66, .pointer (some ag)), (67, .pointer (some ag)), (68, .pointer (some (ag.add 4))), (69, .slice Ag_exp Fg.exp.length kg_exp), (70, .pointer (some ag)), (71, .pointer (some ag)), (72, .pointer (some (ag.add 5))), (73, .slice Ag_log Fg.log.length kg_log), (74, .int .i64 r12), (75, .pointer (some ((adOf Ag_log).add r12.toNat))), (76, .int .i64 (gi Fg.log r12)), (77, .int .i64 (gi Fg.above z39)), (78, .int .i64 ((gi Fg.log r12) + (gi Fg.above z39))), (79, .pointer (some ((adOf Ag_exp).add (((gi Fg.log r12) + (gi Fg.above z39)).toNat)))), (80, .int .i64 (gi Fg.exp ((gi Fg.log r12) + (gi Fg.above z39)))), (6, .int .i64 (gi Fg.exp ((gi Fg.log r12) + (gi Fg.above z39))))] from by
                  show [(66, vals 0), (67, vals 1), (68, vals 2), (69, vals 3), (70, vals 4), (71, vals 5), (72, vals 6), (73, vals 7), (74, vals 8), (75, vals 9), (76, vals 10), (77, vals 11), (78, vals 12), (79, vals 13), (80, vals 14), (6, vals 15)] = _
                  rw [hv0, hv1, hv2, hv3, hv4, hv5, hv6, hv7, hv8, hv9, hv10, hv11, hv12, hv13, hv14, hv15]]
                refine WA.done (by decide +kernel) ?_
                refine W.ret ?_
                refine ⟨_, rfl, Fin.nil ?_⟩
                exact ⟨_, hS.ext, (hS.pick [] rfl).rows, News.of (hS.pick [] rfl).rows rfl, ⟨(gi Fg.exp ((gi Fg.log r12) + (gi Fg.above z39))), rfl, rfl, hv⟩⟩

def V_Sub (Fg : GFv) (x : Int) (y : Int) (Q : Int → Prop) : Prop :=
  V_Neg Fg y (fun r12 => V_Add Fg x r12 (fun r14 => Q r14))
def V_Inv (Fg : GFv) (x : Int) (Q : Int × Int → Prop) : Prop :=
  V_isUnit Fg x (fun r12 => (((!r12) = true) → (Q ((0 : Int), (7 : Int)))) ∧ ((!r12) = false → ((I64 (Fg.q - (1 : Int))) ∧ ((0 ≤ x ∧ x < (Fg.log.length : Nat)) ∧ ((I64 ((Fg.q - (1 : Int)) - (gi Fg.log x))) ∧ ((0 ≤ ((Fg.q - (1 : Int)) - (gi Fg.log x)) ∧ ((Fg.q - (1 : Int)) - (gi Fg.log x)) < (Fg.exp.length : Nat)) ∧ (Q ((gi Fg.exp ((Fg.q - (1 : Int)) - (gi Fg.log x))), (0 : Int)))))))))
theorem ok_Inv {w : World} {Q : Int × Int → Prop} {Fg : GFv} {x : Int} {ag : Addr} {Bg : Nat} (hgg : GFR Bg w ag Fg) (hv : V_Inv Fg x Q) :
    Calls Try.prog 73 #[.pointer (some ag), .int .i64 x] w fun e w' => ∃ v Qr, e = .returned v ∧ w.grownBy w' none ∧ Rows w.heap.size none w' Qr ∧ News w.heap.size Qr ∧ ∃ (r0 : Int) (r1 : Int), v = .tuple #[.int .i64 r0, .int .i64 r1] ∧ Qr = [] ∧ Q (r0, r1) := by
  have hgg_ := hgg
  obtain ⟨Ag_mod, kg_mod, Ag_exp, kg_exp, Ag_log, kg_log, Ag_above, kg_above, hg_c, hg_mod, hg_exp, hg_log, hg_above⟩ := hgg_
  refine calls_swap ?_
  refine calls_of_W (vs := [.pointer (some ag), .int .i64 x]) [4, 5] Try.func73 rfl rfl rfl rfl ?_
  have hS := St.start w
  unfold V_Inv at hv
  refine W.seq ?_
  refine W.region ?_
  refine WL.assign rfl rfl ?_
  refine WL.assign rfl rfl ?_
  refine WL.done ?_
  refine W.seq ?_
  refine W.seq ?_
  refine W.region ?_
  refine WL.move rfl rfl ?_
  refine WL.move rfl rfl ?_
  refine SL.call hS (ok_isUnit (GFR.ext (GFR.norm hgg) hS.ext) hv) Try.func99 rfl Try.nm99 rfl rfl ?_
  rintro _ _ w11 ⟨r12, rfl, rfl, hv⟩ hGw11 hS
  change St _ _ _ _ [] at hS
  refine WL.not rfl rfl ?_
  refine WL.done ?_
  refine W.cond2 rfl (fun c13 => ?_) (fun c13 => ?_)
  · have hv := hv.1 (c13)
    refine W.seq ?_
    refine W.region ?_
    refine WL.assign rfl rfl ?_
    refine WL.assign rfl rfl ?_
    refine WL.done ?_
    refine W.ret ?_
    refine ⟨_, rfl, Fin.nil ?_⟩
    exact ⟨_, hS.ext, (hS.pick [] rfl).rows, News.of (hS.pick [] rfl).rows rfl, ⟨(0 : Int), (7 : Int), rfl, rfl, hv⟩⟩
  · have hv := hv.2 (c13)
    refine W.skip ?_
    refine W.seq ?_
    obtain ⟨o23, hv⟩ := hv
    obtain ⟨o30, hv⟩ := hv
    obtain ⟨o33, hv⟩ := hv
    obtain ⟨o35, hv⟩ := hv
    have hS0 := hS
    refine W.drawX 21 (fun _ => false) (fun _ => none) [⟨[], [0], true⟩, ⟨[0], [], true⟩, ⟨[1], [], true⟩, ⟨[2], [], false⟩, ⟨[], [0], true⟩, ⟨[4], [], true⟩, ⟨[5], [], true⟩, ⟨[6], [], false⟩, ⟨[7], [], true⟩, ⟨[], [0], true⟩, ⟨[9], [], true⟩, ⟨[10], [], true⟩, ⟨[11], [], false⟩, ⟨[], [1], true⟩, ⟨[12, 13], [], true⟩, ⟨[14], [], false⟩, ⟨[8, 15], [], true⟩, ⟨[3, 16], [], true⟩, ⟨[17], [], false⟩, ⟨[18], [], true⟩, ⟨[], [], true⟩] [[(0, .pointer (some ag))], [], [], [], [(0, .pointer (some ag))], [], [], [], [], [(0, .pointer (some ag))], [], [], [], [(1, .int .i64 x)], [], [], [], [], [], [], []] (fun iQ => [fun v _ => v = .pointer (some ag), fun v _ => v = .pointer (some ag), fun v _ => v = .pointer (some (ag.add 4)), fun v _ => v = .slice Ag_exp Fg.exp.length kg_exp, fun v _ => v = .pointer (some ag), fun v _ => v = .pointer (some ag), fun v _ => v = .pointer (some (ag.add 3)), fun v _ => v = .int .i64 Fg.q, fun v _ => v = .int .i64 (Fg.q - (1 : Int)), fun v _ => v = .pointer (some ag), fun v _ => v = .pointer (some ag), fun v _ => v = .pointer (some (ag.add 5)), fun v _ => v = .slice Ag_log Fg.log.length kg_log, fun v _ => v = .int .i64 x, fun v _ => v = .pointer (some ((adOf Ag_log).add x.toNat)), fun v _ => v = .int .i64 (gi Fg.log x), fun v _ => v = .int .i64 ((Fg.q - (1 : Int)) - (gi Fg.log x)), fun v _ => v = .pointer (some ((adOf Ag_exp).add (((Fg.q - (1 : Int)) - (gi Fg.log x)).toNat))), fun v _ => v = .int .i64 (gi Fg.exp ((Fg.q - (1 : Int)) - (gi Fg.log x))), fun v _ => v = .int .i64 (gi Fg.exp ((Fg.q - (1 : Int)) - (gi Fg.log x))), fun v _ => v = .int .i64 (0 : Int)].getD iQ (fun _ _ => True)) Try.mixed (by kernel_rfl) ?_ (by kernel_rfl) ?_ ?_
    · refine Vs_monoT _ ?_
      intro VQ hVQ vQ wQ1 wQ2 hQ1 hQ2
      simp only [List.mem_cons, List.not_mem_nil, or_false] at hVQ
      rcases hVQ with rfl | rfl | rfl | rfl | rfl | rfl | rfl | rfl | rfl | rfl | rfl | rfl | rfl | rfl | rfl | rfl | rfl | rfl | rfl | rfl | rfl
      · exact hQ1
      · exact hQ1
      · exact hQ1
      · exact hQ1
      · exact hQ1
      · exact hQ1
      · exact hQ1
      · exact hQ1
      · exact hQ1
      · exact hQ1
      · exact hQ1
      · exact hQ1
      · exact hQ1
      · exact hQ1
      · exact hQ1
      · exact hQ1
      · exact hQ1
      · exact hQ1
      · exact hQ1
      · exact hQ1
      · exact hQ1
    · refine ⟨⟨rfl, ⟨rfl, trivial⟩, ?_⟩, ⟨rfl, trivial, ?_⟩, ⟨rfl, trivial, ?_⟩, ⟨rfl, trivial, ?_⟩, ⟨rfl, ⟨rfl, trivial⟩, ?_⟩, ⟨rfl, trivial, ?_⟩, ⟨rfl, trivial, ?_⟩, ⟨rfl, trivial, ?_⟩, ⟨rfl, trivial, ?_⟩, ⟨rfl, ⟨rfl, trivial⟩, ?_⟩, ⟨rfl, trivial, ?_⟩, ⟨rfl, trivial, ?_⟩, ⟨rfl, trivial, ?_⟩, ⟨rfl, ⟨rfl, trivial⟩, ?_⟩, ⟨rfl, trivial, ?_⟩, ⟨rfl, trivial, ?_⟩, ⟨rfl, trivial, ?_⟩, ⟨rfl, trivial, ?_⟩, ⟨rfl, trivial, ?_⟩, ⟨rfl, trivial, ?_⟩, ⟨rfl, trivial, ?_⟩, trivial⟩
      · intro w14 hE
        intro RR
        refine WL.move rfl rfl ?_
        exact WL.done ⟨_, rfl, rfl, rfl, (fun h => absurd h (by decide)), (fun j h => by cases h)⟩
      · intro w15 hE
        rintro _ rfl
        intro RR
        refine WL.nilCheck rfl rfl ?_
        exact WL.done ⟨_, rfl, rfl, rfl, (fun h => absurd h (by decide)), (fun j h => by cases h)⟩
      · intro w16 hE
        rintro _ rfl
        intro RR
        refine WL.fieldA (off := 4) Try.fla94_2 rfl rfl ?_
        exact WL.done ⟨_, rfl, rfl, rfl, (fun h => absurd h (by decide)), (fun j h => by cases h)⟩
      · intro w17 hE
        have hE := hE rfl
        have hS := hS.grow hE
        rintro _ rfl
        intro RR
        refine WL.load Try.underlying22 rfl rfl (Rd.at_ (hS.ro hg_c) (j := 4) rfl) rfl ?_
        exact WL.done ⟨_, rfl, ext_refl _, rfl, (fun h => absurd h (by decide)), (fun j h => by cases h)⟩
      · intro w18 hE
        intro RR
        refine WL.move rfl rfl ?_
        exact WL.done ⟨_, rfl, rfl, rfl, (fun h => absurd h (by decide)), (fun j h => by cases h)⟩
      · intro w19 hE
        rintro _ rfl
        intro RR
        refine WL.nilCheck rfl rfl ?_
        exact WL.done ⟨_, rfl, rfl, rfl, (fun h => absurd h (by decide)), (fun j h => by cases h)⟩
      · intro w20 hE
        rintro _ rfl
        intro RR
        refine WL.fieldA (off := 3) Try.fla94_1 rfl rfl ?_
        exact WL.done ⟨_, rfl, rfl, rfl, (fun h => absurd h (by decide)), (fun j h => by cases h)⟩
      · intro w21 hE
        have hE := hE rfl
        have hS := hS.grow hE
        rintro _ rfl
        intro RR
        refine WL.load Try.underlying3 rfl rfl (Rd.at_ (hS.ro hg_c) (j := 3) rfl) rfl ?_
        exact WL.done ⟨_, rfl, ext_refl _, rfl, (fun h => absurd h (by decide)), (fun j h => by cases h)⟩
      · intro w22 hE
        rintro _ rfl
        intro RR
        refine WL.sub (r := (Fg.q - (1 : Int))) rfl rfl (wr o23) rfl ?_
        exact WL.done ⟨_, rfl, rfl, rfl, (fun h => absurd h (by decide)), (fun j h => by cases h)⟩
      · intro w24 hE
        intro RR
        refine WL.move rfl rfl ?_
        exact WL.done ⟨_, rfl, rfl, rfl, (fun h => absurd h (by decide)), (fun j h => by cases h)⟩
      · intro w25 hE
        rintro _ rfl
        intro RR
        refine WL.nilCheck rfl rfl ?_
        exact WL.done ⟨_, rfl, rfl, rfl, (fun h => absurd h (by decide)), (fun j h => by cases h)⟩
      · intro w26 hE
        rintro _ rfl
        intro RR
        refine WL.fieldA (off := 5) Try.fla94_3 rfl rfl ?_
        exact WL.done ⟨_, rfl, rfl, rfl, (fun h => absurd h (by decide)), (fun j h => by cases h)⟩
      · intro w27 hE
        have hE := hE rfl
        have hS := hS.grow hE
        rintro _ rfl
        intro RR
        refine WL.load Try.underlying22 rfl rfl (Rd.at_ (hS.ro hg_c) (j := 5) rfl) rfl ?_
        exact WL.done ⟨_, rfl, ext_refl _, rfl, (fun h => absurd h (by decide)), (fun j h => by cases h)⟩
      · intro w28 hE
        intro RR
        refine WL.move rfl rfl ?_
        exact WL.done ⟨_, rfl, rfl, rfl, (fun h => absurd h (by decide)), (fun j h => by cases h)⟩
      · intro w29 hE
        rintro _ rfl
        rintro _ rfl
        intro RR
        refine SL.index Try.underlying22 Try.el3 (hS.ro hg_log) rfl rfl o30 rfl ?_
        exact WL.done ⟨_, rfl, rfl, rfl, (fun h => absurd h (by decide)), (fun j h => by cases h)⟩
      · intro w31 hE
        have hE := hE rfl
        have hS := hS.grow hE
        rintro _ rfl
        intro RR
        refine WL.load Try.underlying3 rfl rfl (Rd.gi (hS.ro hg_log) o30) rfl ?_
        exact WL.done ⟨_, rfl, ext_refl _, rfl, (fun h => absurd h (by decide)), (fun j h => by cases h)⟩
      · intro w32 hE
        rintro _ rfl
        rintro _ rfl
        intro RR
        refine WL.sub (r := ((Fg.q - (1 : Int)) - (gi Fg.log x))) rfl rfl (wr o33) rfl ?_
        exact WL.done ⟨_, rfl, rfl, rfl, (fun h => absurd h (by decide)), (fun j h => by cases h)⟩
      · intro w34 hE
        rintro _ rfl
        rintro _ rfl
        intro RR
        refine SL.index Try.underlying22 Try.el3 (hS.ro hg_exp) rfl rfl o35 rfl ?_
        exact WL.done ⟨_, rfl, rfl, rfl, (fun h => absurd h (by decide)), (fun j h => by cases h)⟩
      · intro w36 hE
        have hE := hE rfl
        have hS := hS.grow hE
        rintro _ rfl
        intro RR
        refine WL.load Try.underlying3 rfl rfl (Rd.gi (hS.ro hg_exp) o35) rfl ?_
        exact WL.done ⟨_, rfl, ext_refl _, rfl, (fun h => absurd h (by decide)), (fun j h => by cases h)⟩
      · intro w37 hE
        rintro _ rfl
        intro RR
        refine WL.assign rfl rfl ?_
        exact WL.done ⟨_, rfl, rfl, rfl, (fun h => absurd h (by decide)), (fun j h => by cases h)⟩
      · intro w38 hE
        intro RR
        refine WL.assign rfl rfl ?_
        exact WL.done ⟨_, rfl, rfl, rfl, (fun h => absurd h (by decide)), (fun j h => by cases h)⟩
    · intro vals w39 hT hVs hAp hCp
      have hS := hS.grow hT
      have hv0 : vals 0 = _ := hVs 0 (by decide)
      have hv1 : vals 1 = _ := hVs 1 (by decide)
      have hv2 : vals 2 = _ := hVs 2 (by decide)
      have hv3 : vals 3 = _ := hVs 3 (by decide)
      have hv4 : vals 4 = _ := hVs 4 (by decide)
      have hv5 : vals 5 = _ := hVs 5 (by decide)
      have hv6 : vals 6 = _ := hVs 6 (by decide)
      have hv7 : vals 7 = _ := hVs 7 (by decide)
      have hv8 : vals 8 = _ := hVs 8 (by decide)
      have hv9 : vals 9 = _ := hVs 9 (by decide)
      have hv10 : vals 10 = _ := hVs 10 (by decide)
      have hv11 : vals 11 = _ := hVs 11 (by decide)
      have hv12 : vals 12 = _ := hVs 12 (by decide)
      have hv13 : vals 13 = _ := hVs 13 (by decide)
      have hv14 : vals 14 = _ := hVs 14 (by decide)
      have hv15 : vals 15 = _ := hVs 15 (by decide)
      have hv16 : vals 16 = _ := hVs 16 (by decide)
      have hv17 : vals 17 = _ := hVs 17 (by decide)
      have hv18 : vals 18 = _ := hVs 18 (by decide)
      have hv19 : vals 19 = _ := hVs 19 (by decide)
      have hv20 : vals 20 = _ := hVs 20 (by decide)
      rw [show (List.filterMap (fun i => Option.map (fun t => (t, vals i)) (dstAt _ i)) (List.range _)) = [(10, .pointer (some ag)), (11, .pointer (some ag)), (12, .pointer (some (ag.add 4))), (13, .slice Ag_exp Fg.exp.length kg_exp), (14, .pointer (some ag)), (15, .pointer (some ag)), (16, .pointer (some (ag.add 3))), (17, .int .i64 Fg.q), (18, .int .i64 (Fg.q - (1 : Int))), (19, .pointer (some ag)), (20, .pointer (some ag)), (21, .pointer (some (ag.add 5))), (22, .slice Ag_log Fg.log.length kg_log), (23, .int .i64 x), (24, .pointer (some ((adOf Ag_log).add x.toNat))), (25, .int .i64 (gi Fg.log x)), (26, .int .i64 ((Fg.q - (1 : Int)) - (gi Fg.log x))), (27, .pointer (some ((adOf Ag_exp).add (((Fg.q - (1 : Int)) - (gi Fg.log x)).toNat)))), (28, .int .i64 (gi Fg.exp ((Fg.q - (1 : Int)) - (gi Fg.log x)))), (4, .int .i64 (gi Fg.exp ((Fg.q - (1 : Int)) - (gi Fg.log x)))), (5, .int .i64 (0 : Int))] from by
        show [(10, vals 0), (11, vals 1), (12, vals 2), (13, vals 3), (14, vals 4), (15, vals 5), (16, vals 6), (17, vals 7), (18, vals 8), (19, vals 9), (20, vals 10), (21, vals 11), (22, vals 12), (23, vals 13), (24, vals 14), (25, vals 15), (26, vals 16), (27, vals 17), (28, vals 18), (4, vals 19), (5, vals 20)] = _
        rw [hv0, hv1, hv2, hv3, hv4, hv5, hv6, hv7, hv8, hv9, hv10, hv11, hv12, hv13, hv14, hv15, hv16, hv17, hv18, hv19, hv20]]
      refine WA.done (by decide +kernel) ?_
      refine W.ret ?_
      refine ⟨_, rfl, Fin.nil ?_⟩
      exact ⟨_, hS.ext, (hS.pick [] rfl).rows, News.of (hS.pick [] rfl).rows rfl, ⟨(gi Fg.exp ((Fg.q - (1 : Int)) - (gi Fg.log x))), (0 : Int), rfl, rfl, hv⟩⟩

def V_Div (Fg : GFv) (x : Int) (y : Int) (Q : Int × Int → Prop) : Prop :=
  V_Inv Fg y (fun q => match q with | (r12, r13) => V_Mul Fg x r12 (fun r15 => Q (r15, r13)))
def V_Scale (Fg : GFv) (x : Int) (l : List Int) (Q : List Int → Prop) : Prop :=
  (0 ≤ ((l.length : Nat) : Int) ∧ ((l.length : Nat) : Int) * 8 ≤ 281474976710656 ∧ ((l.length : Nat) : Int) ≤ 281474976710656) ∧ (∃ (I21 : List Int → Int → Prop) (μ22 : List Int → Int → Nat), I21 (List.replicate ((l.length : Nat) : Int).toNat (0 : Int)) (0 : Int) ∧ ∀ (x19 : List Int) (z20 : Int), (I21 x19 z20 → (((z20 < ((l.length : Nat) : Int)) → ((0 ≤ z20 ∧ z20 < (l.length : Nat)) ∧ (V_Mul Fg x (gi l z20) (fun r27 => (0 ≤ z20 ∧ z20 < (((l.length : Nat) : Int).toNat : Nat)) ∧ ((I64 (z20 + (1 : Int))) ∧ (I21 (si x19 z20 r27) (z20 + (1 : Int)) ∧ μ22 (si x19 z20 r27) (z20 + (1 : Int)) < μ22 x19 z20)))))) ∧ (¬ (z20 < ((l.length : Nat) : Int)) → Q x19))))
end Go.Proofs.Ytmdigamgojfjdaa
set_option linter.unusedSimpArgs false
set_option linter.unusedVariables false
namespace Go.Proofs.Ytmdigamgojfjdaa
open Go.RowKit
def V_rdivides (l : List Int) (o : List Int) (p : Int) (Q : Bool → Prop) : Prop :=
  (((0 : Nat) + (o.length : Nat) : Int) * 8 ≤ 140737488355328) ∧ (((((([] : List Int) ++ o).length : Nat) + (1 : Nat) : Int) * 8 ≤ 140737488355328) ∧ ((I64 (((((([] : List Int) ++ o) ++ ([(1 : Int)] : List Int)).length : Nat) : Int) - (1 : Int))) ∧ (∃ (I32 : List Int → Int → Prop) (μ33 : List Int → Int → Nat), I32 ((([] : List Int) ++ o) ++ ([(1 : Int)] : List Int)) (((((([] : List Int) ++ o) ++ ([(1 : Int)] : List Int)).length : Nat) : Int) - (1 : Int)) ∧ ∀ (x30 : List Int) (z31 : Int), (I32 x30 z31 → (((((l.length : Nat) : Int) ≤ z31) → ((0 ≤ z31 ∧ z31 < (((([] : List Int) ++ o) ++ ([(1 : Int)] : List Int)).length : Nat)) ∧ (∃ (I43 : List Int → Int → Prop) (μ44 : List Int → Int → Nat), I43 x30 (0 : Int) ∧ ∀ (x41 : List Int) (z42 : Int), (I43 x41 z42 → (((z42 < ((l.length : Nat) : Int)) → ((I64 (z31 - ((l.length : Nat) : Int))) ∧ ((I64 ((z31 - ((l.length : Nat) : Int)) + z42)) ∧ ((I64 (z31 - ((l.length : Nat) : Int))) ∧ ((I64 ((z31 - ((l.length : Nat) : Int)) + z42)) ∧ ((0 ≤ ((z31 - ((l.length : Nat) : Int)) + z42) ∧ ((z31 - ((l.length : Nat) : Int)) + z42) < (((([] : List Int) ++ o) ++ ([(1 : Int)] : List Int)).length : Nat)) ∧ ((I64 (p - (gi x30 z31))) ∧ ((0 ≤ z42 ∧ z42 < (l.length : Nat)) ∧ ((I64 ((p - (gi x30 z31)) * (gi l z42))) ∧ ((I64 ((gi x41 ((z31 - ((l.length : Nat) : Int)) + z42)) + ((p - (gi x30 z31)) * (gi l z42)))) ∧ ((p ≠ 0) ∧ ((0 ≤ ((z31 - ((l.length : Nat) : Int)) + z42) ∧ ((z31 - ((l.length : Nat) : Int)) + z42) < (((([] : List Int) ++ o) ++ ([(1 : Int)] : List Int)).length : Nat)) ∧ ((I64 (z42 + (1 : Int))) ∧ (I43 (si x41 ((z31 - ((l.length : Nat) : Int)) + z42) (((gi x41 ((z31 - ((l.length : Nat) : Int)) + z42)) + ((p - (gi x30 z31)) * (gi l z42))).tmod p)) (z42 + (1 : Int)) ∧ μ44 (si x41 ((z31 - ((l.length : Nat) : Int)) + z42) (((gi x41 ((z31 - ((l.length : Nat) : Int)) + z42)) + ((p - (gi x30 z31)) * (gi l z42))).tmod p)) (z42 + (1 : Int)) < μ44 x41 z42)))))))))))))) ∧ (¬ (z42 < ((l.length : Nat) : Int)) → ((0 ≤ z31 ∧ z31 < (((([] : List Int) ++ o) ++ ([(1 : Int)] : List Int)).length : Nat)) ∧ ((I64 (z31 - (1 : Int))) ∧ (I32 (si x41 z31 (0 : Int)) (z31 - (1 : Int)) ∧ μ33 (si x41 z31 (0 : Int)) (z31 - (1 : Int)) < μ33 x30 z31))))))))) ∧ (¬ (((l.length : Nat) : Int) ≤ z31) → (∃ (I93 : Int → Prop) (μ94 : Int → Nat), I93 (0 : Int) ∧ ∀ (z92 : Int), (I93 z92 → (((z92 < ((((([] : List Int) ++ o) ++ ([(1 : Int)] : List Int)).length : Nat) : Int)) → ((0 ≤ z92 ∧ z92 < (((([] : List Int) ++ o) ++ ([(1 : Int)] : List Int)).length : Nat)) ∧ ((((gi x30 z92) ≠ (0 : Int)) → Q false) ∧ (¬ ((gi x30 z92) ≠ (0 : Int)) → ((I64 (z92 + (1 : Int))) ∧ (I93 (z92 + (1 : Int)) ∧ μ94 (z92 + (1 : Int)) < μ94 z92)))))) ∧ (¬ (z92 < ((((([] : List Int) ++ o) ++ ([(1 : Int)] : List Int)).length : Nat) : Int)) → Q true))))))))))
theorem ok_rdivides {w : World} {Q : Bool → Prop} {l : List Int} {o : List Int} {p : Int} {Bl : Nat} {Al : Option Addr} {nl kl : Nat} (hl : Rd Bl w 1 Al nl kl (is l)) {Bo : Nat} {Ao : Option Addr} {no ko : Nat} (ho : Rd Bo w 1 Ao no ko (is o)) (hv : V_rdivides l o p Q) :
    Calls Try.prog 105 #[.slice Al nl kl, .slice Ao no ko, .int .i64 p] w fun e w' => ∃ v Qr, e = .returned v ∧ w.grownBy w' none ∧ Rows w.heap.size none w' Qr ∧ News w.heap.size Qr ∧ ∃ (r0 : Bool), v = .bool r0 ∧ Qr = [] ∧ Q r0 := by
  have hnl := hl.ilen
  subst hnl
  have hno := ho.ilen
  subst hno
  refine calls_swap ?_
  refine calls_of_W (vs := [.slice Al l.length kl, .slice Ao o.length ko, .int .i64 p]) [6] Try.func105 rfl rfl rfl rfl ?_
  have hS := St.start w
  unfold V_rdivides at hv
  refine W.seq ?_
  refine W.region ?_
  refine WL.assign rfl rfl ?_
  refine WL.done ?_
  refine W.seq ?_
  refine W.region ?_
  refine WL.move rfl rfl ?_
  refine WL.len Try.underlying22 rfl rfl ?_
  refine WL.assign rfl rfl ?_
  refine WL.done ?_
  refine W.seq ?_
  refine W.region ?_
  refine SL.lit1 (vs := is ([] : List Int)) hS Try.underlying22 Try.el3 rfl rfl rfl rfl (is_one _) rfl ?_
  intro A11 w12 hS
  refine WL.move rfl rfl ?_
  obtain ⟨o14, hv⟩ := hv
  refine SL.append (cs := is ([] : List Int)) (cs' := is o) 0 ((([] : List Int) ++ o).length) (is (([] : List Int) ++ o)) hS rfl Try.underlying22 Try.el3 (hS.ro ho) (is_one _) rfl rfl (apk o14).1 (apk o14).2 (is_ap (hS.rd (i := 0) rfl) (hS.ro ho)) (is_append _ _) rfl ?_
  intro A15 k16 w17 hS
  refine WL.assign rfl rfl ?_
  refine WL.done ?_
  refine W.seq ?_
  refine W.region ?_
  refine WL.move rfl rfl ?_
  refine SL.lit1 (vs := is ([(1 : Int)] : List Int)) hS Try.underlying22 Try.el3 rfl rfl rfl rfl (is_one _) rfl ?_
  intro A18 w19 hS
  obtain ⟨o21, hv⟩ := hv
  refine SL.append (cs := is (([] : List Int) ++ o)) (cs' := is ([(1 : Int)] : List Int)) 1 (((([] : List Int) ++ o) ++ ([(1 : Int)] : List Int)).length) (is ((([] : List Int) ++ o) ++ ([(1 : Int)] : List Int))) hS rfl Try.underlying22 Try.el3 (hS.rd (i := 0) rfl) (is_one _) rfl rfl (apk o21).1 (apk o21).2 (is_ap (hS.rd (i := 1) rfl) (hS.rd (i := 0) rfl)) (is_append _ _) rfl ?_
  intro A22 k23 w24 hS
  refine WL.assign rfl rfl ?_
  refine WL.done ?_
  refine W.seq ?_
  refine W.seq ?_
  refine W.region ?_
  refine WL.move rfl rfl ?_
  refine WL.len Try.underlying22 rfl rfl ?_
  obtain ⟨o25, hv⟩ := hv
  refine WL.sub (r := (((((([] : List Int) ++ o) ++ ([(1 : Int)] : List Int)).length : Nat) : Int) - (1 : Int))) rfl rfl (wr o25) rfl ?_
  refine WL.assign rfl rfl ?_
  refine WL.done ?_
  refine W.block ?_
  obtain ⟨I32, μ33, hv, hk101⟩ := hv
  change St _ _ _ _ [.row 3 1 A18 1 1 (is ([(1 : Int)] : List Int)), .row 3 1 A22 (((([] : List Int) ++ o) ++ ([(1 : Int)] : List Int)).length) k23 (is ((([] : List Int) ++ o) ++ ([(1 : Int)] : List Int)))] at hS
  refine W.loop (σ := List Int × Int) (fun q w1 => match q with | (x30, z31) => I32 x30 z31 ∧ St TT w none w1 [.row 3 1 A18 1 1 (is ([(1 : Int)] : List Int)), .row 3 1 A22 (((([] : List Int) ++ o) ++ ([(1 : Int)] : List Int)).length) k23 (is x30)]) (fun q => match q with | (x30, z31) => [(0, .slice Al l.length kl), (2, .int .i64 p), (6, .bool false), (7, .int .i64 ((l.length : Nat) : Int)), (8, .slice A22 (((([] : List Int) ++ o) ++ ([(1 : Int)] : List Int)).length) k23), (9, .int .i64 z31)]) (fun q => match q with | (x30, z31) => μ33 x30 z31) ((([] : List Int) ++ o) ++ ([(1 : Int)] : List Int), (((((([] : List Int) ++ o) ++ ([(1 : Int)] : List Int)).length : Nat) : Int) - (1 : Int))) ⟨hv, hS⟩ ⟨rfl, rfl, rfl, rfl, rfl, rfl, trivial⟩ ?_
  rintro ⟨x30, z31⟩ w34 ⟨hv, hS⟩
  have hv := hk101 x30 z31 hv
  refine W.seq ?_
  refine W.seq ?_
  refine W.region ?_
  refine WL.move rfl rfl ?_
  refine WL.move rfl rfl ?_
  refine WL.geqD rfl rfl rfl ?_
  refine WL.done ?_
  refine W.cond2 rfl (fun c35 => ?_) (fun c35 => ?_)
  · have hv := hv.1 (of_decide_eq_true c35)
    refine W.skip ?_
    refine W.seq ?_
    refine W.block ?_
    refine W.seq ?_
    refine W.region ?_
    refine WL.move rfl rfl ?_
    refine WL.move rfl rfl ?_
    obtain ⟨o36, hv⟩ := hv
    refine SL.index Try.underlying22 Try.el3 (hS.rd (i := 1) rfl) rfl rfl o36 rfl ?_
    refine WL.load Try.underlying3 rfl rfl (Rd.gi (hS.rd (i := 1) rfl) o36) rfl ?_
    refine WL.assign rfl rfl ?_
    refine WL.done ?_
    refine W.seq ?_
    refine W.seq ?_
    refine W.region ?_
    refine WL.assign rfl rfl ?_
    refine WL.done ?_
    refine W.block ?_
    obtain ⟨I43, μ44, hv, hk89⟩ := hv
    change St _ _ _ _ [.row 3 1 A18 1 1 (is ([(1 : Int)] : List Int)), .row 3 1 A22 (((([] : List Int) ++ o) ++ ([(1 : Int)] : List Int)).length) k23 (is x30)] at hS
    refine W.loop (σ := List Int × Int) (fun q w1 => match q with | (x41, z42) => I43 x41 z42 ∧ St TT w none w1 [.row 3 1 A18 1 1 (is ([(1 : Int)] : List Int)), .row 3 1 A22 (((([] : List Int) ++ o) ++ ([(1 : Int)] : List Int)).length) k23 (is x41)]) (fun q => match q with | (x41, z42) => [(0, .slice Al l.length kl), (2, .int .i64 p), (6, .bool false), (7, .int .i64 ((l.length : Nat) : Int)), (8, .slice A22 (((([] : List Int) ++ o) ++ ([(1 : Int)] : List Int)).length) k23), (9, .int .i64 z31), (10, .int .i64 (gi x30 z31)), (11, .int .i64 z42), (26, .bool (decide (((l.length : Nat) : Int) ≤ z31)))]) (fun q => match q with | (x41, z42) => μ44 x41 z42) (x30, (0 : Int)) ⟨hv, hS⟩ ⟨rfl, rfl, rfl, rfl, rfl, rfl, rfl, rfl, rfl, trivial⟩ ?_
    rintro ⟨x41, z42⟩ w45 ⟨hv, hS⟩
    have hv := hk89 x41 z42 hv
    refine W.seq ?_
    refine W.seq ?_
    refine W.region ?_
    refine WL.move rfl rfl ?_
    refine WL.move rfl rfl ?_
    refine WL.lssD rfl rfl rfl ?_
    refine WL.done ?_
    refine W.cond2 rfl (fun c46 => ?_) (fun c46 => ?_)
    · have hv := hv.1 (of_decide_eq_true c46)
      refine W.skip ?_
      refine W.seq ?_
      refine W.block ?_
      obtain ⟨o51, hv⟩ := hv
      obtain ⟨o54, hv⟩ := hv
      obtain ⟨o59, hv⟩ := hv
      obtain ⟨o62, hv⟩ := hv
      obtain ⟨o64, hv⟩ := hv
      obtain ⟨o69, hv⟩ := hv
      obtain ⟨o73, hv⟩ := hv
      obtain ⟨o76, hv⟩ := hv
      obtain ⟨o78, hv⟩ := hv
      obtain ⟨o81, hv⟩ := hv
      have hS0 := hS
      refine W.drawX 25 (fun _ => false) (fun _ => none) [⟨[], [8], true⟩, ⟨[], [9], true⟩, ⟨[], [7], true⟩, ⟨[1, 2], [], true⟩, ⟨[], [11], true⟩, ⟨[3, 4], [], true⟩, ⟨[], [8], true⟩, ⟨[], [9], true⟩, ⟨[], [7], true⟩, ⟨[7, 8], [], true⟩, ⟨[], [11], true⟩, ⟨[9, 10], [], true⟩, ⟨[6, 11], [], true⟩, ⟨[12], [], false⟩, ⟨[], [2], true⟩, ⟨[], [10], true⟩, ⟨[14, 15], [], true⟩, ⟨[], [0], true⟩, ⟨[], [11], true⟩, ⟨[17, 18], [], true⟩, ⟨[19], [], false⟩, ⟨[16, 20], [], true⟩, ⟨[13, 21], [], true⟩, ⟨[], [2], true⟩, ⟨[22, 23], [], true⟩] [[(8, .slice A22 (((([] : List Int) ++ o) ++ ([(1 : Int)] : List Int)).length) k23)], [(9, .int .i64 z31)], [(7, .int .i64 ((l.length : Nat) : Int))], [], [(11, .int .i64 z42)], [], [(8, .slice A22 (((([] : List Int) ++ o) ++ ([(1 : Int)] : List Int)).length) k23)], [(9, .int .i64 z31)], [(7, .int .i64 ((l.length : Nat) : Int))], [], [(11, .int .i64 z42)], [], [], [], [(2, .int .i64 p)], [(10, .int .i64 (gi x30 z31))], [], [(0, .slice Al l.length kl)], [(11, .int .i64 z42)], [], [], [], [], [(2, .int .i64 p)], []] (fun iQ => [fun v _ => v = .slice A22 (((([] : List Int) ++ o) ++ ([(1 : Int)] : List Int)).length) k23, fun v _ => v = .int .i64 z31, fun v _ => v = .int .i64 ((l.length : Nat) : Int), fun v _ => v = .int .i64 (z31 - ((l.length : Nat) : Int)), fun v _ => v = .int .i64 z42, fun v _ => v = .int .i64 ((z31 - ((l.length : Nat) : Int)) + z42), fun v _ => v = .slice A22 (((([] : List Int) ++ o) ++ ([(1 : Int)] : List Int)).length) k23, fun v _ => v = .int .i64 z31, fun v _ => v = .int .i64 ((l.length : Nat) : Int), fun v _ => v = .int .i64 (z31 - ((l.length : Nat) : Int)), fun v _ => v = .int .i64 z42, fun v _ => v = .int .i64 ((z31 - ((l.length : Nat) : Int)) + z42), fun v _ => v = .pointer (some ((adOf A22).add (((z31 - ((l.length : Nat) : Int)) + z42).toNat))), fun v _ => v = .int .i64 (gi x41 ((z31 - ((l.length : Nat) : Int)) + z42)), fun v _ => v = .int .i64 p, fun v _ => v = .int .i64 (gi x30 z31), fun v _ => v = .int .i64 (p - (gi x30 z31)), fun v _ => v = .slice Al l.length kl, fun v _ => v = .int .i64 z42, fun v _ => v = .pointer (some ((adOf Al).add z42.toNat)), fun v _ => v = .int .i64 (gi l z42), fun v _ => v = .int .i64 ((p - (gi x30 z31)) * (gi l z42)), fun v _ => v = .int .i64 ((gi x41 ((z31 - ((l.length : Nat) : Int)) + z42)) + ((p - (gi x30 z31)) * (gi l z42))), fun v _ => v = .int .i64 p, fun v _ => v = .int .i64 (((gi x41 ((z31 - ((l.length : Nat) : Int)) + z42)) + ((p - (gi x30 z31)) * (gi l z42))).tmod p)].getD iQ (fun _ _ => True)) Try.mixed (by kernel_rfl) ?_ (by kernel_rfl) ?_ ?_
      · refine Vs_monoT _ ?_
        intro VQ hVQ vQ wQ1 wQ2 hQ1 hQ2
        simp only [List.mem_cons, List.not_mem_nil, or_false] at hVQ
        rcases hVQ with rfl | rfl | rfl | rfl | rfl | rfl | rfl | rfl | rfl | rfl | rfl | rfl | rfl | rfl | rfl | rfl | rfl | rfl | rfl | rfl | rfl | rfl | rfl | rfl | rfl
        · exact hQ1
        · exact hQ1
        · exact hQ1
        · exact hQ1
        · exact hQ1
        · exact hQ1
        · exact hQ1
        · exact hQ1
        · exact hQ1
        · exact hQ1
        · exact hQ1
        · exact hQ1
        · exact hQ1
        · exact hQ1
        · exact hQ1
        · exact hQ1
        · exact hQ1
        · exact hQ1
        · exact hQ1
        · exact hQ1
        · exact hQ1
        · exact hQ1
        · exact hQ1
        · exact hQ1
        · exact hQ1
      · refine ⟨⟨rfl, ⟨rfl, trivial⟩, ?_⟩, ⟨rfl, ⟨rfl, trivial⟩, ?_⟩, ⟨rfl, ⟨rfl, trivial⟩, ?_⟩, ⟨rfl, trivial, ?_⟩, ⟨rfl, ⟨rfl, trivial⟩, ?_⟩, ⟨rfl, trivial, ?_⟩, ⟨rfl, ⟨rfl, trivial⟩, ?_⟩, ⟨rfl, ⟨rfl, trivial⟩, ?_⟩, ⟨rfl, ⟨rfl, trivial⟩, ?_⟩, ⟨rfl, trivial, ?_⟩, ⟨rfl, ⟨rfl, trivial⟩, ?_⟩, ⟨rfl, trivial, ?_⟩, ⟨rfl, trivial, ?_⟩, ⟨rfl, trivial, ?_⟩, ⟨rfl, ⟨rfl, trivial⟩, ?_⟩, ⟨rfl, ⟨rfl, trivial⟩, ?_⟩, ⟨rfl, trivial, ?_⟩, ⟨rfl, ⟨rfl, trivial⟩, ?_⟩, ⟨rfl, ⟨rfl, trivial⟩, ?_⟩, ⟨rfl, trivial, ?_⟩, ⟨rfl, trivial, ?_⟩, ⟨rfl, trivial, ?_⟩, ⟨rfl, trivial, ?_⟩, ⟨rfl, ⟨rfl, trivial⟩, ?_⟩, ⟨rfl, trivial, ?_⟩, trivial⟩
        · intro w47 hE
          intro RR
          refine WL.move rfl rfl ?_
          exact WL.done ⟨_, rfl, rfl, rfl, (fun h => absurd h (by decide)), (fun j h => by cases h)⟩
        · intro w48 hE
          intro RR
          refine WL.move rfl rfl ?_
          exact WL.done ⟨_, rfl, rfl, rfl, (fun h => absurd h (by decide)), (fun j h => by cases h)⟩
        · intro w49 hE
          intro RR
          refine WL.move rfl rfl ?_
          exact WL.done ⟨_, rfl, rfl, rfl, (fun h => absurd h (by decide)), (fun j h => by cases h)⟩
        · intro w50 hE
          rintro _ rfl
          rintro _ rfl
          intro RR
          refine WL.sub (r := (z31 - ((l.length : Nat) : Int))) rfl rfl (wr o51) rfl ?_
          exact WL.done ⟨_, rfl, rfl, rfl, (fun h => absurd h (by decide)), (fun j h => by cases h)⟩
        · intro w52 hE
          intro RR
          refine WL.move rfl rfl ?_
          exact WL.done ⟨_, rfl, rfl, rfl, (fun h => absurd h (by decide)), (fun j h => by cases h)⟩
        · intro w53 hE
          rintro _ rfl
          rintro _ rfl
          intro RR
          refine WL.add (r := ((z31 - ((l.length : Nat) : Int)) + z42)) rfl rfl (wr o54) rfl ?_
          exact WL.done ⟨_, rfl, rfl, rfl, (fun h => absurd h (by decide)), (fun j h => by cases h)⟩
        · intro w55 hE
          intro RR
          refine WL.move rfl rfl ?_
          exact WL.done ⟨_, rfl, rfl, rfl, (fun h => absurd h (by decide)), (fun j h => by cases h)⟩
        · intro w56 hE
          intro RR
          refine WL.move rfl rfl ?_
          exact WL.done ⟨_, rfl, rfl, rfl, (fun h => absurd h (by decide)), (fun j h => by cases h)⟩
        · intro w57 hE
          intro RR
          refine WL.move rfl rfl ?_
          exact WL.done ⟨_, rfl, rfl, rfl, (fun h => absurd h (by decide)), (fun j h => by cases h)⟩
        · intro w58 hE
          rintro _ rfl
          rintro _ rfl
          intro RR
          refine WL.sub (r := (z31 - ((l.length : Nat) : Int))) rfl rfl (wr o59) rfl ?_
          exact WL.done ⟨_, rfl, rfl, rfl, (fun h => absurd h (by decide)), (fun j h => by cases h)⟩
        · intro w60 hE
          intro RR
          refine WL.move rfl rfl ?_
          exact WL.done ⟨_, rfl, rfl, rfl, (fun h => absurd h (by decide)), (fun j h => by cases h)⟩
        · intro w61 hE
          rintro _ rfl
          rintro _ rfl
          intro RR
          refine WL.add (r := ((z31 - ((l.length : Nat) : Int)) + z42)) rfl rfl (wr o62) rfl ?_
          exact WL.done ⟨_, rfl, rfl, rfl, (fun h => absurd h (by decide)), (fun j h => by cases h)⟩
        · intro w63 hE
          rintro _ rfl
          rintro _ rfl
          intro RR
          refine SL.index Try.underlying22 Try.el3 (hS.rd (i := 1) rfl) rfl rfl o64 rfl ?_
          exact WL.done ⟨_, rfl, rfl, rfl, (fun h => absurd h (by decide)), (fun j h => by cases h)⟩
        · intro w65 hE
          have hE := hE rfl
          have hS := hS.grow hE
          rintro _ rfl
          intro RR
          refine WL.load Try.underlying3 rfl rfl (Rd.gi (hS.rd (i := 1) rfl) o64) rfl ?_
          exact WL.done ⟨_, rfl, ext_refl _, rfl, (fun h => absurd h (by decide)), (fun j h => by cases h)⟩
        · intro w66 hE
          intro RR
          refine WL.move rfl rfl ?_
          exact WL.done ⟨_, rfl, rfl, rfl, (fun h => absurd h (by decide)), (fun j h => by cases h)⟩
        · intro w67 hE
          intro RR
          refine WL.move rfl rfl ?_
          exact WL.done ⟨_, rfl, rfl, rfl, (fun h => absurd h (by decide)), (fun j h => by cases h)⟩
        · intro w68 hE
          rintro _ rfl
          rintro _ rfl
          intro RR
          refine WL.sub (r := (p - (gi x30 z31))) rfl rfl (wr o69) rfl ?_
          exact WL.done ⟨_, rfl, rfl, rfl, (fun h => absurd h (by decide)), (fun j h => by cases h)⟩
        · intro w70 hE
          intro RR
          refine WL.move rfl rfl ?_
          exact WL.done ⟨_, rfl, rfl, rfl, (fun h => absurd h (by decide)), (fun j h => by cases h)⟩
        · intro w71 hE
          intro RR
          refine WL.move rfl rfl ?_
          exact WL.done ⟨_, rfl, rfl, rfl, (fun h => absurd h (by decide)), (fun j h => by cases h)⟩
        · intro w72 hE
          rintro _ rfl
          rintro _ rfl
          intro RR
          refine SL.index Try.underlying22 Try.el3 (hS.ro hl) rfl rfl o73 rfl ?_
          exact WL.done ⟨_, rfl, rfl, rfl, (fun h => absurd h (by decide)), (fun j h => by cases h)⟩
        · intro w74 hE
          have hE := hE rfl
          have hS := hS.grow hE
          rintro _ rfl
          intro RR
          refine WL.load Try.underlying3 rfl rfl (Rd.gi (hS.ro hl) o73) rfl ?_
          exact WL.done ⟨_, rfl, ext_refl _, rfl, (fun h => absurd h (by decide)), (fun j h => by cases h)⟩
        · intro w75 hE
          rintro _ rfl
          rintro _ rfl
          intro RR
          refine WL.mul (r := ((p - (gi x30 z31)) * (gi l z42))) rfl rfl (wr o76) rfl ?_
          exact WL.done ⟨_, rfl, rfl, rfl, (fun h => absurd h (by decide)), (fun j h => by cases h)⟩
        · intro w77 hE
          rintro _ rfl
          rintro _ rfl
          intro RR
          refine WL.add (r := ((gi x41 ((z31 - ((l.length : Nat) : Int)) + z42)) + ((p - (gi x30 z31)) * (gi l z42)))) rfl rfl (wr o78) rfl ?_
          exact WL.done ⟨_, rfl, rfl, rfl, (fun h => absurd h (by decide)), (fun j h => by cases h)⟩
        · intro w79 hE
          intro RR
          refine WL.move rfl rfl ?_
          exact WL.done ⟨_, rfl, rfl, rfl, (fun h => absurd h (by decide)), (fun j h => by cases h)⟩
        · intro w80 hE
          rintro _ rfl
          rintro _ rfl
          intro RR
          refine WL.rem (r := (((gi x41 ((z31 - ((l.length : Nat) : Int)) + z42)) + ((p - (gi x30 z31)) * (gi l z42))).tmod p)) rfl rfl o81 rfl rfl ?_
          exact WL.done ⟨_, rfl, rfl, rfl, (fun h => absurd h (by decide)), (fun j h => by cases h)⟩
      · intro vals w82 hT hVs hAp hCp
        have hS := hS.grow hT
        have hv0 : vals 0 = _ := hVs 0 (by decide)
        have hv1 : vals 1 = _ := hVs 1 (by decide)
        have hv2 : vals 2 = _ := hVs 2 (by decide)
        have hv3 : vals 3 = _ := hVs 3 (by decide)
        have hv4 : vals 4 = _ := hVs 4 (by decide)
        have hv5 : vals 5 = _ := hVs 5 (by decide)
        have hv6 : vals 6 = _ := hVs 6 (by decide)
        have hv7 : vals 7 = _ := hVs 7 (by decide)
        have hv8 : vals 8 = _ := hVs 8 (by decide)
        have hv9 : vals 9 = _ := hVs 9 (by decide)
        have hv10 : vals 10 = _ := hVs 10 (by decide)
        have hv11 : vals 11 = _ := hVs 11 (by decide)
        have hv12 : vals 12 = _ := hVs 12 (by decide)
        have hv13 : vals 13 = _ := hVs 13 (by decide)
        have hv14 : vals 14 = _ := hVs 14 (by decide)
        have hv15 : vals 15 = _ := hVs 15 (by decide)
        have hv16 : vals 16 = _ := hVs 16 (by decide)
        have hv17 : vals 17 = _ := hVs 17 (by decide)
        have hv18 : vals 18 = _ := hVs 18 (by decide)
        have hv19 : vals 19 = _ := hVs 19 (by decide)
        have hv20 : vals 20 = _ := hVs 20 (by decide)
        have hv21 : vals 21 = _ := hVs 21 (by decide)
        have hv22 : vals 22 = _ := hVs 22 (by decide)
        have hv23 : vals 23 = _ := hVs 23 (by decide)
        have hv24 : vals 24 = _ := hVs 24 (by decide)
        rw [show (List.filterMap (fun i => Option.map (fun t => (t, vals i)) (dstAt _ i)) (List.range _)) = [(38, .slice A22 (((([] : List Int) ++ o) ++ ([(1 : Int)] : List Int)).length) k23), (39, .int .i64 z31), (40, .int .i64 ((l.length : Nat) : Int)), (41, .int .i64 (z31 - ((l.length : Nat) : Int))), (42, .int .i64 z42), (43, .int .i64 ((z31 - ((l.length : Nat) : Int)) + z42)), (44, .slice A22 (((([] : List Int) ++ o) ++ ([(1 : Int)] : List Int)).length) k23), (45, .int .i64 z31), (46, .int .i64 ((l.length : Nat) : Int)), (47, .int .i64 (z31 - ((l.length : Nat) : Int))), (48, .int .i64 z42), (49, .int .i64 ((z31 - ((l.length : Nat) : Int)) + z42)), (50, .pointer (some ((adOf A22).add (((z31 - ((l.length : Nat) : Int)) + z42).toNat)))), (51, .int .i64 (gi x41 ((z31 - ((l.length : Nat) : Int)) + z42))), (52, .int .i64 p), (53, .int .i64 (gi x30 z31)), (54, .int .i64 (p - (gi x30 z31))), (55, .slice Al l.length kl), (56, .int .i64 z42), (57, .pointer (some ((adOf Al).add z42.toNat))), (58, .int .i64 (gi l z42)), (59, .int .i64 ((p - (gi x30 z31)) * (gi l z42))), (60, .int .i64 ((gi x41 ((z31 - ((l.length : Nat) : Int)) + z42)) + ((p - (gi x30 z31)) * (gi l z42)))), (61, .int .i64 p), (62, .int .i64 (((gi x41 ((z31 - ((l.length : Nat) : Int)) + z42)) + ((p - (gi x30 z31)) * (gi l z42))).tmod p))] from by
          show [(38, vals 0), (39, vals 1), (40, vals 2), (41, vals 3), (42, vals 4), (43, vals 5), (44, vals 6), (45, vals 7), (46, vals 8), (47, vals 9), (48, vals 10), (49, vals 11), (50, vals 12), (51, vals 13), (52, vals 14), (53, vals 15), (54, vals 16), (55, vals 17), (56, vals 18), (57, vals 19), (58, vals 20), (59, vals 21), (60, vals 22), (61, vals 23), (62, vals 24)] = _
          rw [hv0, hv1, hv2, hv3, hv4, hv5, hv6, hv7, hv8, hv9, hv10, hv11, hv12, hv13, hv14, hv15, hv16, hv17, hv18, hv19, hv20, hv21, hv22, hv23, hv24]]
        refine WA.step [25] (by decide +kernel) rfl ?_
        intro iQ hQ
        simp only [List.mem_cons, List.not_mem_nil, or_false] at hQ
        obtain rfl := hQ
        refine ⟨_, rfl, ?_⟩
        obtain ⟨o83, hv⟩ := hv
        refine SL.index Try.underlying22 Try.el3 (hS.rd (i := 1) rfl) rfl rfl o83 rfl ?_
        refine WL.done ?_
        refine WA.step [26] (by decide +kernel) rfl ?_
        intro iQ hQ
        simp only [List.mem_cons, List.not_mem_nil, or_false] at hQ
        obtain rfl := hQ
        refine ⟨_, rfl, ?_⟩
        refine SL.store (cs' := is (si x41 ((z31 - ((l.length : Nat) : Int)) + z42) (((gi x41 ((z31 - ((l.length : Nat) : Int)) + z42)) + ((p - (gi x30 z31)) * (gi l z42))).tmod p))) 1 ((z31 - ((l.length : Nat) : Int)) + z42).toNat hS rfl Try.el3 rfl rfl rfl (is_lt (hS.rd (i := 1) rfl) o83) (is_set _ _ _) ?_
        intro w84 hS
        refine WL.done ?_
        refine WA.done (by decide +kernel) ?_
        refine W.region ?_
        refine WL.move rfl rfl ?_
        obtain ⟨o85, hv⟩ := hv
        refine WL.add (r := (z42 + (1 : Int))) rfl rfl (wr o85) rfl ?_
        refine WL.assign rfl rfl ?_
        refine WL.done ?_
        change St _ _ _ _ [.row 3 1 A18 1 1 (is ([(1 : Int)] : List Int)), .row 3 1 A22 (((([] : List Int) ++ o) ++ ([(1 : Int)] : List Int)).length) k23 (is (si x41 ((z31 - ((l.length : Nat) : Int)) + z42) (((gi x41 ((z31 - ((l.length : Nat) : Int)) + z42)) + ((p - (gi x30 z31)) * (gi l z42))).tmod p)))] at hS
        exact ⟨(si x41 ((z31 - ((l.length : Nat) : Int)) + z42) (((gi x41 ((z31 - ((l.length : Nat) : Int)) + z42)) + ((p - (gi x30 z31)) * (gi l z42))).tmod p), (z42 + (1 : Int))), ⟨rfl, rfl, rfl, rfl, rfl, rfl, rfl, rfl, rfl, trivial⟩, hv.2, rfl, hv.1, hS⟩
    · have hv := hv.2 (of_decide_eq_false c46)
      refine W.exit ?_
      refine W.region ?_
      refine WL.move rfl rfl ?_
      refine WL.move rfl rfl ?_
      obtain ⟨o86, hv⟩ := hv
      refine SL.index Try.underlying22 Try.el3 (hS.rd (i := 1) rfl) rfl rfl o86 rfl ?_
      refine SL.store (cs' := is (si x41 z31 (0 : Int))) 1 z31.toNat hS rfl Try.el3 rfl rfl rfl (is_lt (hS.rd (i := 1) rfl) o86) (is_set _ _ _) ?_
      intro w87 hS
      refine WL.done ?_
      refine W.region ?_
      refine WL.move rfl rfl ?_
      obtain ⟨o88, hv⟩ := hv
      refine WL.sub (r := (z31 - (1 : Int))) rfl rfl (wr o88) rfl ?_
      refine WL.assign rfl rfl ?_
      refine WL.done ?_
      change St _ _ _ _ [.row 3 1 A18 1 1 (is ([(1 : Int)] : List Int)), .row 3 1 A22 (((([] : List Int) ++ o) ++ ([(1 : Int)] : List Int)).length) k23 (is (si x41 z31 (0 : Int)))] at hS
      exact ⟨(si x41 z31 (0 : Int), (z31 - (1 : Int))), ⟨rfl, rfl, rfl, rfl, rfl, rfl, trivial⟩, hv.2, rfl, hv.1, hS⟩
  · have hv := hv.2 (of_decide_eq_false c35)
    refine W.exit ?_
    refine W.seq ?_
    refine W.seq ?_
    refine W.region ?_
    refine WL.assign rfl rfl ?_
    refine WL.done ?_
    refine W.block ?_
    obtain ⟨I93, μ94, hv, hk100⟩ := hv
    change St _ _ _ _ [.row 3 1 A18 1 1 (is ([(1 : Int)] : List Int)), .row 3 1 A22 (((([] : List Int) ++ o) ++ ([(1 : Int)] : List Int)).length) k23 (is x30)] at hS
    refine W.loop (σ := Int) (fun z92 w1 => I93 z92 ∧ St TT w none w1 [.row 3 1 A18 1 1 (is ([(1 : Int)] : List Int)), .row 3 1 A22 (((([] : List Int) ++ o) ++ ([(1 : Int)] : List Int)).length) k23 (is x30)]) (fun z92 => [(6, .bool false), (8, .slice A22 (((([] : List Int) ++ o) ++ ([(1 : Int)] : List Int)).length) k23), (12, .int .i64 z92)]) (fun z92 => μ94 z92) (0 : Int) ⟨hv, hS⟩ ⟨rfl, rfl, rfl, trivial⟩ ?_
    rintro z92 w95 ⟨hv, hS⟩
    have hv := hk100 z92 hv
    refine W.seq ?_
    refine W.seq ?_
    refine W.region ?_
    refine WL.move rfl rfl ?_
    refine WL.move rfl rfl ?_
    refine WL.len Try.underlying22 rfl rfl ?_
    refine WL.lssD rfl rfl rfl ?_
    refine WL.done ?_
    refine W.cond2 rfl (fun c96 => ?_) (fun c96 => ?_)
    · have hv := hv.1 (of_decide_eq_true c96)
      refine W.skip ?_
      refine W.seq ?_
      refine W.block ?_
      refine W.seq ?_
      refine W.region ?_
      refine WL.move rfl rfl ?_
      refine WL.move rfl rfl ?_
      obtain ⟨o97, hv⟩ := hv
      refine SL.index Try.underlying22 Try.el3 (hS.rd (i := 1) rfl) rfl rfl o97 rfl ?_
      refine WL.load Try.underlying3 rfl rfl (Rd.gi (hS.rd (i := 1) rfl) o97) rfl ?_
      refine WL.neqD rfl rfl rfl ?_
      refine WL.done ?_
      refine W.cond2 rfl (fun c98 => ?_) (fun c98 => ?_)
      · have hv := hv.1 (of_decide_eq_true c98)
        refine W.seq ?_
        refine W.region ?_
        refine WL.assign rfl rfl ?_
        refine WL.done ?_
        refine W.ret ?_
        refine ⟨_, rfl, Fin.nil ?_⟩
        exact ⟨_, hS.ext, (hS.pick [] rfl).rows, News.of (hS.pick [] rfl).rows rfl, ⟨false, rfl, rfl, hv⟩⟩
      · have hv := hv.2 (of_decide_eq_false c98)
        refine W.skip ?_
        refine W.region ?_
        refine WL.move rfl rfl ?_
        obtain ⟨o99, hv⟩ := hv
        refine WL.add (r := (z92 + (1 : Int))) rfl rfl (wr o99) rfl ?_
        refine WL.assign rfl rfl ?_
        refine WL.done ?_
        change St _ _ _ _ [.row 3 1 A18 1 1 (is ([(1 : Int)] : List Int)), .row 3 1 A22 (((([] : List Int) ++ o) ++ ([(1 : Int)] : List Int)).length) k23 (is x30)] at hS
        exact ⟨(z92 + (1 : Int)), ⟨rfl, rfl, rfl, trivial⟩, hv.2, rfl, hv.1, hS⟩
    · have hv := hv.2 (of_decide_eq_false c96)
      refine W.exit ?_
      refine W.seq ?_
      refine W.region ?_
      refine WL.assign rfl rfl ?_
      refine WL.done ?_
      refine W.ret ?_
      refine ⟨_, rfl, Fin.nil ?_⟩
      exact ⟨_, hS.ext, (hS.pick [] rfl).rows, News.of (hS.pick [] rfl).rows rfl, ⟨true, rfl, rfl, hv⟩⟩

def V_rirr (l : List Int) (p : Int) (Q : Bool → Prop) : Prop :=
  ∃ (I17 : Int → Int → Prop) (μ18 : Int → Int → Nat), I17 (1 : Int) (1 : Int) ∧ ∀ (z15 : Int) (z16 : Int), (I17 z15 z16 → ((I64 ((2 : Int) * z16)) ∧ (((((2 : Int) * z16) ≤ ((l.length : Nat) : Int)) → ((I64 (z15 * p)) ∧ (∃ (I26 : Int → Prop) (μ27 : Int → Nat), I26 (0 : Int) ∧ ∀ (z25 : Int), (I26 z25 → (((z25 < (z15 * p)) → (V_rdigits z25 p z16 (fun x31 => V_rdivides x31 l p (fun r36 => ((r36 = true) → Q false) ∧ (r36 = false → ((I64 (z25 + (1 : Int))) ∧ (I26 (z25 + (1 : Int)) ∧ μ27 (z25 + (1 : Int)) < μ27 z25))))))) ∧ (¬ (z25 < (z15 * p)) → ((I64 (z16 + (1 : Int))) ∧ (I17 (z15 * p) (z16 + (1 : Int)) ∧ μ18 (z15 * p) (z16 + (1 : Int)) < μ18 z15 z16)))))))) ∧ (¬ (((2 : Int) * z16) ≤ ((l.length : Nat) : Int)) → Q true))))
theorem ok_rirr {w : World} {Q : Bool → Prop} {l : List Int} {p : Int} {Bl : Nat} {Al : Option Addr} {nl kl : Nat} (hl : Rd Bl w 1 Al nl kl (is l)) (hv : V_rirr l p Q) :
    Calls Try.prog 90 #[.slice Al nl kl, .int .i64 p] w fun e w' => ∃ v Qr, e = .returned v ∧ w.grownBy w' none ∧ Rows w.heap.size none w' Qr ∧ News w.heap.size Qr ∧ ∃ (r0 : Bool), v = .bool r0 ∧ Qr = [] ∧ Q r0 := by
  have hnl := hl.ilen
  subst hnl
  refine calls_swap ?_
  refine calls_of_W (vs := [.slice Al l.length kl, .int .i64 p]) [4] Try.func90 rfl rfl rfl rfl ?_
  have hS := St.start w
  unfold V_rirr at hv
  refine W.seq ?_
  refine W.region ?_
  refine WL.assign rfl rfl ?_
  refine WL.done ?_
  refine W.seq ?_
  refine W.region ?_
  refine WL.assign rfl rfl ?_
  refine WL.done ?_
  refine W.seq ?_
  refine W.seq ?_
  refine W.region ?_
  refine WL.assign rfl rfl ?_
  refine WL.done ?_
  refine W.block ?_
  obtain ⟨I17, μ18, hv, hk41⟩ := hv
  change St _ _ _ _ [] at hS
  refine W.loop (σ := Int × Int) (fun q w1 => match q with | (z15, z16) => I17 z15 z16 ∧ St TT w none w1 []) (fun q => match q with | (z15, z16) => [(0, .slice Al l.length kl), (1, .int .i64 p), (4, .bool false), (5, .int .i64 z15), (6, .int .i64 z16)]) (fun q => match q with | (z15, z16) => μ18 z15 z16) ((1 : Int), (1 : Int)) ⟨hv, hS⟩ ⟨rfl, rfl, rfl, rfl, rfl, trivial⟩ ?_
  rintro ⟨z15, z16⟩ w19 ⟨hv, hS⟩
  have hv := hk41 z15 z16 hv
  refine W.seq ?_
  refine W.seq ?_
  refine W.region ?_
  refine WL.move rfl rfl ?_
  obtain ⟨o20, hv⟩ := hv
  refine WL.mul (r := ((2 : Int) * z16)) rfl rfl (wr o20) rfl ?_
  refine WL.move rfl rfl ?_
  refine WL.len Try.underlying22 rfl rfl ?_
  refine WL.leqD rfl rfl rfl ?_
  refine WL.done ?_
  refine W.cond2 rfl (fun c21 => ?_) (fun c21 => ?_)
  · have hv := hv.1 (of_decide_eq_true c21)
    refine W.skip ?_
    refine W.seq ?_
    refine W.block ?_
    refine W.seq ?_
    refine W.region ?_
    refine WL.move rfl rfl ?_
    refine WL.move rfl rfl ?_
    obtain ⟨o22, hv⟩ := hv
    refine WL.mul (r := (z15 * p)) rfl rfl (wr o22) rfl ?_
    refine WL.assign rfl rfl ?_
    refine WL.done ?_
    refine W.seq ?_
    refine W.region ?_
    refine WL.assign rfl rfl ?_
    refine WL.done ?_
    refine W.block ?_
    obtain ⟨I26, μ27, hv, hk40⟩ := hv
    change St _ _ _ _ [] at hS
    refine W.loop (σ := Int) (fun z25 w1 => I26 z25 ∧ St TT w none w1 []) (fun z25 => [(0, .slice Al l.length kl), (1, .int .i64 p), (4, .bool false), (5, .int .i64 (z15 * p)), (6, .int .i64 z16), (7, .int .i64 z25), (12, .bool (decide (((2 : Int) * z16) ≤ ((l.length : Nat) : Int))))]) (fun z25 => μ27 z25) (0 : Int) ⟨hv, hS⟩ ⟨rfl, rfl, rfl, rfl, rfl, rfl, rfl, trivial⟩ ?_
    rintro z25 w28 ⟨hv, hS⟩
    have hv := hk40 z25 hv
    refine W.seq ?_
    refine W.seq ?_
    refine W.region ?_
    refine WL.move rfl rfl ?_
    refine WL.move rfl rfl ?_
    refine WL.lssD rfl rfl rfl ?_
    refine WL.done ?_
    refine W.cond2 rfl (fun c29 => ?_) (fun c29 => ?_)
    · have hv := hv.1 (of_decide_eq_true c29)
      refine W.skip ?_
      refine W.seq ?_
      refine W.block ?_
      refine W.seq ?_
      refine W.region ?_
      refine WL.move rfl rfl ?_
      refine WL.move rfl rfl ?_
      refine WL.move rfl rfl ?_
      refine SL.call hS (ok_rdigits  hv) Try.func101 rfl Try.nm101 rfl rfl ?_
      rintro _ _ w30 ⟨x31, A32, k33, rfl, rfl, hv⟩ hGw30 hS
      change St _ _ _ _ [.row 3 1 A32 x31.length k33 (is x31)] at hS
      refine WL.move rfl rfl ?_
      refine WL.move rfl rfl ?_
      refine SL.call hS (ok_rdivides (hS.rd (i := 0) rfl) (hS.ro hl) hv) Try.func105 rfl Try.nm105 rfl rfl ?_
      rintro _ _ w35 ⟨r36, rfl, rfl, hv⟩ hGw35 hS
      change St _ _ _ _ [.row 3 1 A32 x31.length k33 (is x31)] at hS
      refine WL.done ?_
      refine W.cond2 rfl (fun c37 => ?_) (fun c37 => ?_)
      · have hv := hv.1 (c37)
        refine W.seq ?_
        refine W.region ?_
        refine WL.assign rfl rfl ?_
        refine WL.done ?_
        refine W.ret ?_
        refine ⟨_, rfl, Fin.nil ?_⟩
        exact ⟨_, hS.ext, (hS.pick [] rfl).rows, News.of (hS.pick [] rfl).rows rfl, ⟨false, rfl, rfl, hv⟩⟩
      · have hv := hv.2 (c37)
        refine W.skip ?_
        refine W.region ?_
        refine WL.move rfl rfl ?_
        obtain ⟨o38, hv⟩ := hv
        refine WL.add (r := (z25 + (1 : Int))) rfl rfl (wr o38) rfl ?_
        refine WL.assign rfl rfl ?_
        refine WL.done ?_
        have hS := hS.pick [] rfl
        change St _ _ _ _ [] at hS
        exact ⟨(z25 + (1 : Int)), ⟨rfl, rfl, rfl, rfl, rfl, rfl, rfl, trivial⟩, hv.2, rfl, hv.1, hS⟩
    · have hv := hv.2 (of_decide_eq_false c29)
      refine W.exit ?_
      refine W.region ?_
      refine WL.move rfl rfl ?_
      obtain ⟨o39, hv⟩ := hv
      refine WL.add (r := (z16 + (1 : Int))) rfl rfl (wr o39) rfl ?_
      refine WL.assign rfl rfl ?_
      refine WL.done ?_
      change St _ _ _ _ [] at hS
      exact ⟨((z15 * p), (z16 + (1 : Int))), ⟨rfl, rfl, rfl, rfl, rfl, trivial⟩, hv.2, rfl, hv.1, hS⟩
  · have hv := hv.2 (of_decide_eq_false c21)
    refine W.exit ?_
    refine W.seq ?_
    refine W.region ?_
    refine WL.assign rfl rfl ?_
    refine WL.done ?_
    refine W.ret ?_
    refine ⟨_, rfl, Fin.nil ?_⟩
    exact ⟨_, hS.ext, (hS.pick [] rfl).rows, News.of (hS.pick [] rfl).rows rfl, ⟨true, rfl, rfl, hv⟩⟩

def V_rCheck (Pf : Int) (Mf : Int) (mf : List Int) (Q : Int → Prop) : Prop :=
  V_rOrder Pf Mf mf (fun r14 => ((r14 = (0 : Int)) → (Q (1 : Int))) ∧ (¬ (r14 = (0 : Int)) → (V_rprime Pf (fun r17 => (((!r17) = true) → (Q (1 : Int))) ∧ ((!r17) = false → (((Mf = (1 : Int)) → (((((mf.length : Nat) : Int) ≠ (0 : Int)) → (Q (1 : Int))) ∧ (¬ (((mf.length : Nat) : Int) ≠ (0 : Int)) → (Q (0 : Int))))) ∧ (¬ (Mf = (1 : Int)) → (((((mf.length : Nat) : Int) ≠ Mf) → (Q (1 : Int))) ∧ (¬ (((mf.length : Nat) : Int) ≠ Mf) → (∃ (I25 : Int → Prop) (μ26 : Int → Nat), I25 (0 : Int) ∧ ∀ (z24 : Int), (I25 z24 → (((z24 < Mf) → ((((gi mf z24) < (0 : Int)) → ((0 ≤ z24 ∧ z24 < (mf.length : Nat)) ∧ (Q (1 : Int)))) ∧ (¬ ((gi mf z24) < (0 : Int)) → ((0 ≤ z24 ∧ z24 < (mf.length : Nat)) ∧ ((0 ≤ z24 ∧ z24 < (mf.length : Nat)) ∧ (((Pf ≤ (gi mf z24)) → (Q (1 : Int))) ∧ (¬ (Pf ≤ (gi mf z24)) → ((I64 (z24 + (1 : Int))) ∧ (I25 (z24 + (1 : Int)) ∧ μ26 (z24 + (1 : Int)) < μ26 z24))))))))) ∧ (¬ (z24 < Mf) → (V_rirr mf Pf (fun r70 => (((!r70) = true) → (Q (1 : Int))) ∧ ((!r70) = false → (Q (0 : Int))))))))))))))))))
theorem ok_rCheck {w : World} {Q : Int → Prop} {Pf : Int} {Mf : Int} {mf : List Int} {Bf : Nat} {Af : Option Addr} {nf kf : Nat} (hf : Rd Bf w 1 Af nf kf (is mf)) (hv : V_rCheck Pf Mf mf Q) :
    Calls Try.prog 62 #[.agg #[.int .i64 Pf, .int .i64 Mf, .slice Af nf kf]] w fun e w' => ∃ v Qr, e = .returned v ∧ w.grownBy w' none ∧ Rows w.heap.size none w' Qr ∧ News w.heap.size Qr ∧ ∃ (r0 : Int), v = .int .i64 r0 ∧ Qr = [] ∧ Q r0 := by
  have hnf := hf.ilen
  subst hnf
  refine calls_swap ?_
  refine calls_of_W (vs := [.agg #[.int .i64 Pf, .int .i64 Mf, .slice Af mf.length kf]]) [2] Try.func62 rfl rfl rfl rfl ?_
  have hS := St.start w
  unfold V_rCheck at hv
  refine W.seq ?_
  refine W.region ?_
  refine SL.box (z := 3) (cs := [.int .i64 Pf, .int .i64 Mf, .slice Af mf.length kf]) hS rfl rfl rfl rfl ?_
  intro g11 w12 hS
  refine WL.assign rfl rfl ?_
  refine WL.done ?_
  refine W.seq ?_
  refine W.seq ?_
  refine W.region ?_
  refine WL.loadV (cs := [.int .i64 Pf, .int .i64 Mf, .slice Af mf.length kf]) Try.el24 Try.agg24 rfl rfl (Own.vcells (hS.own (i := 0) rfl)) rfl ?_
  refine SL.call hS (ok_rOrder (hS.ro hf) hv) Try.func88 rfl Try.nm88 rfl rfl ?_
  rintro _ _ w13 ⟨r14, rfl, rfl, hv⟩ hGw13 hS
  change St _ _ _ _ [.row 24 3 (some ⟨g11, 0, none⟩) 1 1 [.int .i64 Pf, .int .i64 Mf, .slice Af mf.length kf]] at hS
  refine WL.eqlD rfl rfl rfl ?_
  refine WL.move rfl rfl ?_
  by_cases g15 : r14 = (0 : Int)
  · have hv := hv.1 g15
    rw [decide_eq_true g15]
    refine WL.pass rfl rfl rfl ?_
    refine WL.pass rfl rfl rfl ?_
    refine WL.pass rfl rfl rfl ?_
    refine WL.pass rfl rfl rfl ?_
    refine WL.pick rfl rfl rfl ?_
    refine WL.done ?_
    refine W.condT rfl ?_
    refine W.seq ?_
    refine W.region ?_
    refine WL.assign rfl rfl ?_
    refine WL.done ?_
    refine W.ret ?_
    refine ⟨_, rfl, Fin.nil ?_⟩
    exact ⟨_, hS.ext, (hS.pick [] rfl).rows, News.of (hS.pick [] rfl).rows rfl, ⟨(1 : Int), rfl, rfl, hv⟩⟩
  · have hv := hv.2 g15
    rw [decide_eq_false g15]
    refine WL.take rfl ?_
    refine WL.fieldA (off := 0) Try.fla24_0 rfl rfl ?_
    refine WL.take rfl ?_
    refine WL.load Try.underlying3 rfl rfl (Own.vcells (hS.own (i := 0) rfl) 0 _ rfl) rfl ?_
    refine WL.take rfl ?_
    refine SL.call hS (ok_rprime  hv) Try.func89 rfl Try.nm89 rfl rfl ?_
    rintro _ _ w16 ⟨r17, rfl, rfl, hv⟩ hGw16 hS
    change St _ _ _ _ [.row 24 3 (some ⟨g11, 0, none⟩) 1 1 [.int .i64 Pf, .int .i64 Mf, .slice Af mf.length kf]] at hS
    refine WL.take rfl ?_
    refine WL.not rfl rfl ?_
    refine WL.pick rfl rfl rfl ?_
    refine WL.done ?_
    refine W.cond2 rfl (fun c18 => ?_) (fun c18 => ?_)
    · have hv := hv.1 (c18)
      refine W.seq ?_
      refine W.region ?_
      refine WL.assign rfl rfl ?_
      refine WL.done ?_
      refine W.ret ?_
      refine ⟨_, rfl, Fin.nil ?_⟩
      exact ⟨_, hS.ext, (hS.pick [] rfl).rows, News.of (hS.pick [] rfl).rows rfl, ⟨(1 : Int), rfl, rfl, hv⟩⟩
    · have hv := hv.2 (c18)
      refine W.skip ?_
      refine W.seq ?_
      refine W.seq ?_
      refine W.region ?_
      refine WL.fieldA (off := 1) Try.fla24_1 rfl rfl ?_
      refine WL.load Try.underlying3 rfl rfl (Own.vcells (hS.own (i := 0) rfl) 1 _ rfl) rfl ?_
      refine WL.eqlD rfl rfl rfl ?_
      refine WL.done ?_
      refine W.cond2 rfl (fun c19 => ?_) (fun c19 => ?_)
      · have hv := hv.1 (of_decide_eq_true c19)
        refine W.seq ?_
        refine W.seq ?_
        refine W.region ?_
        refine WL.fieldA (off := 2) Try.fla24_2 rfl rfl ?_
        refine WL.load Try.underlying22 rfl rfl (Own.vcells (hS.own (i := 0) rfl) 2 _ rfl) rfl ?_
        refine WL.len Try.underlying22 rfl rfl ?_
        refine WL.neqD rfl rfl rfl ?_
        refine WL.done ?_
        refine W.cond2 rfl (fun c20 => ?_) (fun c20 => ?_)
        · have hv := hv.1 (of_decide_eq_true c20)
          refine W.seq ?_
          refine W.region ?_
          refine WL.assign rfl rfl ?_
          refine WL.done ?_
          refine W.ret ?_
          refine ⟨_, rfl, Fin.nil ?_⟩
          exact ⟨_, hS.ext, (hS.pick [] rfl).rows, News.of (hS.pick [] rfl).rows rfl, ⟨(1 : Int), rfl, rfl, hv⟩⟩
        · have hv := hv.2 (of_decide_eq_false c20)
          refine W.skip ?_
          refine W.seq ?_
          refine W.region ?_
          refine WL.assign rfl rfl ?_
          refine WL.done ?_
          refine W.ret ?_
          refine ⟨_, rfl, Fin.nil ?_⟩
          exact ⟨_, hS.ext, (hS.pick [] rfl).rows, News.of (hS.pick [] rfl).rows rfl, ⟨(0 : Int), rfl, rfl, hv⟩⟩
      · have hv := hv.2 (of_decide_eq_false c19)
        refine W.skip ?_
        refine W.seq ?_
        refine W.seq ?_
        refine W.region ?_
        refine WL.fieldA (off := 2) Try.fla24_2 rfl rfl ?_
        refine WL.load Try.underlying22 rfl rfl (Own.vcells (hS.own (i := 0) rfl) 2 _ rfl) rfl ?_
        refine WL.len Try.underlying22 rfl rfl ?_
        refine WL.fieldA (off := 1) Try.fla24_1 rfl rfl ?_
        refine WL.load Try.underlying3 rfl rfl (Own.vcells (hS.own (i := 0) rfl) 1 _ rfl) rfl ?_
        refine WL.neqD rfl rfl rfl ?_
        refine WL.done ?_
        refine W.cond2 rfl (fun c21 => ?_) (fun c21 => ?_)
        · have hv := hv.1 (of_decide_eq_true c21)
          refine W.seq ?_
          refine W.region ?_
          refine WL.assign rfl rfl ?_
          refine WL.done ?_
          refine W.ret ?_
          refine ⟨_, rfl, Fin.nil ?_⟩
          exact ⟨_, hS.ext, (hS.pick [] rfl).rows, News.of (hS.pick [] rfl).rows rfl, ⟨(1 : Int), rfl, rfl, hv⟩⟩
        · have hv := hv.2 (of_decide_eq_false c21)
          refine W.skip ?_
          refine W.seq ?_
          refine W.seq ?_
          refine W.region ?_
          refine WL.assign rfl rfl ?_
          refine WL.done ?_
          refine W.block ?_
          obtain ⟨I25, μ26, hv, hk72⟩ := hv
          change St _ _ _ _ [.row 24 3 (some ⟨g11, 0, none⟩) 1 1 [.int .i64 Pf, .int .i64 Mf, .slice Af mf.length kf]] at hS
          refine W.loop (σ := Int) (fun z24 w1 => I25 z24 ∧ St TT w none w1 [.row 24 3 (some ⟨g11, 0, none⟩) 1 1 [.int .i64 Pf, .int .i64 Mf, .slice Af mf.length kf]]) (fun z24 => [(1, .pointer (some ⟨g11, 0, none⟩)), (2, .int .i64 (0 : Int)), (3, .int .i64 z24)]) (fun z24 => μ26 z24) (0 : Int) ⟨hv, hS⟩ ⟨rfl, rfl, rfl, trivial⟩ ?_
          rintro z24 w27 ⟨hv, hS⟩
          have hv := hk72 z24 hv
          refine W.seq ?_
          refine W.seq ?_
          refine W.region ?_
          refine WL.move rfl rfl ?_
          refine WL.fieldA (off := 1) Try.fla24_1 rfl rfl ?_
          refine WL.load Try.underlying3 rfl rfl (Own.vcells (hS.own (i := 0) rfl) 1 _ rfl) rfl ?_
          refine WL.lssD rfl rfl rfl ?_
          refine WL.done ?_
          refine W.cond2 rfl (fun c28 => ?_) (fun c28 => ?_)
          · have hv := hv.1 (of_decide_eq_true c28)
            refine W.skip ?_
            refine W.seq ?_
            refine W.block ?_
            refine W.seq ?_
            by_cases g29 : (gi mf z24) < (0 : Int)
            · have hv := hv.1 g29
              obtain ⟨o34, hv⟩ := hv
              have hS0 := hS
              refine W.drawX 16 (fun _ => false) (fun _ => none) [⟨[], [1], true⟩, ⟨[0], [], false⟩, ⟨[], [3], true⟩, ⟨[1, 2], [], true⟩, ⟨[3], [], false⟩, ⟨[4], [], true⟩, ⟨[5], [], true⟩, ⟨[6], [1], true⟩, ⟨[6, 7], [], false⟩, ⟨[6], [3], true⟩, ⟨[6, 8, 9], [], true⟩, ⟨[6, 10], [], false⟩, ⟨[6], [1], true⟩, ⟨[6, 12], [], false⟩, ⟨[6, 11, 13], [], true⟩, ⟨[6, 14], [], true⟩] [[(1, .pointer (some ⟨g11, 0, none⟩))], [], [(3, .int .i64 z24)], [], [], [], [], [(1, .pointer (some ⟨g11, 0, none⟩))], [], [(3, .int .i64 z24)], [], [], [(1, .pointer (some ⟨g11, 0, none⟩))], [], [], []] (fun iQ => [fun v _ => v = .pointer (some ((⟨g11, 0, none⟩ : Addr).add 2)), fun v _ => v = .slice Af mf.length kf, fun v _ => v = .int .i64 z24, fun v _ => v = .pointer (some ((adOf Af).add z24.toNat)), fun v _ => v = .int .i64 (gi mf z24), fun v _ => v = .bool true, fun v _ => v = .bool true, fun v _ => v = undef, fun v _ => v = undef, fun v _ => v = undef, fun v _ => v = undef, fun v _ => v = undef, fun v _ => v = undef, fun v _ => v = undef, fun v _ => v = undef, fun v _ => v = .bool true].getD iQ (fun _ _ => True)) Try.mixed (by kernel_rfl) ?_ (by kernel_rfl) ?_ ?_
              · refine Vs_monoT _ ?_
                intro VQ hVQ vQ wQ1 wQ2 hQ1 hQ2
                simp only [List.mem_cons, List.not_mem_nil, or_false] at hVQ
                rcases hVQ with rfl | rfl | rfl | rfl | rfl | rfl | rfl | rfl | rfl | rfl | rfl | rfl | rfl | rfl | rfl | rfl
                · exact hQ1
                · exact hQ1
                · exact hQ1
                · exact hQ1
                · exact hQ1
                · exact hQ1
                · exact hQ1
                · exact hQ1
                · exact hQ1
                · exact hQ1
                · exact hQ1
                · exact hQ1
                · exact hQ1
                · exact hQ1
                · exact hQ1
                · exact hQ1
              · refine ⟨⟨rfl, ⟨rfl, trivial⟩, ?_⟩, ⟨rfl, trivial, ?_⟩, ⟨rfl, ⟨rfl, trivial⟩, ?_⟩, ⟨rfl, trivial, ?_⟩, ⟨rfl, trivial, ?_⟩, ⟨rfl, trivial, ?_⟩, ⟨rfl, trivial, ?_⟩, ⟨rfl, ⟨rfl, trivial⟩, ?_⟩, ⟨rfl, trivial, ?_⟩, ⟨rfl, ⟨rfl, trivial⟩, ?_⟩, ⟨rfl, trivial, ?_⟩, ⟨rfl, trivial, ?_⟩, ⟨rfl, ⟨rfl, trivial⟩, ?_⟩, ⟨rfl, trivial, ?_⟩, ⟨rfl, trivial, ?_⟩, ⟨rfl, trivial, ?_⟩, trivial⟩
                · intro w30 hE
                  intro RR
                  refine WL.fieldA (off := 2) Try.fla24_2 rfl rfl ?_
                  exact WL.done ⟨_, rfl, rfl, rfl, (fun h => absurd h (by decide)), (fun j h => by cases h)⟩
                · intro w31 hE
                  have hE := hE rfl
                  have hS := hS.grow hE
                  rintro _ rfl
                  intro RR
                  refine WL.load Try.underlying22 rfl rfl (Own.vcells (hS.own (i := 0) rfl) 2 _ rfl) rfl ?_
                  exact WL.done ⟨_, rfl, ext_refl _, rfl, (fun h => absurd h (by decide)), (fun j h => by cases h)⟩
                · intro w32 hE
                  intro RR
                  refine WL.move rfl rfl ?_
                  exact WL.done ⟨_, rfl, rfl, rfl, (fun h => absurd h (by decide)), (fun j h => by cases h)⟩
                · intro w33 hE
                  rintro _ rfl
                  rintro _ rfl
                  intro RR
                  refine SL.index Try.underlying22 Try.el3 (hS.ro hf) rfl rfl o34 rfl ?_
                  exact WL.done ⟨_, rfl, rfl, rfl, (fun h => absurd h (by decide)), (fun j h => by cases h)⟩
                · intro w35 hE
                  have hE := hE rfl
                  have hS := hS.grow hE
                  rintro _ rfl
                  intro RR
                  refine WL.load Try.underlying3 rfl rfl (Rd.gi (hS.ro hf) o34) rfl ?_
                  exact WL.done ⟨_, rfl, ext_refl _, rfl, (fun h => absurd h (by decide)), (fun j h => by cases h)⟩
                · intro w36 hE
                  rintro _ rfl
                  intro RR
                  refine WL.lssD rfl rfl rfl ?_; rw [decide_eq_true g29]
                  exact WL.done ⟨_, rfl, rfl, rfl, (fun h => absurd h (by decide)), (fun j h => by cases h)⟩
                · intro w37 hE
                  rintro _ rfl
                  intro RR
                  refine WL.move rfl rfl ?_
                  exact WL.done ⟨_, rfl, rfl, rfl, (fun h => absurd h (by decide)), (fun j h => by cases h)⟩
                · intro w38 hE
                  rintro _ rfl
                  intro RR
                  refine WL.pass rfl rfl rfl ?_
                  exact WL.done ⟨_, rfl, rfl, rfl, (fun h => absurd h (by decide)), (fun j h => by cases h)⟩
                · intro w39 hE
                  have hE := hE rfl
                  have hS := hS.grow hE
                  rintro _ rfl
                  rintro _ rfl
                  intro RR
                  refine WL.pass rfl rfl rfl ?_
                  exact WL.done ⟨_, rfl, ext_refl _, rfl, (fun h => absurd h (by decide)), (fun j h => by cases h)⟩
                · intro w40 hE
                  rintro _ rfl
                  intro RR
                  refine WL.pass rfl rfl rfl ?_
                  exact WL.done ⟨_, rfl, rfl, rfl, (fun h => absurd h (by decide)), (fun j h => by cases h)⟩
                · intro w41 hE
                  rintro _ rfl
                  rintro _ rfl
                  rintro _ rfl
                  intro RR
                  refine WL.pass rfl rfl rfl ?_
                  exact WL.done ⟨_, rfl, rfl, rfl, (fun h => absurd h (by decide)), (fun j h => by cases h)⟩
                · intro w42 hE
                  have hE := hE rfl
                  have hS := hS.grow hE
                  rintro _ rfl
                  rintro _ rfl
                  intro RR
                  refine WL.pass rfl rfl rfl ?_
                  exact WL.done ⟨_, rfl, ext_refl _, rfl, (fun h => absurd h (by decide)), (fun j h => by cases h)⟩
                · intro w43 hE
                  rintro _ rfl
                  intro RR
                  refine WL.pass rfl rfl rfl ?_
                  exact WL.done ⟨_, rfl, rfl, rfl, (fun h => absurd h (by decide)), (fun j h => by cases h)⟩
                · intro w44 hE
                  have hE := hE rfl
                  have hS := hS.grow hE
                  rintro _ rfl
                  rintro _ rfl
                  intro RR
                  refine WL.pass rfl rfl rfl ?_
                  exact WL.done ⟨_, rfl, ext_refl _, rfl, (fun h => absurd h (by decide)), (fun j h => by cases h)⟩
                · intro w45 hE
                  rintro _ rfl
                  rintro _ rfl
                  rintro _ rfl
                  intro RR
                  refine WL.pass rfl rfl rfl ?_
                  exact WL.done ⟨_, rfl, rfl, rfl, (fun h => absurd h (by decide)), (fun j h => by cases h)⟩
                · intro w46 hE
                  rintro _ rfl
                  rintro _ rfl
                  intro RR
                  refine WL.pick rfl rfl rfl ?_
                  exact WL.done ⟨_, rfl, rfl, rfl, (fun h => absurd h (by decide)), (fun j h => by cases h)⟩
              · intro vals w47 hT hVs hAp hCp
                have hS := hS.grow hT
                have hv0 : vals 0 = _ := hVs 0 (by decide)
                have hv1 : vals 1 = _ := hVs 1 (by decide)
                have hv2 : vals 2 = _ := hVs 2 (by decide)
                have hv3 : vals 3 = _ := hVs 3 (by decide)
                have hv4 : vals 4 = _ := hVs 4 (by decide)
                have hv5 : vals 5 = _ := hVs 5 (by decide)
                have hv6 : vals 6 = _ := hVs 6 (by decide)
                have hv7 : vals 7 = _ := hVs 7 (by decide)
                have hv8 : vals 8 = _ := hVs 8 (by decide)
                have hv9 : vals 9 = _ := hVs 9 (by decide)
                have hv10 : vals 10 = _ := hVs 10 (by decide)
                have hv11 : vals 11 = _ := hVs 11 (by decide)
                have hv12 : vals 12 = _ := hVs 12 (by decide)
                have hv13 : vals 13 = _ := hVs 13 (by decide)
                have hv14 : vals 14 = _ := hVs 14 (by decide)
                have hv15 : vals 15 = _ := hVs 15 (by decide)
                rw [show (List.filterMap (fun i => Option.map (fun t => (t, vals i)) (dstAt _ i)) (List.range _)) = [(32, .pointer (some ((⟨g11, 0, none⟩ : Addr).add 2))), (33, .slice Af mf.length kf), (34, .int .i64 z24), (35, .pointer (some ((adOf Af).add z24.toNat))), (36, .int .i64 (gi mf z24)), (37, .bool true), (38, .bool true), (39, undef), (40, undef), (41, undef), (42, undef), (43, undef), (44, undef), (45, undef), (46, undef), (47, .bool true)] from by
                  show [(32, vals 0), (33, vals 1), (34, vals 2), (35, vals 3), (36, vals 4), (37, vals 5), (38, vals 6), (39, vals 7), (40, vals 8), (41, vals 9), (42, vals 10), (43, vals 11), (44, vals 12), (45, vals 13), (46, vals 14), (47, vals 15)] = _
                  rw [hv0, hv1, hv2, hv3, hv4, hv5, hv6, hv7, hv8, hv9, hv10, hv11, hv12, hv13, hv14, hv15]]
                refine WA.done (by decide +kernel) ?_
                refine W.condT rfl ?_
                refine W.seq ?_
                refine W.region ?_
                refine WL.assign rfl rfl ?_
                refine WL.done ?_
                refine W.ret ?_
                refine ⟨_, rfl, Fin.nil ?_⟩
                exact ⟨_, hS.ext, (hS.pick [] rfl).rows, News.of (hS.pick [] rfl).rows rfl, ⟨(1 : Int), rfl, rfl, hv⟩⟩
            · have hv := hv.2 g29
              obtain ⟨o52, hv⟩ := hv
              obtain ⟨o60, hv⟩ := hv
              have hS0 := hS
              refine W.drawX 16 (fun _ => false) (fun _ => none) [⟨[], [1], true⟩, ⟨[0], [], false⟩, ⟨[], [3], true⟩, ⟨[1, 2], [], true⟩, ⟨[3], [], false⟩, ⟨[4], [], true⟩, ⟨[5], [], true⟩, ⟨[6], [1], true⟩, ⟨[6, 7], [], false⟩, ⟨[6], [3], true⟩, ⟨[6, 8, 9], [], true⟩, ⟨[6, 10], [], false⟩, ⟨[6], [1], true⟩, ⟨[6, 12], [], false⟩, ⟨[6, 11, 13], [], true⟩, ⟨[6, 14], [], true⟩] [[(1, .pointer (some ⟨g11, 0, none⟩))], [], [(3, .int .i64 z24)], [], [], [], [], [(1, .pointer (some ⟨g11, 0, none⟩))], [], [(3, .int .i64 z24)], [], [], [(1, .pointer (some ⟨g11, 0, none⟩))], [], [], []] (fun iQ => [fun v _ => v = .pointer (some ((⟨g11, 0, none⟩ : Addr).add 2)), fun v _ => v = .slice Af mf.length kf, fun v _ => v = .int .i64 z24, fun v _ => v = .pointer (some ((adOf Af).add z24.toNat)), fun v _ => v = .int .i64 (gi mf z24), fun v _ => v = .bool false, fun v _ => v = .bool false, fun v _ => v = .pointer (some ((⟨g11, 0, none⟩ : Addr).add 2)), fun v _ => v = .slice Af mf.length kf, fun v _ => v = .int .i64 z24, fun v _ => v = .pointer (some ((adOf Af).add z24.toNat)), fun v _ => v = .int .i64 (gi mf z24), fun v _ => v = .pointer (some ⟨g11, 0, none⟩), fun v _ => v = .int .i64 Pf, fun v _ => v = .bool (decide (Pf ≤ (gi mf z24))), fun v _ => v = .bool (decide (Pf ≤ (gi mf z24)))].getD iQ (fun _ _ => True)) Try.mixed (by kernel_rfl) ?_ (by kernel_rfl) ?_ ?_
              · refine Vs_monoT _ ?_
                intro VQ hVQ vQ wQ1 wQ2 hQ1 hQ2
                simp only [List.mem_cons, List.not_mem_nil, or_false] at hVQ
                rcases hVQ with rfl | rfl | rfl | rfl | rfl | rfl | rfl | rfl | rfl | rfl | rfl | rfl | rfl | rfl | rfl | rfl
                · exact hQ1
                · exact hQ1
                · exact hQ1
                · exact hQ1
                · exact hQ1
                · exact hQ1
                · exact hQ1
                · exact hQ1
                · exact hQ1
                · exact hQ1
                · exact hQ1
                · exact hQ1
                · exact hQ1
                · exact hQ1
                · exact hQ1
                · exact hQ1
              · refine ⟨⟨rfl, ⟨rfl, trivial⟩, ?_⟩, ⟨rfl, trivial, ?_⟩, ⟨rfl, ⟨rfl, trivial⟩, ?_⟩, ⟨rfl, trivial, ?_⟩, ⟨rfl, trivial, ?_⟩, ⟨rfl, trivial, ?_⟩, ⟨rfl, trivial, ?_⟩, ⟨rfl, ⟨rfl, trivial⟩, ?_⟩, ⟨rfl, trivial, ?_⟩, ⟨rfl, ⟨rfl, trivial⟩, ?_⟩, ⟨rfl, trivial, ?_⟩, ⟨rfl, trivial, ?_⟩, ⟨rfl, ⟨rfl, trivial⟩, ?_⟩, ⟨rfl, trivial, ?_⟩, ⟨rfl, trivial, ?_⟩, ⟨rfl, trivial, ?_⟩, trivial⟩
                · intro w48 hE
                  intro RR
                  refine WL.fieldA (off := 2) Try.fla24_2 rfl rfl ?_
                  exact WL.done ⟨_, rfl, rfl, rfl, (fun h => absurd h (by decide)), (fun j h => by cases h)⟩
                · intro w49 hE
                  have hE := hE rfl
                  have hS := hS.grow hE
                  rintro _ rfl
                  intro RR
                  refine WL.load Try.underlying22 rfl rfl (Own.vcells (hS.own (i := 0) rfl) 2 _ rfl) rfl ?_
                  exact WL.done ⟨_, rfl, ext_refl _, rfl, (fun h => absurd h (by decide)), (fun j h => by cases h)⟩
                · intro w50 hE
                  intro RR
                  refine WL.move rfl rfl ?_
                  exact WL.done ⟨_, rfl, rfl, rfl, (fun h => absurd h (by decide)), (fun j h => by cases h)⟩
                · intro w51 hE
                  rintro _ rfl
                  rintro _ rfl
                  intro RR
                  refine SL.index Try.underlying22 Try.el3 (hS.ro hf) rfl rfl o52 rfl ?_
                  exact WL.done ⟨_, rfl, rfl, rfl, (fun h => absurd h (by decide)), (fun j h => by cases h)⟩
                · intro w53 hE
                  have hE := hE rfl
                  have hS := hS.grow hE
                  rintro _ rfl
                  intro RR
                  refine WL.load Try.underlying3 rfl rfl (Rd.gi (hS.ro hf) o52) rfl ?_
                  exact WL.done ⟨_, rfl, ext_refl _, rfl, (fun h => absurd h (by decide)), (fun j h => by cases h)⟩
                · intro w54 hE
                  rintro _ rfl
                  intro RR
                  refine WL.lssD rfl rfl rfl ?_; rw [decide_eq_false g29]
                  exact WL.done ⟨_, rfl, rfl, rfl, (fun h => absurd h (by decide)), (fun j h => by cases h)⟩
                · intro w55 hE
                  rintro _ rfl
                  intro RR
                  refine WL.move rfl rfl ?_
                  exact WL.done ⟨_, rfl, rfl, rfl, (fun h => absurd h (by decide)), (fun j h => by cases h)⟩
                · intro w56 hE
                  rintro _ rfl
                  intro RR
                  refine WL.take rfl ?_
                  refine WL.fieldA (off := 2) Try.fla24_2 rfl rfl ?_
                  exact WL.done ⟨_, rfl, rfl, rfl, (fun h => absurd h (by decide)), (fun j h => by cases h)⟩
                · intro w57 hE
                  have hE := hE rfl
                  have hS := hS.grow hE
                  rintro _ rfl
                  rintro _ rfl
                  intro RR
                  refine WL.take rfl ?_
                  refine WL.load Try.underlying22 rfl rfl (Own.vcells (hS.own (i := 0) rfl) 2 _ rfl) rfl ?_
                  exact WL.done ⟨_, rfl, ext_refl _, rfl, (fun h => absurd h (by decide)), (fun j h => by cases h)⟩
                · intro w58 hE
                  rintro _ rfl
                  intro RR
                  refine WL.take rfl ?_
                  refine WL.move rfl rfl ?_
                  exact WL.done ⟨_, rfl, rfl, rfl, (fun h => absurd h (by decide)), (fun j h => by cases h)⟩
                · intro w59 hE
                  rintro _ rfl
                  rintro _ rfl
                  rintro _ rfl
                  intro RR
                  refine WL.take rfl ?_
                  refine SL.index Try.underlying22 Try.el3 (hS.ro hf) rfl rfl o60 rfl ?_
                  exact WL.done ⟨_, rfl, rfl, rfl, (fun h => absurd h (by decide)), (fun j h => by cases h)⟩
                · intro w61 hE
                  have hE := hE rfl
                  have hS := hS.grow hE
                  rintro _ rfl
                  rintro _ rfl
                  intro RR
                  refine WL.take rfl ?_
                  refine WL.load Try.underlying3 rfl rfl (Rd.gi (hS.ro hf) o60) rfl ?_
                  exact WL.done ⟨_, rfl, ext_refl _, rfl, (fun h => absurd h (by decide)), (fun j h => by cases h)⟩
                · intro w62 hE
                  rintro _ rfl
                  intro RR
                  refine WL.take rfl ?_
                  refine WL.fieldA (off := 0) Try.fla24_0 rfl rfl ?_
                  exact WL.done ⟨_, rfl, rfl, rfl, (fun h => absurd h (by decide)), (fun j h => by cases h)⟩
                · intro w63 hE
                  have hE := hE rfl
                  have hS := hS.grow hE
                  rintro _ rfl
                  rintro _ rfl
                  intro RR
                  refine WL.take rfl ?_
                  refine WL.load Try.underlying3 rfl rfl (Own.vcells (hS.own (i := 0) rfl) 0 _ rfl) rfl ?_
                  exact WL.done ⟨_, rfl, ext_refl _, rfl, (fun h => absurd h (by decide)), (fun j h => by cases h)⟩
                · intro w64 hE
                  rintro _ rfl
                  rintro _ rfl
                  rintro _ rfl
                  intro RR
                  refine WL.take rfl ?_
                  refine WL.geqD rfl rfl rfl ?_
                  exact WL.done ⟨_, rfl, rfl, rfl, (fun h => absurd h (by decide)), (fun j h => by cases h)⟩
                · intro w65 hE
                  rintro _ rfl
                  rintro _ rfl
                  intro RR
                  refine WL.pick rfl rfl rfl ?_
                  exact WL.done ⟨_, rfl, rfl, rfl, (fun h => absurd h (by decide)), (fun j h => by cases h)⟩
              · intro vals w66 hT hVs hAp hCp
                have hS := hS.grow hT
                have hv0 : vals 0 = _ := hVs 0 (by decide)
                have hv1 : vals 1 = _ := hVs 1 (by decide)
                have hv2 : vals 2 = _ := hVs 2 (by decide)
                have hv3 : vals 3 = _ := hVs 3 (by decide)
                have hv4 : vals 4 = _ := hVs 4 (by decide)
                have hv5 : vals 5 = _ := hVs 5 (by decide)
                have hv6 : vals 6 = _ := hVs 6 (by decide)
                have hv7 : vals 7 = _ := hVs 7 (by decide)
                have hv8 : vals 8 = _ := hVs 8 (by decide)
                have hv9 : vals 9 = _ := hVs 9 (by decide)
                have hv10 : vals 10 = _ := hVs 10 (by decide)
                have hv11 : vals 11 = _ := hVs 11 (by decide)
                have hv12 : vals 12 = _ := hVs 12 (by decide)
                have hv13 : vals 13 = _ := hVs 13 (by decide)
                have hv14 : vals 14 = _ := hVs 14 (by decide)
                have hv15 : vals 15 = _ := hVs 15 (by decide)
                rw [show (List.filterMap (fun i => Option.map (fun t => (t, vals i)) (dstAt _ i)) (List.range _)) = [(32, .pointer (some ((⟨g11, 0, none⟩ : Addr).add 2))), (33, .slice Af mf.length kf), (34, .int .i64 z24), (35, .pointer (some ((adOf Af).add z24.toNat))), (36, .int .i64 (gi mf z24)), (37, .bool false), (38, .bool false), (39, .pointer (some ((⟨g11, 0, none⟩ : Addr).add 2))), (40, .slice Af mf.length kf), (41, .int .i64 z24), (42, .pointer (some ((adOf Af).add z24.toNat))), (43, .int .i64 (gi mf z24)), (44, .pointer (some ⟨g11, 0, none⟩)), (45, .int .i64 Pf), (46, .bool (decide (Pf ≤ (gi mf z24)))), (47, .bool (decide (Pf ≤ (gi mf z24))))] from by
                  show [(32, vals 0), (33, vals 1), (34, vals 2), (35, vals 3), (36, vals 4), (37, vals 5), (38, vals 6), (39, vals 7), (40, vals 8), (41, vals 9), (42, vals 10), (43, vals 11), (44, vals 12), (45, vals 13), (46, vals 14), (47, vals 15)] = _
                  rw [hv0, hv1, hv2, hv3, hv4, hv5, hv6, hv7, hv8, hv9, hv10, hv11, hv12, hv13, hv14, hv15]]
                refine WA.done (by decide +kernel) ?_
                refine W.cond2 rfl (fun c67 => ?_) (fun c67 => ?_)
                · have hv := hv.1 (of_decide_eq_true c67)
                  refine W.seq ?_
                  refine W.region ?_
                  refine WL.assign rfl rfl ?_
                  refine WL.done ?_
                  refine W.ret ?_
                  refine ⟨_, rfl, Fin.nil ?_⟩
                  exact ⟨_, hS.ext, (hS.pick [] rfl).rows, News.of (hS.pick [] rfl).rows rfl, ⟨(1 : Int), rfl, rfl, hv⟩⟩
                · have hv := hv.2 (of_decide_eq_false c67)
                  refine W.skip ?_
                  refine W.region ?_
                  refine WL.move rfl rfl ?_
                  obtain ⟨o68, hv⟩ := hv
                  refine WL.add (r := (z24 + (1 : Int))) rfl rfl (wr o68) rfl ?_
                  refine WL.assign rfl rfl ?_
                  refine WL.done ?_
                  change St _ _ _ _ [.row 24 3 (some ⟨g11, 0, none⟩) 1 1 [.int .i64 Pf, .int .i64 Mf, .slice Af mf.length kf]] at hS
                  exact ⟨(z24 + (1 : Int)), ⟨rfl, rfl, rfl, trivial⟩, hv.2, rfl, hv.1, hS⟩
          · have hv := hv.2 (of_decide_eq_false c28)
            refine W.exit ?_
            refine W.seq ?_
            refine W.seq ?_
            refine W.region ?_
            refine WL.fieldA (off := 2) Try.fla24_2 rfl rfl ?_
            refine WL.load Try.underlying22 rfl rfl (Own.vcells (hS.own (i := 0) rfl) 2 _ rfl) rfl ?_
            refine WL.fieldA (off := 0) Try.fla24_0 rfl rfl ?_
            refine WL.load Try.underlying3 rfl rfl (Own.vcells (hS.own (i := 0) rfl) 0 _ rfl) rfl ?_
            refine SL.call hS (ok_rirr (hS.ro hf) hv) Try.func90 rfl Try.nm90 rfl rfl ?_
            rintro _ _ w69 ⟨r70, rfl, rfl, hv⟩ hGw69 hS
            change St _ _ _ _ [.row 24 3 (some ⟨g11, 0, none⟩) 1 1 [.int .i64 Pf, .int .i64 Mf, .slice Af mf.length kf]] at hS
            refine WL.not rfl rfl ?_
            refine WL.done ?_
            refine W.cond2 rfl (fun c71 => ?_) (fun c71 => ?_)
            · have hv := hv.1 (c71)
              refine W.seq ?_
              refine W.region ?_
              refine WL.assign rfl rfl ?_
              refine WL.done ?_
              refine W.ret ?_
              refine ⟨_, rfl, Fin.nil ?_⟩
              exact ⟨_, hS.ext, (hS.pick [] rfl).rows, News.of (hS.pick [] rfl).rows rfl, ⟨(1 : Int), rfl, rfl, hv⟩⟩
            · have hv := hv.2 (c71)
              refine W.skip ?_
              refine W.seq ?_
              refine W.region ?_
              refine WL.assign rfl rfl ?_
              refine WL.done ?_
              refine W.ret ?_
              refine ⟨_, rfl, Fin.nil ?_⟩
              exact ⟨_, hS.ext, (hS.pick [] rfl).rows, News.of (hS.pick [] rfl).rows rfl, ⟨(0 : Int), rfl, rfl, hv⟩⟩

def V_rIs (Pf : Int) (Mf : Int) (mf : List Int) (x : Int) (Q : Bool → Prop) : Prop :=
  (((0 : Int) ≤ x) → (V_rOrder Pf Mf mf (fun r15 => Q (decide (x < r15))))) ∧ (¬ ((0 : Int) ≤ x) → Q false)
theorem ok_rIs {w : World} {Q : Bool → Prop} {Pf : Int} {Mf : Int} {mf : List Int} {x : Int} {Bf : Nat} {Af : Option Addr} {nf kf : Nat} (hf : Rd Bf w 1 Af nf kf (is mf)) (hv : V_rIs Pf Mf mf x Q) :
    Calls Try.prog 86 #[.agg #[.int .i64 Pf, .int .i64 Mf, .slice Af nf kf], .int .i64 x] w fun e w' => ∃ v Qr, e = .returned v ∧ w.grownBy w' none ∧ Rows w.heap.size none w' Qr ∧ News w.heap.size Qr ∧ ∃ (r0 : Bool), v = .bool r0 ∧ Qr = [] ∧ Q r0 := by
  have hnf := hf.ilen
  subst hnf
  refine calls_swap ?_
  refine calls_of_W (vs := [.agg #[.int .i64 Pf, .int .i64 Mf, .slice Af mf.length kf], .int .i64 x]) [4] Try.func86 rfl rfl rfl rfl ?_
  have hS := St.start w
  unfold V_rIs at hv
  refine W.seq ?_
  refine W.region ?_
  refine SL.box (z := 3) (cs := [.int .i64 Pf, .int .i64 Mf, .slice Af mf.length kf]) hS rfl rfl rfl rfl ?_
  intro g11 w12 hS
  refine WL.assign rfl rfl ?_
  refine WL.done ?_
  refine W.seq ?_
  refine W.region ?_
  refine WL.move rfl rfl ?_
  refine WL.geqD rfl rfl rfl ?_
  refine WL.move rfl rfl ?_
  by_cases g13 : (0 : Int) ≤ x
  · have hv := hv.1 g13
    rw [decide_eq_true g13]
    refine WL.take rfl ?_
    refine WL.move rfl rfl ?_
    refine WL.take rfl ?_
    refine WL.loadV (cs := [.int .i64 Pf, .int .i64 Mf, .slice Af mf.length kf]) Try.el24 Try.agg24 rfl rfl (Own.vcells (hS.own (i := 0) rfl)) rfl ?_
    refine WL.take rfl ?_
    refine SL.call hS (ok_rOrder (hS.ro hf) hv) Try.func88 rfl Try.nm88 rfl rfl ?_
    rintro _ _ w14 ⟨r15, rfl, rfl, hv⟩ hGw14 hS
    change St _ _ _ _ [.row 24 3 (some ⟨g11, 0, none⟩) 1 1 [.int .i64 Pf, .int .i64 Mf, .slice Af mf.length kf]] at hS
    refine WL.take rfl ?_
    refine WL.lssD rfl rfl rfl ?_
    refine WL.pick rfl rfl rfl ?_
    refine WL.assign rfl rfl ?_
    refine WL.done ?_
    refine W.ret ?_
    refine ⟨_, rfl, Fin.nil ?_⟩
    exact ⟨_, hS.ext, (hS.pick [] rfl).rows, News.of (hS.pick [] rfl).rows rfl, ⟨(decide (x < r15)), rfl, rfl, hv⟩⟩
  · have hv := hv.2 g13
    rw [decide_eq_false g13]
    refine WL.pass rfl rfl rfl ?_
    refine WL.pass rfl rfl rfl ?_
    refine WL.pass rfl rfl rfl ?_
    refine WL.pass rfl rfl rfl ?_
    refine WL.pick rfl rfl rfl ?_
    refine WL.assign rfl rfl ?_
    refine WL.done ?_
    refine W.ret ?_
    refine ⟨_, rfl, Fin.nil ?_⟩
    exact ⟨_, hS.ext, (hS.pick [] rfl).rows, News.of (hS.pick [] rfl).rows rfl, ⟨false, rfl, rfl, hv⟩⟩

def V_rIn (Pf : Int) (Mf : Int) (mf : List Int) (x : Int) (Q : Int → Prop) : Prop :=
  V_rIs Pf Mf mf x (fun r14 => ((r14 = true) → Q x) ∧ (r14 = false → (Q (0 : Int))))
theorem ok_rIn {w : World} {Q : Int → Prop} {Pf : Int} {Mf : Int} {mf : List Int} {x : Int} {Bf : Nat} {Af : Option Addr} {nf kf : Nat} (hf : Rd Bf w 1 Af nf kf (is mf)) (hv : V_rIn Pf Mf mf x Q) :
    Calls Try.prog 56 #[.agg #[.int .i64 Pf, .int .i64 Mf, .slice Af nf kf], .int .i64 x] w fun e w' => ∃ v Qr, e = .returned v ∧ w.grownBy w' none ∧ Rows w.heap.size none w' Qr ∧ News w.heap.size Qr ∧ ∃ (r0 : Int), v = .int .i64 r0 ∧ Qr = [] ∧ Q r0 := by
  have hnf := hf.ilen
  subst hnf
  refine calls_swap ?_
  refine calls_of_W (vs := [.agg #[.int .i64 Pf, .int .i64 Mf, .slice Af mf.length kf], .int .i64 x]) [4] Try.func56 rfl rfl rfl rfl ?_
  have hS := St.start w
  unfold V_rIn at hv
  refine W.seq ?_
  refine W.region ?_
  refine SL.box (z := 3) (cs := [.int .i64 Pf, .int .i64 Mf, .slice Af mf.length kf]) hS rfl rfl rfl rfl ?_
  intro g11 w12 hS
  refine WL.assign rfl rfl ?_
  refine WL.done ?_
  refine W.seq ?_
  refine W.seq ?_
  refine W.region ?_
  refine WL.loadV (cs := [.int .i64 Pf, .int .i64 Mf, .slice Af mf.length kf]) Try.el24 Try.agg24 rfl rfl (Own.vcells (hS.own (i := 0) rfl)) rfl ?_
  refine WL.move rfl rfl ?_
  refine SL.call hS (ok_rIs (hS.ro hf) hv) Try.func86 rfl Try.nm86 rfl rfl ?_
  rintro _ _ w13 ⟨r14, rfl, rfl, hv⟩ hGw13 hS
  change St _ _ _ _ [.row 24 3 (some ⟨g11, 0, none⟩) 1 1 [.int .i64 Pf, .int .i64 Mf, .slice Af mf.length kf]] at hS
  refine WL.done ?_
  refine W.cond2 rfl (fun c15 => ?_) (fun c15 => ?_)
  · have hv := hv.1 (c15)
    refine W.seq ?_
    refine W.region ?_
    refine WL.move rfl rfl ?_
    refine WL.assign rfl rfl ?_
    refine WL.done ?_
    refine W.ret ?_
    refine ⟨_, rfl, Fin.nil ?_⟩
    exact ⟨_, hS.ext, (hS.pick [] rfl).rows, News.of (hS.pick [] rfl).rows rfl, ⟨x, rfl, rfl, hv⟩⟩
  · have hv := hv.2 (c15)
    refine W.skip ?_
    refine W.seq ?_
    refine W.region ?_
    refine WL.assign rfl rfl ?_
    refine WL.done ?_
    refine W.ret ?_
    refine ⟨_, rfl, Fin.nil ?_⟩
    exact ⟨_, hS.ext, (hS.pick [] rfl).rows, News.of (hS.pick [] rfl).rows rfl, ⟨(0 : Int), rfl, rfl, hv⟩⟩

def V_rDigits (Pf : Int) (Mf : Int) (mf : List Int) (x : Int) (Q : List Int → Prop) : Prop :=
  ∃ (r16 : Int), V_rIn Pf Mf mf x (fun q => q = r16) ∧ (∃ (x24 : List Int), V_rdigits r16 Pf Mf (fun q => q = x24) ∧ Q x24)
def V_rValue (Pf : Int) (Mf : Int) (mf : List Int) (l : List Int) (Q : Int → Prop) : Prop :=
  (I64 (((l.length : Nat) : Int) - (1 : Int))) ∧ (∃ (I20 : Int → Int → Prop) (μ21 : Int → Int → Nat), I20 (0 : Int) (((l.length : Nat) : Int) - (1 : Int)) ∧ ∀ (z18 : Int) (z19 : Int), (I20 z18 z19 → ((((0 : Int) ≤ z19) → ((I64 (z18 * Pf)) ∧ ((0 ≤ z19 ∧ z19 < (l.length : Nat)) ∧ ((I64 ((z18 * Pf) + (gi l z19))) ∧ ((I64 (z19 - (1 : Int))) ∧ (I20 ((z18 * Pf) + (gi l z19)) (z19 - (1 : Int)) ∧ μ21 ((z18 * Pf) + (gi l z19)) (z19 - (1 : Int)) < μ21 z18 z19)))))) ∧ (¬ ((0 : Int) ≤ z19) → Q z18))))
def V_rAdd (Pf : Int) (Mf : Int) (mf : List Int) (x : Int) (y : Int) (Q : Int → Prop) : Prop :=
  V_rDigits Pf Mf mf x (fun x14 => V_rDigits Pf Mf mf y (fun x19 => ∃ (I29 : List Int → Int → Prop) (μ30 : List Int → Int → Nat), I29 x14 (0 : Int) ∧ ∀ (x27 : List Int) (z28 : Int), (I29 x27 z28 → (((z28 < ((x14.length : Nat) : Int)) → ((0 ≤ z28 ∧ z28 < (x14.length : Nat)) ∧ ((0 ≤ z28 ∧ z28 < (x19.length : Nat)) ∧ ((I64 ((gi x27 z28) + (gi x19 z28))) ∧ ((Pf ≠ 0) ∧ ((0 ≤ z28 ∧ z28 < (x14.length : Nat)) ∧ ((I64 (z28 + (1 : Int))) ∧ (I29 (si x27 z28 (((gi x27 z28) + (gi x19 z28)).tmod Pf)) (z28 + (1 : Int)) ∧ μ30 (si x27 z28 (((gi x27 z28) + (gi x19 z28)).tmod Pf)) (z28 + (1 : Int)) < μ30 x27 z28)))))))) ∧ (¬ (z28 < ((x14.length : Nat) : Int)) → (V_rValue Pf Mf mf x27 (fun r56 => Q r56)))))))
def V_rNeg (Pf : Int) (Mf : Int) (mf : List Int) (x : Int) (Q : Int → Prop) : Prop :=
  V_rDigits Pf Mf mf x (fun x14 => ∃ (I24 : List Int → Int → Prop) (μ25 : List Int → Int → Nat), I24 x14 (0 : Int) ∧ ∀ (x22 : List Int) (z23 : Int), (I24 x22 z23 → (((z23 < ((x14.length : Nat) : Int)) → ((0 ≤ z23 ∧ z23 < (x14.length : Nat)) ∧ ((I64 (Pf - (gi x22 z23))) ∧ ((Pf ≠ 0) ∧ ((0 ≤ z23 ∧ z23 < (x14.length : Nat)) ∧ ((I64 (z23 + (1 : Int))) ∧ (I24 (si x22 z23 ((Pf - (gi x22 z23)).tmod Pf)) (z23 + (1 : Int)) ∧ μ25 (si x22 z23 ((Pf - (gi x22 z23)).tmod Pf)) (z23 + (1 : Int)) < μ25 x22 z23))))))) ∧ (¬ (z23 < ((x14.length : Nat) : Int)) → (V_rValue Pf Mf mf x22 (fun r48 => Q r48))))))
def V_rMul (Pf : Int) (Mf : Int) (mf : List Int) (x : Int) (y : Int) (Q : Int → Prop) : Prop :=
  V_rDigits Pf Mf mf x (fun x14 => V_rDigits Pf Mf mf y (fun x19 => (I64 ((2 : Int) * Mf)) ∧ ((I64 (((2 : Int) * Mf) - (1 : Int))) ∧ ((0 ≤ (((2 : Int) * Mf) - (1 : Int)) ∧ (((2 : Int) * Mf) - (1 : Int)) * 8 ≤ 281474976710656 ∧ (((2 : Int) * Mf) - (1 : Int)) ≤ 281474976710656) ∧ (∃ (I35 : List Int → Int → Prop) (μ36 : List Int → Int → Nat), I35 (List.replicate (((2 : Int) * Mf) - (1 : Int)).toNat (0 : Int)) (0 : Int) ∧ ∀ (x33 : List Int) (z34 : Int), (I35 x33 z34 → (((z34 < Mf) → (∃ (I45 : List Int → Int → Prop) (μ46 : List Int → Int → Nat), I45 x33 (0 : Int) ∧ ∀ (x43 : List Int) (z44 : Int), (I45 x43 z44 → (((z44 < Mf) → ((I64 (z34 + z44)) ∧ ((I64 (z34 + z44)) ∧ ((0 ≤ (z34 + z44) ∧ (z34 + z44) < ((((2 : Int) * Mf) - (1 : Int)).toNat : Nat)) ∧ ((0 ≤ z34 ∧ z34 < (x14.length : Nat)) ∧ ((0 ≤ z44 ∧ z44 < (x19.length : Nat)) ∧ ((I64 ((gi x14 z34) * (gi x19 z44))) ∧ ((I64 ((gi x43 (z34 + z44)) + ((gi x14 z34) * (gi x19 z44)))) ∧ ((Pf ≠ 0) ∧ ((0 ≤ (z34 + z44) ∧ (z34 + z44) < ((((2 : Int) * Mf) - (1 : Int)).toNat : Nat)) ∧ ((I64 (z44 + (1 : Int))) ∧ (I45 (si x43 (z34 + z44) (((gi x43 (z34 + z44)) + ((gi x14 z34) * (gi x19 z44))).tmod Pf)) (z44 + (1 : Int)) ∧ μ46 (si x43 (z34 + z44) (((gi x43 (z34 + z44)) + ((gi x14 z34) * (gi x19 z44))).tmod Pf)) (z44 + (1 : Int)) < μ46 x43 z44)))))))))))) ∧ (¬ (z44 < Mf) → ((I64 (z34 + (1 : Int))) ∧ (I35 x43 (z34 + (1 : Int)) ∧ μ36 x43 (z34 + (1 : Int)) < μ36 x33 z34))))))) ∧ (¬ (z34 < Mf) → ((I64 ((2 : Int) * Mf)) ∧ ((I64 (((2 : Int) * Mf) - (2 : Int))) ∧ (∃ (I94 : List Int → Int → Prop) (μ95 : List Int → Int → Nat), I94 x33 (((2 : Int) * Mf) - (2 : Int)) ∧ ∀ (x92 : List Int) (z93 : Int), (I94 x92 z93 → (((Mf ≤ z93) → (∃ (I104 : List Int → Int → Prop) (μ105 : List Int → Int → Nat), I104 x92 (0 : Int) ∧ ∀ (x102 : List Int) (z103 : Int), (I104 x102 z103 → (((z103 < Mf) → ((I64 (z93 - Mf)) ∧ ((I64 ((z93 - Mf) + z103)) ∧ ((I64 (z93 - Mf)) ∧ ((I64 ((z93 - Mf) + z103)) ∧ ((0 ≤ ((z93 - Mf) + z103) ∧ ((z93 - Mf) + z103) < ((((2 : Int) * Mf) - (1 : Int)).toNat : Nat)) ∧ ((0 ≤ z93 ∧ z93 < ((((2 : Int) * Mf) - (1 : Int)).toNat : Nat)) ∧ ((I64 (Pf - (gi x102 z93))) ∧ ((0 ≤ z103 ∧ z103 < (mf.length : Nat)) ∧ ((I64 ((Pf - (gi x102 z93)) * (gi mf z103))) ∧ ((I64 ((gi x102 ((z93 - Mf) + z103)) + ((Pf - (gi x102 z93)) * (gi mf z103)))) ∧ ((Pf ≠ 0) ∧ ((0 ≤ ((z93 - Mf) + z103) ∧ ((z93 - Mf) + z103) < ((((2 : Int) * Mf) - (1 : Int)).toNat : Nat)) ∧ ((I64 (z103 + (1 : Int))) ∧ (I104 (si x102 ((z93 - Mf) + z103) (((gi x102 ((z93 - Mf) + z103)) + ((Pf - (gi x102 z93)) * (gi mf z103))).tmod Pf)) (z103 + (1 : Int)) ∧ μ105 (si x102 ((z93 - Mf) + z103) (((gi x102 ((z93 - Mf) + z103)) + ((Pf - (gi x102 z93)) * (gi mf z103))).tmod Pf)) (z103 + (1 : Int)) < μ105 x102 z103))))))))))))))) ∧ (¬ (z103 < Mf) → ((I64 (z93 - (1 : Int))) ∧ (I94 x102 (z93 - (1 : Int)) ∧ μ95 x102 (z93 - (1 : Int)) < μ95 x92 z93))))))) ∧ (¬ (Mf ≤ z93) → ((0 ≤ Mf ∧ Mf ≤ ((((2 : Int) * Mf) - (1 : Int)).toNat : Nat)) ∧ (∃ (r165 : Int), V_rValue Pf Mf mf (x92.take Mf.toNat) (fun q => q = r165) ∧ Q r165))))))))))))))))
def V_rInv (Pf : Int) (Mf : Int) (mf : List Int) (x : Int) (Q : Int → Prop) : Prop :=
  ∃ (I16 : Int → Prop) (μ17 : Int → Nat), I16 (1 : Int) ∧ ∀ (z15 : Int), (I16 z15 → (V_rOrder Pf Mf mf (fun r20 => ((z15 < r20) → (V_rMul Pf Mf mf x z15 (fun r23 => ((r23 = (1 : Int)) → Q z15) ∧ (¬ (r23 = (1 : Int)) → ((I64 (z15 + (1 : Int))) ∧ (I16 (z15 + (1 : Int)) ∧ μ17 (z15 + (1 : Int)) < μ17 z15)))))) ∧ (¬ (z15 < r20) → (Q (0 : Int))))))
end Go.Proofs.Ytmdigamgojfjdaa
