/- Contracts of functions of the program, and what they lean on: D5. -/
import Derived.Test.YthjpminlkcklgaaTowerTransitiveG4
set_option linter.unusedSimpArgs false
set_option linter.unusedVariables false
namespace Go.Proofs.Ythjpminlkcklgaa
open Go.RowKit
def V_Is (Fg : GFv) (x : Int) (Q : Bool → Prop) : Prop :=
  (((0 : Int) ≤ x) → (Q (decide (x < Fg.q)))) ∧ (¬ ((0 : Int) ≤ x) → Q false)
theorem ok_Is {w : World} {Q : Bool → Prop} {Fg : GFv} {x : Int} {ag : Addr} {Bg : Nat} (hgg : GFR Bg w ag Fg) (hv : V_Is Fg x Q) :
    Calls Try.prog 116 #[.pointer (some ag), .int .i64 x] w fun e w' => ∃ v Qr, e = .returned v ∧ w.grownBy w' none ∧ Rows w.heap.size none w' Qr ∧ News w.heap.size Qr ∧ ∃ (r0 : Bool), v = .bool r0 ∧ Qr = [] ∧ Q r0 := by
  have hgg_ := hgg
  obtain ⟨Ag_mod, kg_mod, Ag_exp, kg_exp, Ag_log, kg_log, Ag_above, kg_above, hg_c, hg_mod, hg_exp, hg_log, hg_above⟩ := hgg_
  refine calls_swap ?_
  refine calls_of_W (vs := [.pointer (some ag), .int .i64 x]) [4] Try.func116 rfl rfl rfl rfl ?_
  have hS := St.start w
  unfold V_Is at hv
  refine W.seq ?_
  refine W.region ?_
  refine WL.assign rfl rfl ?_
  refine WL.done ?_
  refine W.seq ?_
  refine W.region ?_
  refine WL.move rfl rfl ?_
  refine WL.geqD rfl rfl rfl ?_
  refine WL.move rfl rfl ?_
  by_cases g11 : (0 : Int) ≤ x
  · have hv := hv.1 g11
    rw [decide_eq_true g11]
    refine WL.take rfl ?_
    refine WL.move rfl rfl ?_
    refine WL.take rfl ?_
    refine WL.move rfl rfl ?_
    refine WL.take rfl ?_
    refine WL.nilCheck rfl rfl ?_
    refine WL.take rfl ?_
    refine WL.fieldA (off := 3) Try.fla92_1 rfl rfl ?_
    refine WL.take rfl ?_
    refine WL.load Try.underlying3 rfl rfl (Rd.at_ (hS.ro hg_c) (j := 3) rfl) rfl ?_
    refine WL.take rfl ?_
    refine WL.lssD rfl rfl rfl ?_
    refine WL.pick rfl rfl rfl ?_
    refine WL.assign rfl rfl ?_
    refine WL.done ?_
    refine W.ret ?_
    refine ⟨_, rfl, Fin.nil ?_⟩
    exact ⟨_, hS.ext, (hS.pick [] rfl).rows, News.of (hS.pick [] rfl).rows rfl, ⟨(decide (x < Fg.q)), rfl, rfl, hv⟩⟩
  · have hv := hv.2 g11
    rw [decide_eq_false g11]
    refine WL.pass rfl rfl rfl ?_
    refine WL.pass rfl rfl rfl ?_
    refine WL.pass rfl rfl rfl ?_
    refine WL.pass rfl rfl rfl ?_
    refine WL.pass rfl rfl rfl ?_
    refine WL.pass rfl rfl rfl ?_
    refine WL.pick rfl rfl rfl ?_
    refine WL.assign rfl rfl ?_
    refine WL.done ?_
    refine W.ret ?_
    refine ⟨_, rfl, Fin.nil ?_⟩
    exact ⟨_, hS.ext, (hS.pick [] rfl).rows, News.of (hS.pick [] rfl).rows rfl, ⟨false, rfl, rfl, hv⟩⟩

def V_isUnit (Fg : GFv) (x : Int) (Q : Bool → Prop) : Prop :=
  (((0 : Int) < x) → (Q (decide (x < Fg.q)))) ∧ (¬ ((0 : Int) < x) → Q false)
theorem ok_isUnit {w : World} {Q : Bool → Prop} {Fg : GFv} {x : Int} {ag : Addr} {Bg : Nat} (hgg : GFR Bg w ag Fg) (hv : V_isUnit Fg x Q) :
    Calls Try.prog 85 #[.pointer (some ag), .int .i64 x] w fun e w' => ∃ v Qr, e = .returned v ∧ w.grownBy w' none ∧ Rows w.heap.size none w' Qr ∧ News w.heap.size Qr ∧ ∃ (r0 : Bool), v = .bool r0 ∧ Qr = [] ∧ Q r0 := by
  have hgg_ := hgg
  obtain ⟨Ag_mod, kg_mod, Ag_exp, kg_exp, Ag_log, kg_log, Ag_above, kg_above, hg_c, hg_mod, hg_exp, hg_log, hg_above⟩ := hgg_
  refine calls_swap ?_
  refine calls_of_W (vs := [.pointer (some ag), .int .i64 x]) [4] Try.func85 rfl rfl rfl rfl ?_
  have hS := St.start w
  unfold V_isUnit at hv
  refine W.seq ?_
  refine W.region ?_
  refine WL.assign rfl rfl ?_
  refine WL.done ?_
  refine W.seq ?_
  refine W.region ?_
  refine WL.move rfl rfl ?_
  refine WL.gtrD rfl rfl rfl ?_
  refine WL.move rfl rfl ?_
  by_cases g11 : (0 : Int) < x
  · have hv := hv.1 g11
    rw [decide_eq_true g11]
    refine WL.take rfl ?_
    refine WL.move rfl rfl ?_
    refine WL.take rfl ?_
    refine WL.move rfl rfl ?_
    refine WL.take rfl ?_
    refine WL.nilCheck rfl rfl ?_
    refine WL.take rfl ?_
    refine WL.fieldA (off := 3) Try.fla92_1 rfl rfl ?_
    refine WL.take rfl ?_
    refine WL.load Try.underlying3 rfl rfl (Rd.at_ (hS.ro hg_c) (j := 3) rfl) rfl ?_
    refine WL.take rfl ?_
    refine WL.lssD rfl rfl rfl ?_
    refine WL.pick rfl rfl rfl ?_
    refine WL.assign rfl rfl ?_
    refine WL.done ?_
    refine W.ret ?_
    refine ⟨_, rfl, Fin.nil ?_⟩
    exact ⟨_, hS.ext, (hS.pick [] rfl).rows, News.of (hS.pick [] rfl).rows rfl, ⟨(decide (x < Fg.q)), rfl, rfl, hv⟩⟩
  · have hv := hv.2 g11
    rw [decide_eq_false g11]
    refine WL.pass rfl rfl rfl ?_
    refine WL.pass rfl rfl rfl ?_
    refine WL.pass rfl rfl rfl ?_
    refine WL.pass rfl rfl rfl ?_
    refine WL.pass rfl rfl rfl ?_
    refine WL.pass rfl rfl rfl ?_
    refine WL.pick rfl rfl rfl ?_
    refine WL.assign rfl rfl ?_
    refine WL.done ?_
    refine W.ret ?_
    refine ⟨_, rfl, Fin.nil ?_⟩
    exact ⟨_, hS.ext, (hS.pick [] rfl).rows, News.of (hS.pick [] rfl).rows rfl, ⟨false, rfl, rfl, hv⟩⟩

def V_element (Fg : GFv) (x : Int) (Q : Int → Prop) : Prop :=
  V_Is Fg x (fun r12 => ((r12 = true) → Q x) ∧ (r12 = false → (Q (0 : Int))))
theorem ok_element {w : World} {Q : Int → Prop} {Fg : GFv} {x : Int} {ag : Addr} {Bg : Nat} (hgg : GFR Bg w ag Fg) (hv : V_element Fg x Q) :
    Calls Try.prog 101 #[.pointer (some ag), .int .i64 x] w fun e w' => ∃ v Qr, e = .returned v ∧ w.grownBy w' none ∧ Rows w.heap.size none w' Qr ∧ News w.heap.size Qr ∧ ∃ (r0 : Int), v = .int .i64 r0 ∧ Qr = [] ∧ Q r0 := by
  have hgg_ := hgg
  obtain ⟨Ag_mod, kg_mod, Ag_exp, kg_exp, Ag_log, kg_log, Ag_above, kg_above, hg_c, hg_mod, hg_exp, hg_log, hg_above⟩ := hgg_
  refine calls_swap ?_
  refine calls_of_W (vs := [.pointer (some ag), .int .i64 x]) [4] Try.func101 rfl rfl rfl rfl ?_
  have hS := St.start w
  unfold V_element at hv
  refine W.seq ?_
  refine W.region ?_
  refine WL.assign rfl rfl ?_
  refine WL.done ?_
  refine W.seq ?_
  refine W.seq ?_
  refine W.region ?_
  refine WL.move rfl rfl ?_
  refine WL.move rfl rfl ?_
  refine SL.call hS (ok_Is (GFR.ext (GFR.norm hgg) hS.ext) hv) Try.func116 rfl Try.nm116 rfl rfl ?_
  rintro _ _ w11 ⟨r12, rfl, rfl, hv⟩ hGw11 hS
  change St _ _ _ _ [] at hS
  refine WL.done ?_
  refine W.cond2 rfl (fun c13 => ?_) (fun c13 => ?_)
  · have hv := hv.1 (c13)
    refine W.seq ?_
    refine W.region ?_
    refine WL.move rfl rfl ?_
    refine WL.assign rfl rfl ?_
    refine WL.done ?_
    refine W.ret ?_
    refine ⟨_, rfl, Fin.nil ?_⟩
    exact ⟨_, hS.ext, (hS.pick [] rfl).rows, News.of (hS.pick [] rfl).rows rfl, ⟨x, rfl, rfl, hv⟩⟩
  · have hv := hv.2 (c13)
    refine W.skip ?_
    refine W.seq ?_
    refine W.region ?_
    refine WL.assign rfl rfl ?_
    refine WL.done ?_
    refine W.ret ?_
    refine ⟨_, rfl, Fin.nil ?_⟩
    exact ⟨_, hS.ext, (hS.pick [] rfl).rows, News.of (hS.pick [] rfl).rows rfl, ⟨(0 : Int), rfl, rfl, hv⟩⟩

def V_Mul (Fg : GFv) (x : Int) (y : Int) (Q : Int → Prop) : Prop :=
  V_isUnit Fg x (fun r12 => (((!r12) = true) → (Q (0 : Int))) ∧ ((!r12) = false → (V_isUnit Fg y (fun r15 => (((!r15) = true) → (Q (0 : Int))) ∧ ((!r15) = false → ((0 ≤ x ∧ x < (Fg.log.length : Nat)) ∧ ((0 ≤ y ∧ y < (Fg.log.length : Nat)) ∧ ((I64 ((gi Fg.log x) + (gi Fg.log y))) ∧ ((0 ≤ ((gi Fg.log x) + (gi Fg.log y)) ∧ ((gi Fg.log x) + (gi Fg.log y)) < (Fg.exp.length : Nat)) ∧ (Q (gi Fg.exp ((gi Fg.log x) + (gi Fg.log y)))))))))))))
theorem ok_Mul {w : World} {Q : Int → Prop} {Fg : GFv} {x : Int} {y : Int} {ag : Addr} {Bg : Nat} (hgg : GFR Bg w ag Fg) (hv : V_Mul Fg x y Q) :
    Calls Try.prog 77 #[.pointer (some ag), .int .i64 x, .int .i64 y] w fun e w' => ∃ v Qr, e = .returned v ∧ w.grownBy w' none ∧ Rows w.heap.size none w' Qr ∧ News w.heap.size Qr ∧ ∃ (r0 : Int), v = .int .i64 r0 ∧ Qr = [] ∧ Q r0 := by
  have hgg_ := hgg
  obtain ⟨Ag_mod, kg_mod, Ag_exp, kg_exp, Ag_log, kg_log, Ag_above, kg_above, hg_c, hg_mod, hg_exp, hg_log, hg_above⟩ := hgg_
  refine calls_swap ?_
  refine calls_of_W (vs := [.pointer (some ag), .int .i64 x, .int .i64 y]) [6] Try.func77 rfl rfl rfl rfl ?_
  have hS := St.start w
  unfold V_Mul at hv
  refine W.seq ?_
  refine W.region ?_
  refine WL.assign rfl rfl ?_
  refine WL.done ?_
  refine W.seq ?_
  refine W.seq ?_
  refine W.region ?_
  refine WL.move rfl rfl ?_
  refine WL.move rfl rfl ?_
  refine SL.call hS (ok_isUnit (GFR.ext (GFR.norm hgg) hS.ext) hv) Try.func85 rfl Try.nm85 rfl rfl ?_
  rintro _ _ w11 ⟨r12, rfl, rfl, hv⟩ hGw11 hS
  change St _ _ _ _ [] at hS
  refine WL.not rfl rfl ?_
  refine WL.move rfl rfl ?_
  rcases g13 : (!r12) with _ | _
  · have hv := hv.2 g13
    refine WL.take rfl ?_
    refine WL.move rfl rfl ?_
    refine WL.take rfl ?_
    refine WL.move rfl rfl ?_
    refine WL.take rfl ?_
    refine SL.call hS (ok_isUnit (GFR.ext (GFR.norm hgg) hS.ext) hv) Try.func85 rfl Try.nm85 rfl rfl ?_
    rintro _ _ w14 ⟨r15, rfl, rfl, hv⟩ hGw14 hS
    change St _ _ _ _ [] at hS
    refine WL.take rfl ?_
    refine WL.not rfl rfl ?_
    refine WL.pick rfl rfl rfl ?_
    refine WL.done ?_
    refine W.cond2 rfl (fun c16 => ?_) (fun c16 => ?_)
    · have hv := hv.1 (c16)
      refine W.seq ?_
      refine W.region ?_
      refine WL.assign rfl rfl ?_
      refine WL.done ?_
      refine W.ret ?_
      refine ⟨_, rfl, Fin.nil ?_⟩
      exact ⟨_, hS.ext, (hS.pick [] rfl).rows, News.of (hS.pick [] rfl).rows rfl, ⟨(0 : Int), rfl, rfl, hv⟩⟩
    · have hv := hv.2 (c16)
      refine W.skip ?_
      refine W.seq ?_
      obtain ⟨o27, hv⟩ := hv
      obtain ⟨o35, hv⟩ := hv
      obtain ⟨o38, hv⟩ := hv
      obtain ⟨o40, hv⟩ := hv
      have hS0 := hS
      refine W.drawX 22 (fun _ => false) (fun _ => none) [⟨[], [0], true⟩, ⟨[0], [], true⟩, ⟨[1], [], true⟩, ⟨[2], [], false⟩, ⟨[], [0], true⟩, ⟨[4], [], true⟩, ⟨[5], [], true⟩, ⟨[6], [], false⟩, ⟨[], [1], true⟩, ⟨[7, 8], [], true⟩, ⟨[9], [], false⟩, ⟨[], [0], true⟩, ⟨[11], [], true⟩, ⟨[12], [], true⟩, ⟨[13], [], false⟩, ⟨[], [2], true⟩, ⟨[14, 15], [], true⟩, ⟨[16], [], false⟩, ⟨[10, 17], [], true⟩, ⟨[3, 18], [], true⟩, ⟨[19], [], false⟩, ⟨[20], [], true⟩] [[(0, .pointer (some ag))], [], [], [], [(0, .pointer (some ag))], [], [], [], [(1, .int .i64 x)], [], [], [(0, .pointer (some ag))], [], [], [], [(2, .int .i64 y)], [], [], [], [], [], []] (fun iQ => [fun v _ => v = .pointer (some ag), fun v _ => v = .pointer (some ag), fun v _ => v = .pointer (some (ag.add 4)), fun v _ => v = .slice Ag_exp Fg.exp.length kg_exp, fun v _ => v = .pointer (some ag), fun v _ => v = .pointer (some ag), fun v _ => v = .pointer (some (ag.add 5)), fun v _ => v = .slice Ag_log Fg.log.length kg_log, fun v _ => v = .int .i64 x, fun v _ => v = .pointer (some ((adOf Ag_log).add x.toNat)), fun v _ => v = .int .i64 (gi Fg.log x), fun v _ => v = .pointer (some ag), fun v _ => v = .pointer (some ag), fun v _ => v = .pointer (some (ag.add 5)), fun v _ => v = .slice Ag_log Fg.log.length kg_log, fun v _ => v = .int .i64 y, fun v _ => v = .pointer (some ((adOf Ag_log).add y.toNat)), fun v _ => v = .int .i64 (gi Fg.log y), fun v _ => v = .int .i64 ((gi Fg.log x) + (gi Fg.log y)), fun v _ => v = .pointer (some ((adOf Ag_exp).add (((gi Fg.log x) + (gi Fg.log y)).toNat))), fun v _ => v = .int .i64 (gi Fg.exp ((gi Fg.log x) + (gi Fg.log y))), fun v _ => v = .int .i64 (gi Fg.exp ((gi Fg.log x) + (gi Fg.log y)))].getD iQ (fun _ _ => True)) Try.mixed (by kernel_rfl) ?_ (by kernel_rfl) ?_ ?_
      · refine Vs_monoT _ ?_
        intro VQ hVQ vQ wQ1 wQ2 hQ1 hQ2
        simp only [List.mem_cons, List.not_mem_nil, or_false] at hVQ
        rcases hVQ with rfl | rfl | rfl | rfl | rfl | rfl | rfl | rfl | rfl | rfl | rfl | rfl | rfl | rfl | rfl | rfl | rfl | rfl | rfl | rfl | rfl | rfl
        · exact hQ1
        · exact hQ1
        · exact hQ1
        · exact hQ1
        · exact hQ1
        · exact hQ1
        · exact hQ1
        · exact hQ1
        · exact hQ1
        · exact hQ1
        · exact hQ1
        · exact hQ1
        · exact hQ1
        · exact hQ1
        · exact hQ1
        · exact hQ1
        · exact hQ1
        · exact hQ1
        · exact hQ1
        · exact hQ1
        · exact hQ1
        · exact hQ1
      · refine ⟨⟨rfl, ⟨rfl, trivial⟩, ?_⟩, ⟨rfl, trivial, ?_⟩, ⟨rfl, trivial, ?_⟩, ⟨rfl, trivial, ?_⟩, ⟨rfl, ⟨rfl, trivial⟩, ?_⟩, ⟨rfl, trivial, ?_⟩, ⟨rfl, trivial, ?_⟩, ⟨rfl, trivial, ?_⟩, ⟨rfl, ⟨rfl, trivial⟩, ?_⟩, ⟨rfl, trivial, ?_⟩, ⟨rfl, trivial, ?_⟩, ⟨rfl, ⟨rfl, trivial⟩, ?_⟩, ⟨rfl, trivial, ?_⟩, ⟨rfl, trivial, ?_⟩, ⟨rfl, trivial, ?_⟩, ⟨rfl, ⟨rfl, trivial⟩, ?_⟩, ⟨rfl, trivial, ?_⟩, ⟨rfl, trivial, ?_⟩, ⟨rfl, trivial, ?_⟩, ⟨rfl, trivial, ?_⟩, ⟨rfl, trivial, ?_⟩, ⟨rfl, trivial, ?_⟩, trivial⟩
        · intro w17 hE
          intro RR
          refine WL.move rfl rfl ?_
          exact WL.done ⟨_, rfl, rfl, rfl, (fun h => absurd h (by decide)), (fun j h => by cases h)⟩
        · intro w18 hE
          rintro _ rfl
          intro RR
          refine WL.nilCheck rfl rfl ?_
          exact WL.done ⟨_, rfl, rfl, rfl, (fun h => absurd h (by decide)), (fun j h => by cases h)⟩
        · intro w19 hE
          rintro _ rfl
          intro RR
          refine WL.fieldA (off := 4) Try.fla92_2 rfl rfl ?_
          exact WL.done ⟨_, rfl, rfl, rfl, (fun h => absurd h (by decide)), (fun j h => by cases h)⟩
        · intro w20 hE
          have hE := hE rfl
          have hS := hS.grow hE
          rintro _ rfl
          intro RR
          refine WL.load Try.underlying22 rfl rfl (Rd.at_ (hS.ro hg_c) (j := 4) rfl) rfl ?_
          exact WL.done ⟨_, rfl, ext_refl _, rfl, (fun h => absurd h (by decide)), (fun j h => by cases h)⟩
        · intro w21 hE
          intro RR
          refine WL.move rfl rfl ?_
          exact WL.done ⟨_, rfl, rfl, rfl, (fun h => absurd h (by decide)), (fun j h => by cases h)⟩
        · intro w22 hE
          rintro _ rfl
          intro RR
          refine WL.nilCheck rfl rfl ?_
          exact WL.done ⟨_, rfl, rfl, rfl, (fun h => absurd h (by decide)), (fun j h => by cases h)⟩
        · intro w23 hE
          rintro _ rfl
          intro RR
          refine WL.fieldA (off := 5) Try.fla92_3 rfl rfl ?_
          exact WL.done ⟨_, rfl, rfl, rfl, (fun h => absurd h (by decide)), (fun j h => by cases h)⟩
        · intro w24 hE
          have hE := hE rfl
          have hS := hS.grow hE
          rintro _ rfl
          intro RR
          refine WL.load Try.underlying22 rfl rfl (Rd.at_ (hS.ro hg_c) (j := 5) rfl) rfl ?_
          exact WL.done ⟨_, rfl, ext_refl _, rfl, (fun h => absurd h (by decide)), (fun j h => by cases h)⟩
        · intro w25 hE
          intro RR
          refine WL.move rfl rfl ?_
          exact WL.done ⟨_, rfl, rfl, rfl, (fun h => absurd h (by decide)), (fun j h => by cases h)⟩
        · intro w26 hE
          rintro _ rfl
          rintro _ rfl
          intro RR
          refine SL.index Try.underlying22 Try.el3 (hS.ro hg_log) rfl rfl o27 rfl ?_
          exact WL.done ⟨_, rfl, rfl, rfl, (fun h => absurd h (by decide)), (fun j h => by cases h)⟩
        · intro w28 hE
          have hE := hE rfl
          have hS := hS.grow hE
          rintro _ rfl
          intro RR
          refine WL.load Try.underlying3 rfl rfl (Rd.gi (hS.ro hg_log) o27) rfl ?_
          exact WL.done ⟨_, rfl, ext_refl _, rfl, (fun h => absurd h (by decide)), (fun j h => by cases h)⟩
        · intro w29 hE
          intro RR
          refine WL.move rfl rfl ?_
          exact WL.done ⟨_, rfl, rfl, rfl, (fun h => absurd h (by decide)), (fun j h => by cases h)⟩
        · intro w30 hE
          rintro _ rfl
          intro RR
          refine WL.nilCheck rfl rfl ?_
          exact WL.done ⟨_, rfl, rfl, rfl, (fun h => absurd h (by decide)), (fun j h => by cases h)⟩
        · intro w31 hE
          rintro _ rfl
          intro RR
          refine WL.fieldA (off := 5) Try.fla92_3 rfl rfl ?_
          exact WL.done ⟨_, rfl, rfl, rfl, (fun h => absurd h (by decide)), (fun j h => by cases h)⟩
        · intro w32 hE
          have hE := hE rfl
          have hS := hS.grow hE
          rintro _ rfl
          intro RR
          refine WL.load Try.underlying22 rfl rfl (Rd.at_ (hS.ro hg_c) (j := 5) rfl) rfl ?_
          exact WL.done ⟨_, rfl, ext_refl _, rfl, (fun h => absurd h (by decide)), (fun j h => by cases h)⟩
        · intro w33 hE
          intro RR
          refine WL.move rfl rfl ?_
          exact WL.done ⟨_, rfl, rfl, rfl, (fun h => absurd h (by decide)), (fun j h => by cases h)⟩
        · intro w34 hE
          rintro _ rfl
          rintro _ rfl
          intro RR
          refine SL.index Try.underlying22 Try.el3 (hS.ro hg_log) rfl rfl o35 rfl ?_
          exact WL.done ⟨_, rfl, rfl, rfl, (fun h => absurd h (by decide)), (fun j h => by cases h)⟩
        · intro w36 hE
          have hE := hE rfl
          have hS := hS.grow hE
          rintro _ rfl
          intro RR
          refine WL.load Try.underlying3 rfl rfl (Rd.gi (hS.ro hg_log) o35) rfl ?_
          exact WL.done ⟨_, rfl, ext_refl _, rfl, (fun h => absurd h (by decide)), (fun j h => by cases h)⟩
        · intro w37 hE
          rintro _ rfl
          rintro _ rfl
          intro RR
          refine WL.add (r := ((gi Fg.log x) + (gi Fg.log y))) rfl rfl (wr o38) rfl ?_
          exact WL.done ⟨_, rfl, rfl, rfl, (fun h => absurd h (by decide)), (fun j h => by cases h)⟩
        · intro w39 hE
          rintro _ rfl
          rintro _ rfl
          intro RR
          refine SL.index Try.underlying22 Try.el3 (hS.ro hg_exp) rfl rfl o40 rfl ?_
          exact WL.done ⟨_, rfl, rfl, rfl, (fun h => absurd h (by decide)), (fun j h => by cases h)⟩
        · intro w41 hE
          have hE := hE rfl
          have hS := hS.grow hE
          rintro _ rfl
          intro RR
          refine WL.load Try.underlying3 rfl rfl (Rd.gi (hS.ro hg_exp) o40) rfl ?_
          exact WL.done ⟨_, rfl, ext_refl _, rfl, (fun h => absurd h (by decide)), (fun j h => by cases h)⟩
        · intro w42 hE
          rintro _ rfl
          intro RR
          refine WL.assign rfl rfl ?_
          exact WL.done ⟨_, rfl, rfl, rfl, (fun h => absurd h (by decide)), (fun j h => by cases h)⟩
      · intro vals w43 hT hVs hAp hCp
        have hS := hS.grow hT
        have hv0 : vals 0 = _ := hVs 0 (by decide)
        have hv1 : vals 1 = _ := hVs 1 (by decide)
        have hv2 : vals 2 = _ := hVs 2 (by decide)
        have hv3 : vals 3 = _ := hVs 3 (by decide)
        have hv4 : vals 4 = _ := hVs 4 (by decide)
        have hv5 : vals 5 = _ := hVs 5 (by decide)
        have hv6 : vals 6 = _ := hVs 6 (by decide)
        have hv7 : vals 7 = _ := hVs 7 (by decide)
        have hv8 : vals 8 = _ := hVs 8 (by decide)
        have hv9 : vals 9 = _ := hVs 9 (by decide)
        have hv10 : vals 10 = _ := hVs 10 (by decide)
        have hv11 : vals 11 = _ := hVs 11 (by decide)
        have hv12 : vals 12 = _ := hVs 12 (by decide)
        have hv13 : vals 13 = _ := hVs 13 (by decide)
        have hv14 : vals 14 = _ := hVs 14 (by decide)
        have hv15 : vals 15 = _ := hVs 15 (by decide)
        have hv16 : vals 16 = _ := hVs 16 (by decide)
        have hv17 : vals 17 = _ := hVs 17 (by decide)
        have hv18 : vals 18 = _ := hVs 18 (by decide)
        have hv19 : vals 19 = _ := hVs 19 (by decide)
        have hv20 : vals 20 = _ := hVs 20 (by decide)
        have hv21 : vals 21 = _ := hVs 21 (by decide)
        rw [show (List.filterMap (fun i => Option.map (fun t => (t, vals i)) (dstAt _ i)) (List.range _)) = [(17, .pointer (some ag)), (18, .pointer (some ag)), (19, .pointer (some (ag.add 4))), (20, .slice Ag_exp Fg.exp.length kg_exp), (21, .pointer (some ag)), (22, .pointer (some ag)), (23, .pointer (some (ag.add 5))), (24, .slice Ag_log Fg.log.length kg_log), (25, .int .i64 x), (26, .pointer (some ((adOf Ag_log).add x.toNat))), (27, .int .i64 (gi Fg.log x)), (28, .pointer (some ag)), (29, .pointer (some ag)), (30, .pointer (some (ag.add 5))), (31, .slice Ag_log Fg.log.length kg_log), (32, .int .i64 y), (33, .pointer (some ((adOf Ag_log).add y.toNat))), (34, .int .i64 (gi Fg.log y)), (35, .int .i64 ((gi Fg.log x) + (gi Fg.log y))), (36, .pointer (some ((adOf Ag_exp).add (((gi Fg.log x) + (gi Fg.log y)).toNat)))), (37, .int .i64 (gi Fg.exp ((gi Fg.log x) + (gi Fg.log y)))), (6, .int .i64 (gi Fg.exp ((gi Fg.log x) + (gi Fg.log y))))] from by
          show [(17, vals 0), (18, vals 1), (19, vals 2), (20, vals 3), (21, vals 4), (22, vals 5), (23, vals 6), (24, vals 7), (25, vals 8), (26, vals 9), (27, vals 10), (28, vals 11), (29, vals 12), (30, vals 13), (31, vals 14), (32, vals 15), (33, vals 16), (34, vals 17), (35, vals 18), (36, vals 19), (37, vals 20), (6, vals 21)] = _
          rw [hv0, hv1, hv2, hv3, hv4, hv5, hv6, hv7, hv8, hv9, hv10, hv11, hv12, hv13, hv14, hv15, hv16, hv17, hv18, hv19, hv20, hv21]]
        refine WA.done (by decide +kernel) ?_
        refine W.ret ?_
        refine ⟨_, rfl, Fin.nil ?_⟩
        exact ⟨_, hS.ext, (hS.pick [] rfl).rows, News.of (hS.pick [] rfl).rows rfl, ⟨(gi Fg.exp ((gi Fg.log x) + (gi Fg.log y))), rfl, rfl, hv⟩⟩
  · have hv := hv.1 g13
    refine WL.pass rfl rfl rfl ?_
    refine WL.pass rfl rfl rfl ?_
    refine WL.pass rfl rfl rfl ?_
    refine WL.pass rfl rfl rfl ?_
    refine WL.pick rfl rfl rfl ?_
    refine WL.done ?_
    refine W.condT rfl ?_
    refine W.seq ?_
    refine W.region ?_
    refine WL.assign rfl rfl ?_
    refine WL.done ?_
    refine W.ret ?_
    refine ⟨_, rfl, Fin.nil ?_⟩
    exact ⟨_, hS.ext, (hS.pick [] rfl).rows, News.of (hS.pick [] rfl).rows rfl, ⟨(0 : Int), rfl, rfl, hv⟩⟩

def V_Add (Fg : GFv) (x : Int) (y : Int) (Q : Int → Prop) : Prop :=
  V_element Fg x (fun r12 => V_element Fg y (fun r14 => ((Fg.P = (2 : Int)) → ((0 ≤ r12 ∧ r12 < 9223372036854775808 ∧ 0 ≤ r14 ∧ r14 < 9223372036854775808) ∧ (Q (ixor r12 r14)))) ∧ (¬ (Fg.P = (2 : Int)) → (((r12 = (0 : Int)) → Q r14) ∧ (¬ (r12 = (0 : Int)) → (((r14 = (0 : Int)) → Q r12) ∧ (¬ (r14 = (0 : Int)) → ((0 ≤ r14 ∧ r14 < (Fg.log.length : Nat)) ∧ ((0 ≤ r12 ∧ r12 < (Fg.log.length : Nat)) ∧ ((I64 ((gi Fg.log r14) - (gi Fg.log r12))) ∧ (∃ J40 : Int → Prop, (((((gi Fg.log r14) - (gi Fg.log r12)) < (0 : Int)) → ((I64 (Fg.q - (1 : Int))) ∧ ((I64 (((gi Fg.log r14) - (gi Fg.log r12)) + (Fg.q - (1 : Int)))) ∧ (J40 (((gi Fg.log r14) - (gi Fg.log r12)) + (Fg.q - (1 : Int))))))) ∧ (¬ (((gi Fg.log r14) - (gi Fg.log r12)) < (0 : Int)) → (J40 ((gi Fg.log r14) - (gi Fg.log r12))))) ∧ ∀ (z39 : Int), (J40 z39 → ((0 ≤ z39 ∧ z39 < (Fg.above.length : Nat)) ∧ ((((gi Fg.above z39) = (-1 : Int)) → (Q (0 : Int))) ∧ (¬ ((gi Fg.above z39) = (-1 : Int)) → ((0 ≤ r12 ∧ r12 < (Fg.log.length : Nat)) ∧ ((I64 ((gi Fg.log r12) + (gi Fg.above z39))) ∧ ((0 ≤ ((gi Fg.log r12) + (gi Fg.above z39)) ∧ ((gi Fg.log r12) + (gi Fg.above z39)) < (Fg.exp.length : Nat)) ∧ (Q (gi Fg.exp ((gi Fg.log r12) + (gi Fg.above z39))))))))))))))))))))))
theorem ok_Add {w : World} {Q : Int → Prop} {Fg : GFv} {x : Int} {y : Int} {ag : Addr} {Bg : Nat} (hgg : GFR Bg w ag Fg) (hv : V_Add Fg x y Q) :
    Calls Try.prog 99 #[.pointer (some ag), .int .i64 x, .int .i64 y] w fun e w' => ∃ v Qr, e = .returned v ∧ w.grownBy w' none ∧ Rows w.heap.size none w' Qr ∧ News w.heap.size Qr ∧ ∃ (r0 : Int), v = .int .i64 r0 ∧ Qr = [] ∧ Q r0 := by
  have hgg_ := hgg
  obtain ⟨Ag_mod, kg_mod, Ag_exp, kg_exp, Ag_log, kg_log, Ag_above, kg_above, hg_c, hg_mod, hg_exp, hg_log, hg_above⟩ := hgg_
  refine calls_swap ?_
  refine calls_of_W (vs := [.pointer (some ag), .int .i64 x, .int .i64 y]) [6] Try.func99 rfl rfl rfl rfl ?_
  have hS := St.start w
  unfold V_Add at hv
  refine W.seq ?_
  refine W.region ?_
  refine WL.assign rfl rfl ?_
  refine WL.done ?_
  refine W.seq ?_
  refine W.region ?_
  refine WL.move rfl rfl ?_
  refine WL.move rfl rfl ?_
  refine SL.call hS (ok_element (GFR.ext (GFR.norm hgg) hS.ext) hv) Try.func101 rfl Try.nm101 rfl rfl ?_
  rintro _ _ w11 ⟨r12, rfl, rfl, hv⟩ hGw11 hS
  change St _ _ _ _ [] at hS
  refine WL.move rfl rfl ?_
  refine WL.move rfl rfl ?_
  refine SL.call hS (ok_element (GFR.ext (GFR.norm hgg) hS.ext) hv) Try.func101 rfl Try.nm101 rfl rfl ?_
  rintro _ _ w13 ⟨r14, rfl, rfl, hv⟩ hGw13 hS
  change St _ _ _ _ [] at hS
  refine WL.assign rfl rfl ?_
  refine WL.assign rfl rfl ?_
  refine WL.done ?_
  refine W.seq ?_
  refine W.block ?_
  refine W.seq ?_
  refine W.region ?_
  refine WL.move rfl rfl ?_
  refine WL.nilCheck rfl rfl ?_
  refine WL.fieldA (off := 0) Try.fla92_0 rfl rfl ?_
  refine WL.fieldA (off := 0) Try.fla24_0 rfl rfl ?_
  refine WL.load Try.underlying3 rfl rfl (Rd.at_ (hS.ro hg_c) (j := 0) rfl) rfl ?_
  refine WL.eqlD rfl rfl rfl ?_
  refine WL.assign rfl rfl ?_
  refine WL.done ?_
  refine W.cond2 rfl (fun c15 => ?_) (fun c15 => ?_)
  · have hv := hv.1 (of_decide_eq_true c15)
    refine W.seq ?_
    refine W.region ?_
    refine WL.move rfl rfl ?_
    refine WL.move rfl rfl ?_
    obtain ⟨o16, hv⟩ := hv
    refine WL.bits (r := (ixor r12 r14)) rfl rfl (by decide) (run_ixor o16) rfl ?_
    refine WL.assign rfl rfl ?_
    refine WL.done ?_
    refine W.ret ?_
    refine ⟨_, rfl, Fin.nil ?_⟩
    exact ⟨_, hS.ext, (hS.pick [] rfl).rows, News.of (hS.pick [] rfl).rows rfl, ⟨(ixor r12 r14), rfl, rfl, hv⟩⟩
  · have hv := hv.2 (of_decide_eq_false c15)
    refine W.seq ?_
    refine W.region ?_
    refine WL.move rfl rfl ?_
    refine WL.eqlD rfl rfl rfl ?_
    refine WL.assign rfl rfl ?_
    refine WL.done ?_
    refine W.cond2 rfl (fun c17 => ?_) (fun c17 => ?_)
    · have hv := hv.1 (of_decide_eq_true c17)
      refine W.seq ?_
      refine W.region ?_
      refine WL.move rfl rfl ?_
      refine WL.assign rfl rfl ?_
      refine WL.done ?_
      refine W.ret ?_
      refine ⟨_, rfl, Fin.nil ?_⟩
      exact ⟨_, hS.ext, (hS.pick [] rfl).rows, News.of (hS.pick [] rfl).rows rfl, ⟨r14, rfl, rfl, hv⟩⟩
    · have hv := hv.2 (of_decide_eq_false c17)
      refine W.seq ?_
      refine W.region ?_
      refine WL.move rfl rfl ?_
      refine WL.eqlD rfl rfl rfl ?_
      refine WL.assign rfl rfl ?_
      refine WL.done ?_
      refine W.cond2 rfl (fun c18 => ?_) (fun c18 => ?_)
      · have hv := hv.1 (of_decide_eq_true c18)
        refine W.seq ?_
        refine W.region ?_
        refine WL.move rfl rfl ?_
        refine WL.assign rfl rfl ?_
        refine WL.done ?_
        refine W.ret ?_
        refine ⟨_, rfl, Fin.nil ?_⟩
        exact ⟨_, hS.ext, (hS.pick [] rfl).rows, News.of (hS.pick [] rfl).rows rfl, ⟨r12, rfl, rfl, hv⟩⟩
      · have hv := hv.2 (of_decide_eq_false c18)
        refine W.skip ?_
        refine W.seq ?_
        obtain ⟨o25, hv⟩ := hv
        obtain ⟨o33, hv⟩ := hv
        obtain ⟨o36, hv⟩ := hv
        have hS0 := hS
        refine W.drawX 16 (fun _ => false) (fun _ => none) [⟨[], [0], true⟩, ⟨[0], [], true⟩, ⟨[1], [], true⟩, ⟨[2], [], false⟩, ⟨[], [2], true⟩, ⟨[3, 4], [], true⟩, ⟨[5], [], false⟩, ⟨[], [0], true⟩, ⟨[7], [], true⟩, ⟨[8], [], true⟩, ⟨[9], [], false⟩, ⟨[], [1], true⟩, ⟨[10, 11], [], true⟩, ⟨[12], [], false⟩, ⟨[6, 13], [], true⟩, ⟨[14], [], true⟩] [[(0, .pointer (some ag))], [], [], [], [(2, .int .i64 r14)], [], [], [(0, .pointer (some ag))], [], [], [], [(1, .int .i64 r12)], [], [], [], []] (fun iQ => [fun v _ => v = .pointer (some ag), fun v _ => v = .pointer (some ag), fun v _ => v = .pointer (some (ag.add 5)), fun v _ => v = .slice Ag_log Fg.log.length kg_log, fun v _ => v = .int .i64 r14, fun v _ => v = .pointer (some ((adOf Ag_log).add r14.toNat)), fun v _ => v = .int .i64 (gi Fg.log r14), fun v _ => v = .pointer (some ag), fun v _ => v = .pointer (some ag), fun v _ => v = .pointer (some (ag.add 5)), fun v _ => v = .slice Ag_log Fg.log.length kg_log, fun v _ => v = .int .i64 r12, fun v _ => v = .pointer (some ((adOf Ag_log).add r12.toNat)), fun v _ => v = .int .i64 (gi Fg.log r12), fun v _ => v = .int .i64 ((gi Fg.log r14) - (gi Fg.log r12)), fun v _ => v = .int .i64 ((gi Fg.log r14) - (gi Fg.log r12))].getD iQ (fun _ _ => True)) Try.mixed (by kernel_rfl) ?_ (by kernel_rfl) ?_ ?_
        · refine Vs_monoT _ ?_
          intro VQ hVQ vQ wQ1 wQ2 hQ1 hQ2
          simp only [List.mem_cons, List.not_mem_nil, or_false] at hVQ
          rcases hVQ with rfl | rfl | rfl | rfl | rfl | rfl | rfl | rfl | rfl | rfl | rfl | rfl | rfl | rfl | rfl | rfl
          · exact hQ1
          · exact hQ1
          · exact hQ1
          · exact hQ1
          · exact hQ1
          · exact hQ1
          · exact hQ1
          · exact hQ1
          · exact hQ1
          · exact hQ1
          · exact hQ1
          · exact hQ1
          · exact hQ1
          · exact hQ1
          · exact hQ1
          · exact hQ1
        · refine ⟨⟨rfl, ⟨rfl, trivial⟩, ?_⟩, ⟨rfl, trivial, ?_⟩, ⟨rfl, trivial, ?_⟩, ⟨rfl, trivial, ?_⟩, ⟨rfl, ⟨rfl, trivial⟩, ?_⟩, ⟨rfl, trivial, ?_⟩, ⟨rfl, trivial, ?_⟩, ⟨rfl, ⟨rfl, trivial⟩, ?_⟩, ⟨rfl, trivial, ?_⟩, ⟨rfl, trivial, ?_⟩, ⟨rfl, trivial, ?_⟩, ⟨rfl, ⟨rfl, trivial⟩, ?_⟩, ⟨rfl, trivial, ?_⟩, ⟨rfl, trivial, ?_⟩, ⟨rfl, trivial, ?_⟩, ⟨rfl, trivial, ?_⟩, trivial⟩
          · intro w19 hE
            intro RR
            refine WL.move rfl rfl ?_
            exact WL.done ⟨_, rfl, rfl, rfl, (fun h => absurd h (by decide)), (fun j h => by cases h)⟩
          · intro w20 hE
            rintro _ rfl
            intro RR
            refine WL.nilCheck rfl rfl ?_
            exact WL.done ⟨_, rfl, rfl, rfl, (fun h => absurd h (by decide)), (fun j h => by cases h)⟩
          · intro w21 hE
            rintro _ rfl
            intro RR
            refine WL.fieldA (off := 5) Try.fla92_3 rfl rfl ?_
            exact WL.done ⟨_, rfl, rfl, rfl, (fun h => absurd h (by decide)), (fun j h => by cases h)⟩
          · intro w22 hE
            have hE := hE rfl
            have hS := hS.grow hE
            rintro _ rfl
            intro RR
            refine WL.load Try.underlying22 rfl rfl (Rd.at_ (hS.ro hg_c) (j := 5) rfl) rfl ?_
            exact WL.done ⟨_, rfl, ext_refl _, rfl, (fun h => absurd h (by decide)), (fun j h => by cases h)⟩
          · intro w23 hE
            intro RR
            refine WL.move rfl rfl ?_
            exact WL.done ⟨_, rfl, rfl, rfl, (fun h => absurd h (by decide)), (fun j h => by cases h)⟩
          · intro w24 hE
            rintro _ rfl
            rintro _ rfl
            intro RR
            refine SL.index Try.underlying22 Try.el3 (hS.ro hg_log) rfl rfl o25 rfl ?_
            exact WL.done ⟨_, rfl, rfl, rfl, (fun h => absurd h (by decide)), (fun j h => by cases h)⟩
          · intro w26 hE
            have hE := hE rfl
            have hS := hS.grow hE
            rintro _ rfl
            intro RR
            refine WL.load Try.underlying3 rfl rfl (Rd.gi (hS.ro hg_log) o25) rfl ?_
            exact WL.done ⟨_, rfl, ext_refl _, rfl, (fun h => absurd h (by decide)), (fun j h => by cases h)⟩
          · intro w27 hE
            intro RR
            refine WL.move rfl rfl ?_
            exact WL.done ⟨_, rfl, rfl, rfl, (fun h => absurd h (by decide)), (fun j h => by cases h)⟩
          · intro w28 hE
            rintro _ rfl
            intro RR
            refine WL.nilCheck rfl rfl ?_
            exact WL.done ⟨_, rfl, rfl, rfl, (fun h => absurd h (by decide)), (fun j h => by cases h)⟩
          · intro w29 hE
            rintro _ rfl
            intro RR
            refine WL.fieldA (off := 5) Try.fla92_3 rfl rfl ?_
            exact WL.done ⟨_, rfl, rfl, rfl, (fun h => absurd h (by decide)), (fun j h => by cases h)⟩
          · intro w30 hE
            have hE := hE rfl
            have hS := hS.grow hE
            rintro _ rfl
            intro RR
            refine WL.load Try.underlying22 rfl rfl (Rd.at_ (hS.ro hg_c) (j := 5) rfl) rfl ?_
            exact WL.done ⟨_, rfl, ext_refl _, rfl, (fun h => absurd h (by decide)), (fun j h => by cases h)⟩
          · intro w31 hE
            intro RR
            refine WL.move rfl rfl ?_
            exact WL.done ⟨_, rfl, rfl, rfl, (fun h => absurd h (by decide)), (fun j h => by cases h)⟩
          · intro w32 hE
            rintro _ rfl
            rintro _ rfl
            intro RR
            refine SL.index Try.underlying22 Try.el3 (hS.ro hg_log) rfl rfl o33 rfl ?_
            exact WL.done ⟨_, rfl, rfl, rfl, (fun h => absurd h (by decide)), (fun j h => by cases h)⟩
          · intro w34 hE
            have hE := hE rfl
            have hS := hS.grow hE
            rintro _ rfl
            intro RR
            refine WL.load Try.underlying3 rfl rfl (Rd.gi (hS.ro hg_log) o33) rfl ?_
            exact WL.done ⟨_, rfl, ext_refl _, rfl, (fun h => absurd h (by decide)), (fun j h => by cases h)⟩
          · intro w35 hE
            rintro _ rfl
            rintro _ rfl
            intro RR
            refine WL.sub (r := ((gi Fg.log r14) - (gi Fg.log r12))) rfl rfl (wr o36) rfl ?_
            exact WL.done ⟨_, rfl, rfl, rfl, (fun h => absurd h (by decide)), (fun j h => by cases h)⟩
          · intro w37 hE
            rintro _ rfl
            intro RR
            refine WL.assign rfl rfl ?_
            exact WL.done ⟨_, rfl, rfl, rfl, (fun h => absurd h (by decide)), (fun j h => by cases h)⟩
        · intro vals w38 hT hVs hAp hCp
          have hS := hS.grow hT
          have hv0 : vals 0 = _ := hVs 0 (by decide)
          have hv1 : vals 1 = _ := hVs 1 (by decide)
          have hv2 : vals 2 = _ := hVs 2 (by decide)
          have hv3 : vals 3 = _ := hVs 3 (by decide)
          have hv4 : vals 4 = _ := hVs 4 (by decide)
          have hv5 : vals 5 = _ := hVs 5 (by decide)
          have hv6 : vals 6 = _ := hVs 6 (by decide)
          have hv7 : vals 7 = _ := hVs 7 (by decide)
          have hv8 : vals 8 = _ := hVs 8 (by decide)
          have hv9 : vals 9 = _ := hVs 9 (by decide)
          have hv10 : vals 10 = _ := hVs 10 (by decide)
          have hv11 : vals 11 = _ := hVs 11 (by decide)
          have hv12 : vals 12 = _ := hVs 12 (by decide)
          have hv13 : vals 13 = _ := hVs 13 (by decide)
          have hv14 : vals 14 = _ := hVs 14 (by decide)
          have hv15 : vals 15 = _ := hVs 15 (by decide)
          rw [show (List.filterMap (fun i => Option.map (fun t => (t, vals i)) (dstAt _ i)) (List.range _)) = [(33, .pointer (some ag)), (34, .pointer (some ag)), (35, .pointer (some (ag.add 5))), (36, .slice Ag_log Fg.log.length kg_log), (37, .int .i64 r14), (38, .pointer (some ((adOf Ag_log).add r14.toNat))), (39, .int .i64 (gi Fg.log r14)), (40, .pointer (some ag)), (41, .pointer (some ag)), (42, .pointer (some (ag.add 5))), (43, .slice Ag_log Fg.log.length kg_log), (44, .int .i64 r12), (45, .pointer (some ((adOf Ag_log).add r12.toNat))), (46, .int .i64 (gi Fg.log r12)), (47, .int .i64 ((gi Fg.log r14) - (gi Fg.log r12))), (7, .int .i64 ((gi Fg.log r14) - (gi Fg.log r12)))] from by
            show [(33, vals 0), (34, vals 1), (35, vals 2), (36, vals 3), (37, vals 4), (38, vals 5), (39, vals 6), (40, vals 7), (41, vals 8), (42, vals 9), (43, vals 10), (44, vals 11), (45, vals 12), (46, vals 13), (47, vals 14), (7, vals 15)] = _
            rw [hv0, hv1, hv2, hv3, hv4, hv5, hv6, hv7, hv8, hv9, hv10, hv11, hv12, hv13, hv14, hv15]]
          refine WA.done (by decide +kernel) ?_
          refine W.seq ?_
          refine W.seq ?_
          refine W.region ?_
          refine WL.move rfl rfl ?_
          refine WL.lssD rfl rfl rfl ?_
          refine WL.done ?_
          obtain ⟨J40, hv, hk67⟩ := hv
          refine W.cutN (σ := Int) (fun z39 w1 => J40 z39 ∧ St TT w none w1 []) (fun z39 => [(0, .pointer (some ag)), (1, .int .i64 r12), (6, .int .i64 (0 : Int)), (7, .int .i64 z39)]) ?_ ?_
          · refine W.cond2 rfl (fun c41 => ?_) (fun c41 => ?_)
            · have hv := hv.1 (of_decide_eq_true c41)
              refine W.region ?_
              refine WL.move rfl rfl ?_
              refine WL.move rfl rfl ?_
              refine WL.nilCheck rfl rfl ?_
              refine WL.fieldA (off := 3) Try.fla92_1 rfl rfl ?_
              refine WL.load Try.underlying3 rfl rfl (Rd.at_ (hS.ro hg_c) (j := 3) rfl) rfl ?_
              obtain ⟨o42, hv⟩ := hv
              refine WL.sub (r := (Fg.q - (1 : Int))) rfl rfl (wr o42) rfl ?_
              obtain ⟨o43, hv⟩ := hv
              refine WL.add (r := (((gi Fg.log r14) - (gi Fg.log r12)) + (Fg.q - (1 : Int)))) rfl rfl (wr o43) rfl ?_
              refine WL.assign rfl rfl ?_
              refine WL.done ?_
              change St _ _ _ _ [] at hS
              exact ⟨(((gi Fg.log r14) - (gi Fg.log r12)) + (Fg.q - (1 : Int))), ⟨rfl, rfl, rfl, rfl, trivial⟩, rfl, hv, hS⟩
            · have hv := hv.2 (of_decide_eq_false c41)
              refine W.skip ?_
              change St _ _ _ _ [] at hS
              exact ⟨((gi Fg.log r14) - (gi Fg.log r12)), ⟨rfl, rfl, rfl, rfl, trivial⟩, rfl, hv, hS⟩
          · rintro z39 w44 ⟨hv, hS⟩
            have hv := hk67 z39 hv
            refine W.seq ?_
            refine W.region ?_
            refine WL.move rfl rfl ?_
            refine WL.nilCheck rfl rfl ?_
            refine WL.fieldA (off := 6) Try.fla92_4 rfl rfl ?_
            refine WL.load Try.underlying22 rfl rfl (Rd.at_ (hS.ro hg_c) (j := 6) rfl) rfl ?_
            refine WL.move rfl rfl ?_
            obtain ⟨o45, hv⟩ := hv
            refine SL.index Try.underlying22 Try.el3 (hS.ro hg_above) rfl rfl o45 rfl ?_
            refine WL.load Try.underlying3 rfl rfl (Rd.gi (hS.ro hg_above) o45) rfl ?_
            refine WL.assign rfl rfl ?_
            refine WL.done ?_
            refine W.seq ?_
            refine W.seq ?_
            refine W.region ?_
            refine WL.move rfl rfl ?_
            refine WL.eqlD rfl rfl rfl ?_
            refine WL.done ?_
            refine W.cond2 rfl (fun c46 => ?_) (fun c46 => ?_)
            · have hv := hv.1 (of_decide_eq_true c46)
              refine W.seq ?_
              refine W.region ?_
              refine WL.assign rfl rfl ?_
              refine WL.done ?_
              refine W.ret ?_
              refine ⟨_, rfl, Fin.nil ?_⟩
              exact ⟨_, hS.ext, (hS.pick [] rfl).rows, News.of (hS.pick [] rfl).rows rfl, ⟨(0 : Int), rfl, rfl, hv⟩⟩
            · have hv := hv.2 (of_decide_eq_false c46)
              refine W.skip ?_
              refine W.seq ?_
              obtain ⟨o57, hv⟩ := hv
              obtain ⟨o61, hv⟩ := hv
              obtain ⟨o63, hv⟩ := hv
              have hS0 := hS
              refine W.drawX 16 (fun _ => false) (fun _ => none) [⟨[], [0], true⟩, ⟨[0], [], true⟩, ⟨[1], [], true⟩, ⟨[2], [], false⟩, ⟨[], [0], true⟩, ⟨[4], [], true⟩, ⟨[5], [], true⟩, ⟨[6], [], false⟩, ⟨[], [1], true⟩, ⟨[7, 8], [], true⟩, ⟨[9], [], false⟩, ⟨[], [8], true⟩, ⟨[10, 11], [], true⟩, ⟨[3, 12], [], true⟩, ⟨[13], [], false⟩, ⟨[14], [], true⟩] [[(0, .pointer (some ag))], [], [], [], [(0, .pointer (some ag))], [], [], [], [(1, .int .i64 r12)], [], [], [(8, .int .i64 (gi Fg.above z39))], [], [], [], []] (fun iQ => [fun v _ => v = .pointer (some ag), fun v _ => v = .pointer (some ag), fun v _ => v = .pointer (some (ag.add 4)), fun v _ => v = .slice Ag_exp Fg.exp.length kg_exp, fun v _ => v = .pointer (some ag), fun v _ => v = .pointer (some ag), fun v _ => v = .pointer (some (ag.add 5)), fun v _ => v = .slice Ag_log Fg.log.length kg_log, fun v _ => v = .int .i64 r12, fun v _ => v = .pointer (some ((adOf Ag_log).add r12.toNat)), fun v _ => v = .int .i64 (gi Fg.log r12), fun v _ => v = .int .i64 (gi Fg.above z39), fun v _ => v = .int .i64 ((gi Fg.log r12) + (gi Fg.above z39)), fun v _ => v = .pointer (some ((adOf Ag_exp).add (((gi Fg.log r12) + (gi Fg.above z39)).toNat))), fun v _ => v = .int .i64 (gi Fg.exp ((gi Fg.log r12) + (gi Fg.above z39))), fun v _ => v = .int .i64 (gi Fg.exp ((gi Fg.log r12) + (gi Fg.above z39)))].getD iQ (fun _ _ => True)) Try.mixed (by kernel_rfl) ?_ (by kernel_rfl) ?_ ?_
              · refine Vs_monoT _ ?_
                intro VQ hVQ vQ wQ1 wQ2 hQ1 hQ2
                simp only [List.mem_cons, List.not_mem_nil, or_false] at hVQ
                rcases hVQ with rfl | rfl | rfl | rfl | rfl | rfl | rfl | rfl | rfl | rfl | rfl | rfl | rfl | rfl | rfl | rfl
                · exact hQ1
                · exact hQ1
                · exact hQ1
                · exact hQ1
                · exact hQ1
                · exact hQ1
                · exact hQ1
                · exact hQ1
                · exact hQ1
                · exact hQ1
                · exact hQ1
                · exact hQ1
                · exact hQ1
                · exact hQ1
                · exact hQ1
                · exact hQ1
              · refine ⟨⟨rfl, ⟨rfl, trivial⟩, ?_⟩, ⟨rfl, trivial, ?_⟩, ⟨rfl, trivial, ?_⟩, ⟨rfl, trivial, ?_⟩, ⟨rfl, ⟨rfl, trivial⟩, ?_⟩, ⟨rfl, trivial, ?_⟩, ⟨rfl, trivial, ?_⟩, ⟨rfl, trivial, ?_⟩, ⟨rfl, ⟨rfl, trivial⟩, ?_⟩, ⟨rfl, trivial, ?_⟩, ⟨rfl, trivial, ?_⟩, ⟨rfl, ⟨rfl, trivial⟩, ?_⟩, ⟨rfl, trivial, ?_⟩, ⟨rfl, trivial, ?_⟩, ⟨rfl, trivial, ?_⟩, ⟨rfl, trivial, ?_⟩, trivial⟩
                · intro w47 hE
                  intro RR
                  refine WL.move rfl rfl ?_
                  exact WL.done ⟨_, rfl, rfl, rfl, (fun h => absurd h (by decide)), (fun j h => by cases h)⟩
                · intro w48 hE
                  rintro _ rfl
                  intro RR
                  refine WL.nilCheck rfl rfl ?_
                  exact WL.done ⟨_, rfl, rfl, rfl, (fun h => absurd h (by decide)), (fun j h => by cases h)⟩
                · intro w49 hE
                  rintro _ rfl
                  intro RR
                  refine WL.fieldA (off := 4) Try.fla92_2 rfl rfl ?_
                  exact WL.done ⟨_, rfl, rfl, rfl, (fun h => absurd h (by decide)), (fun j h => by cases h)⟩
                · intro w50 hE
                  have hE := hE rfl
                  have hS := hS.grow hE
                  rintro _ rfl
                  intro RR
                  refine WL.load Try.underlying22 rfl rfl (Rd.at_ (hS.ro hg_c) (j := 4) rfl) rfl ?_
                  exact WL.done ⟨_, rfl, ext_refl _, rfl, (fun h => absurd h (by decide)), (fun j h => by cases h)⟩
                · intro w51 hE
                  intro RR
                  refine WL.move rfl rfl ?_
                  exact WL.done ⟨_, rfl, rfl, rfl, (fun h => absurd h (by decide)), (fun j h => by cases h)⟩
                · intro w52 hE
                  rintro _ rfl
                  intro RR
                  refine WL.nilCheck rfl rfl ?_
                  exact WL.done ⟨_, rfl, rfl, rfl, (fun h => absurd h (by decide)), (fun j h => by cases h)⟩
                · intro w53 hE
                  rintro _ rfl
                  intro RR
                  refine WL.fieldA (off := 5) Try.fla92_3 rfl rfl ?_
                  exact WL.done ⟨_, rfl, rfl, rfl, (fun h => absurd h (by decide)), (fun j h => by cases h)⟩
                · intro w54 hE
                  have hE := hE rfl
                  have hS := hS.grow hE
                  rintro _ rfl
                  intro RR
                  refine WL.load Try.underlying22 rfl rfl (Rd.at_ (hS.ro hg_c) (j := 5) rfl) rfl ?_
                  exact WL.done ⟨_, rfl, ext_refl _, rfl, (fun h => absurd h (by decide)), (fun j h => by cases h)⟩
                · intro w55 hE
                  intro RR
                  refine WL.move rfl rfl ?_
                  exact WL.done ⟨_, rfl, rfl, rfl, (fun h => absurd h (by decide)), (fun j h => by cases h)⟩
                · intro w56 hE
                  rintro _ rfl
                  rintro _ rfl
                  intro RR
                  refine SL.index Try.underlying22 Try.el3 (hS.ro hg_log) rfl rfl o57 rfl ?_
                  exact WL.done ⟨_, rfl, rfl, rfl, (fun h => absurd h (by decide)), (fun j h => by cases h)⟩
                · intro w58 hE
                  have hE := hE rfl
                  have hS := hS.grow hE
                  rintro _ rfl
                  intro RR
                  refine WL.load Try.underlying3 rfl rfl (Rd.gi (hS.ro hg_log) o57) rfl ?_
                  exact WL.done ⟨_, rfl, ext_refl _, rfl, (fun h => absurd h (by decide)), (fun j h => by cases h)⟩
                · intro w59 hE
                  intro RR
                  refine WL.move rfl rfl ?_
                  exact WL.done ⟨_, rfl, rfl, rfl, (fun h => absurd h (by decide)), (fun j h => by cases h)⟩
                · intro w60 hE
                  rintro _ rfl
                  rintro _ rfl
                  intro RR
                  refine WL.add (r := ((gi Fg.log r12) + (gi Fg.above z39))) rfl rfl (wr o61) rfl ?_
                  exact WL.done ⟨_, rfl, rfl, rfl, (fun h => absurd h (by decide)), (fun j h => by cases h)⟩
                · intro w62 hE
                  rintro _ rfl
                  rintro _ rfl
                  intro RR
                  refine SL.index Try.underlying22 Try.el3 (hS.ro hg_exp) rfl rfl o63 rfl ?_
                  exact WL.done ⟨_, rfl, rfl, rfl, (fun h => absurd h (by decide)), (fun j h => by cases h)⟩
                · intro w64 hE
                  have hE := hE rfl
                  have hS := hS.grow hE
                  rintro _ rfl
                  intro RR
                  refine WL.load Try.underlying3 rfl rfl (Rd.gi (hS.ro hg_exp) o63) rfl ?_
                  exact WL.done ⟨_, rfl, ext_refl _, rfl, (fun h => absurd h (by decide)), (fun j h => by cases h)⟩
                · intro w65 hE
                  rintro _ rfl
                  intro RR
                  refine WL.assign rfl rfl ?_
                  exact WL.done ⟨_, rfl, rfl, rfl, (fun h => absurd h (by decide)), (fun j h => by cases h)⟩
              · intro vals w66 hT hVs hAp hCp
                have hS := hS.grow hT
                have hv0 : vals 0 = _ := hVs 0 (by decide)
                have hv1 : vals 1 = _ := hVs 1 (by decide)
                have hv2 : vals 2 = _ := hVs 2 (by decide)
                have hv3 : vals 3 = _ := hVs 3 (by decide)
                have hv4 : vals 4 = _ := hVs 4 (by decide)
                have hv5 : vals 5 = _ := hVs 5 (by decide)
                have hv6 : vals 6 = _ := hVs 6 (by decide)
                have hv7 : vals 7 = _ := hVs 7 (by decide)
                have hv8 : vals 8 = _ := hVs 8 (by decide)
                have hv9 : vals 9 = _ := hVs 9 (by decide)
                have hv10 : vals 10 = _ := hVs 10 (by decide)
                have hv11 : vals 11 = _ := hVs 11 (by decide)
                have hv12 : vals 12 = _ := hVs 12 (by decide)
                have hv13 : vals 13 = _ := hVs 13 (by decide)
                have hv14 : vals 14 = _ := hVs 14 (by decide)
                have hv15 : vals 15 = _ := hVs 15 (by decide)
                rw [show (List.filterMap (fun i => Option.map (fun t => (t, vals i)) (dstAt _ i)) (List.range _)) = [(66, .pointer (some ag)), (67, .pointer (some ag)), (68, .pointer (some (ag.add 4))), (69, .slice Ag_exp Fg.exp.length kg_exp), (70, .pointer (some ag)), (71, .pointer (some ag)), (72, .pointer (some (ag.add 5))), (73, .slice Ag_log Fg.log.length kg_log), (74, .int .i64 r12), (75, .pointer (some ((adOf Ag_log).add r12.toNat))), (76, .int .i64 (gi Fg.log r12)), (77, .int .i64 (gi Fg.above z39)), (78, .int .i64 ((gi Fg.log r12) + (gi Fg.above z39))), (79, .pointer (some ((adOf Ag_exp).add (((gi Fg.log r12) + (gi Fg.above z39)).toNat)))), (80, .int .i64 (gi Fg.exp ((gi Fg.log r12) + (gi Fg.above z39)))), (6, .int .i64 (gi Fg.exp ((gi Fg.log r12) + (gi Fg.above z39))))] from by
                  show [(66, vals 0), (67, vals 1), (68, vals 2), (69, vals 3), (70, vals 4), (71, vals 5), (72, vals 6), (73, vals 7), (74, vals 8), (75, vals 9), (76, vals 10), (77, vals 11), (78, vals 12), (79, vals 13), (80, vals 14), (6, vals 15)] = _
                  rw [hv0, hv1, hv2, hv3, hv4, hv5, hv6, hv7, hv8, hv9, hv10, hv11, hv12, hv13, hv14, hv15]]
                refine WA.done (by decide +kernel) ?_
                refine W.ret ?_
                refine ⟨_, rfl, Fin.nil ?_⟩
                exact ⟨_, hS.ext, (hS.pick [] rfl).rows, News.of (hS.pick [] rfl).rows rfl, ⟨(gi Fg.exp ((gi Fg.log r12) + (gi Fg.above z39))), rfl, rfl, hv⟩⟩

end Go.Proofs.Ythjpminlkcklgaa
