/- Contracts of functions of the program, and what they lean on: D7. -/
import Derived.Test.YtinibbfpdbddpaaFieldFrobeniusG6
set_option linter.unusedSimpArgs false
set_option linter.unusedVariables false
namespace Go.Proofs.Ytinibbfpdbddpaa
open Go.RowKit
def V_alive  (Q : Bool → Prop) : Prop :=
  V_New (2 : Int) (2 : Int) ([(1 : Int), (1 : Int)] : List Int) (fun q => match q with | (none, r16) => V_New (3 : Int) (2 : Int) ([(1 : Int), (0 : Int)] : List Int) (fun q => match q with | (none, r28) => ((r16 ≠ (0 : Int)) → Q false) ∧ (¬ (r16 ≠ (0 : Int)) → (((r28 ≠ (0 : Int)) → Q false) ∧ (¬ (r28 ≠ (0 : Int)) → Q false))) | (some F29, r28) => ((r16 ≠ (0 : Int)) → Q false) ∧ (¬ (r16 ≠ (0 : Int)) → (((r28 ≠ (0 : Int)) → Q false) ∧ (¬ (r28 ≠ (0 : Int)) → Q false)))) | (some F17, r16) => V_New (3 : Int) (2 : Int) ([(1 : Int), (0 : Int)] : List Int) (fun q => match q with | (none, r44) => ((r16 ≠ (0 : Int)) → Q false) ∧ (¬ (r16 ≠ (0 : Int)) → (((r44 ≠ (0 : Int)) → Q false) ∧ (¬ (r44 ≠ (0 : Int)) → Q false))) | (some F45, r44) => ((r16 ≠ (0 : Int)) → Q false) ∧ (¬ (r16 ≠ (0 : Int)) → (((r44 ≠ (0 : Int)) → Q false) ∧ (¬ (r44 ≠ (0 : Int)) → (V_Add F17 (2 : Int) (3 : Int) (fun r56 => ((r56 = (1 : Int)) → (V_Mul F17 (2 : Int) (2 : Int) (fun r59 => ((r59 = (3 : Int)) → (V_Mul F17 (2 : Int) (3 : Int) (fun r62 => ((r62 = (1 : Int)) → (V_Mul F45 (3 : Int) (3 : Int) (fun r65 => Q (decide (r65 = (2 : Int)))))) ∧ (¬ (r62 = (1 : Int)) → Q false)))) ∧ (¬ (r59 = (3 : Int)) → Q false)))) ∧ (¬ (r56 = (1 : Int)) → Q false))))))))
theorem ok_alive {w : World} {Q : Bool → Prop}   (hv : V_alive  Q) :
    Calls Try.prog 17 #[] w fun e w' => ∃ v Qr, e = .returned v ∧ w.grownBy w' none ∧ Rows w.heap.size none w' Qr ∧ News w.heap.size Qr ∧ ∃ (r0 : Bool), v = .bool r0 ∧ Qr = [] ∧ Q r0 := by
  refine calls_swap ?_
  refine calls_of_W (vs := []) [0] Try.func17 rfl rfl rfl rfl ?_
  have hS := St.start w
  unfold V_alive at hv
  refine W.seq ?_
  refine W.region ?_
  refine WL.assign rfl rfl ?_
  refine WL.done ?_
  refine W.seq ?_
  refine W.region ?_
  refine SL.lit1 (vs := is ([(1 : Int), (1 : Int)] : List Int)) hS Try.underlying22 Try.el3 rfl rfl rfl rfl (is_one _) rfl ?_
  intro A11 w12 hS
  refine WL.build (cells := #[.int .i64 (2 : Int), .int .i64 (2 : Int), .slice A11 2 2]) Try.bld24 rfl rfl rfl ?_
  refine SL.call hS (ok_New (hS.rd (i := 0) rfl) hv) Try.func19 rfl Try.nm19 rfl rfl ?_
  rintro _ _ w15 ⟨o, r16, hv, hK⟩ hGw15 hS
  cases o with
  | none =>
    obtain ⟨rfl, rfl⟩ := hK
    change St _ _ _ _ [.row 3 1 A11 2 2 (is ([(1 : Int), (1 : Int)] : List Int))] at hS
    refine WL.move rfl rfl ?_
    refine WL.extract rfl rfl rfl ?_
    refine WL.extract rfl rfl rfl ?_
    refine WL.assign rfl rfl ?_
    refine WL.assign rfl rfl ?_
    refine WL.done ?_
    refine W.seq ?_
    refine W.region ?_
    refine SL.lit1 (vs := is ([(1 : Int), (0 : Int)] : List Int)) hS Try.underlying22 Try.el3 rfl rfl rfl rfl (is_one _) rfl ?_
    intro A23 w24 hS
    refine WL.build (cells := #[.int .i64 (3 : Int), .int .i64 (2 : Int), .slice A23 2 2]) Try.bld24 rfl rfl rfl ?_
    refine SL.call hS (ok_New (hS.rd (i := 0) rfl) hv) Try.func19 rfl Try.nm19 rfl rfl ?_
    rintro _ _ w27 ⟨o, r28, hv, hK⟩ hGw27 hS
    cases o with
    | none =>
      obtain ⟨rfl, rfl⟩ := hK
      change St _ _ _ _ [.row 3 1 A23 2 2 (is ([(1 : Int), (0 : Int)] : List Int)), .row 3 1 A11 2 2 (is ([(1 : Int), (1 : Int)] : List Int))] at hS
      refine WL.move rfl rfl ?_
      refine WL.extract rfl rfl rfl ?_
      refine WL.extract rfl rfl rfl ?_
      refine WL.assign rfl rfl ?_
      refine WL.assign rfl rfl ?_
      refine WL.done ?_
      refine W.seq ?_
      refine W.seq ?_
      refine W.region ?_
      refine WL.move rfl rfl ?_
      refine WL.neqD rfl rfl rfl ?_
      refine WL.move rfl rfl ?_
      by_cases g35 : r16 ≠ (0 : Int)
      · have hv := hv.1 g35
        rw [decide_eq_true g35]
        refine WL.pass rfl rfl rfl ?_
        refine WL.pass rfl rfl rfl ?_
        refine WL.pick rfl rfl rfl ?_
        refine WL.move rfl rfl ?_
        refine WL.pass rfl rfl rfl ?_
        refine WL.pass rfl rfl rfl ?_
        refine WL.pick rfl rfl rfl ?_
        refine WL.move rfl rfl ?_
        refine WL.pass rfl rfl rfl ?_
        refine WL.pass rfl rfl rfl ?_
        refine WL.pick rfl rfl rfl ?_
        refine WL.done ?_
        refine W.condT rfl ?_
        refine W.seq ?_
        refine W.region ?_
        refine WL.assign rfl rfl ?_
        refine WL.done ?_
        refine W.ret ?_
        refine ⟨_, rfl, Fin.nil ?_⟩
        exact ⟨_, hS.ext, (hS.pick [] rfl).rows, News.of (hS.pick [] rfl).rows rfl, ⟨false, rfl, rfl, hv⟩⟩
      · have hv := hv.2 g35
        rw [decide_eq_false g35]
        refine WL.take rfl ?_
        refine WL.move rfl rfl ?_
        refine WL.take rfl ?_
        refine WL.neqD rfl rfl rfl ?_
        refine WL.pick rfl rfl rfl ?_
        refine WL.move rfl rfl ?_
        by_cases g36 : r28 ≠ (0 : Int)
        · have hv := hv.1 g36
          rw [decide_eq_true g36]
          refine WL.pass rfl rfl rfl ?_
          refine WL.pass rfl rfl rfl ?_
          refine WL.pick rfl rfl rfl ?_
          refine WL.move rfl rfl ?_
          refine WL.pass rfl rfl rfl ?_
          refine WL.pass rfl rfl rfl ?_
          refine WL.pick rfl rfl rfl ?_
          refine WL.done ?_
          refine W.condT rfl ?_
          refine W.seq ?_
          refine W.region ?_
          refine WL.assign rfl rfl ?_
          refine WL.done ?_
          refine W.ret ?_
          refine ⟨_, rfl, Fin.nil ?_⟩
          exact ⟨_, hS.ext, (hS.pick [] rfl).rows, News.of (hS.pick [] rfl).rows rfl, ⟨false, rfl, rfl, hv⟩⟩
        · have hv := hv.2 g36
          rw [decide_eq_false g36]
          refine WL.take rfl ?_
          refine WL.move rfl rfl ?_
          refine WL.take rfl ?_
          refine WL.eqlPn Try.underlying28 rfl rfl rfl rfl ?_
          refine WL.pick rfl rfl rfl ?_
          refine WL.move rfl rfl ?_
          refine WL.pass rfl rfl rfl ?_
          refine WL.pass rfl rfl rfl ?_
          refine WL.pick rfl rfl rfl ?_
          refine WL.done ?_
          refine W.condT rfl ?_
          refine W.seq ?_
          refine W.region ?_
          refine WL.assign rfl rfl ?_
          refine WL.done ?_
          refine W.ret ?_
          refine ⟨_, rfl, Fin.nil ?_⟩
          exact ⟨_, hS.ext, (hS.pick [] rfl).rows, News.of (hS.pick [] rfl).rows rfl, ⟨false, rfl, rfl, hv⟩⟩
    | some F29 =>
      obtain ⟨ad30, lo31, hi32, rfl, rfl⟩ := hK
      change St _ _ _ _ [.ch lo31 hi32 (fun wz => GFX lo31 hi32 wz ad30 F29), .row 3 1 A23 2 2 (is ([(1 : Int), (0 : Int)] : List Int)), .row 3 1 A11 2 2 (is ([(1 : Int), (1 : Int)] : List Int))] at hS
      refine WL.move rfl rfl ?_
      refine WL.extract rfl rfl rfl ?_
      refine WL.extract rfl rfl rfl ?_
      refine WL.assign rfl rfl ?_
      refine WL.assign rfl rfl ?_
      refine WL.done ?_
      refine W.seq ?_
      refine W.seq ?_
      refine W.region ?_
      refine WL.move rfl rfl ?_
      refine WL.neqD rfl rfl rfl ?_
      refine WL.move rfl rfl ?_
      by_cases g37 : r16 ≠ (0 : Int)
      · have hv := hv.1 g37
        rw [decide_eq_true g37]
        refine WL.pass rfl rfl rfl ?_
        refine WL.pass rfl rfl rfl ?_
        refine WL.pick rfl rfl rfl ?_
        refine WL.move rfl rfl ?_
        refine WL.pass rfl rfl rfl ?_
        refine WL.pass rfl rfl rfl ?_
        refine WL.pick rfl rfl rfl ?_
        refine WL.move rfl rfl ?_
        refine WL.pass rfl rfl rfl ?_
        refine WL.pass rfl rfl rfl ?_
        refine WL.pick rfl rfl rfl ?_
        refine WL.done ?_
        refine W.condT rfl ?_
        refine W.seq ?_
        refine W.region ?_
        refine WL.assign rfl rfl ?_
        refine WL.done ?_
        refine W.ret ?_
        refine ⟨_, rfl, Fin.nil ?_⟩
        exact ⟨_, hS.ext, (hS.pick [] rfl).rows, News.of (hS.pick [] rfl).rows rfl, ⟨false, rfl, rfl, hv⟩⟩
      · have hv := hv.2 g37
        rw [decide_eq_false g37]
        refine WL.take rfl ?_
        refine WL.move rfl rfl ?_
        refine WL.take rfl ?_
        refine WL.neqD rfl rfl rfl ?_
        refine WL.pick rfl rfl rfl ?_
        refine WL.move rfl rfl ?_
        by_cases g38 : r28 ≠ (0 : Int)
        · have hv := hv.1 g38
          rw [decide_eq_true g38]
          refine WL.pass rfl rfl rfl ?_
          refine WL.pass rfl rfl rfl ?_
          refine WL.pick rfl rfl rfl ?_
          refine WL.move rfl rfl ?_
          refine WL.pass rfl rfl rfl ?_
          refine WL.pass rfl rfl rfl ?_
          refine WL.pick rfl rfl rfl ?_
          refine WL.done ?_
          refine W.condT rfl ?_
          refine W.seq ?_
          refine W.region ?_
          refine WL.assign rfl rfl ?_
          refine WL.done ?_
          refine W.ret ?_
          refine ⟨_, rfl, Fin.nil ?_⟩
          exact ⟨_, hS.ext, (hS.pick [] rfl).rows, News.of (hS.pick [] rfl).rows rfl, ⟨false, rfl, rfl, hv⟩⟩
        · have hv := hv.2 g38
          rw [decide_eq_false g38]
          refine WL.take rfl ?_
          refine WL.move rfl rfl ?_
          refine WL.take rfl ?_
          refine WL.eqlPn Try.underlying28 rfl rfl rfl rfl ?_
          refine WL.pick rfl rfl rfl ?_
          refine WL.move rfl rfl ?_
          refine WL.pass rfl rfl rfl ?_
          refine WL.pass rfl rfl rfl ?_
          refine WL.pick rfl rfl rfl ?_
          refine WL.done ?_
          refine W.condT rfl ?_
          refine W.seq ?_
          refine W.region ?_
          refine WL.assign rfl rfl ?_
          refine WL.done ?_
          refine W.ret ?_
          refine ⟨_, rfl, Fin.nil ?_⟩
          exact ⟨_, hS.ext, (hS.pick [] rfl).rows, News.of (hS.pick [] rfl).rows rfl, ⟨false, rfl, rfl, hv⟩⟩
  | some F17 =>
    obtain ⟨ad18, lo19, hi20, rfl, rfl⟩ := hK
    change St _ _ _ _ [.ch lo19 hi20 (fun wz => GFX lo19 hi20 wz ad18 F17), .row 3 1 A11 2 2 (is ([(1 : Int), (1 : Int)] : List Int))] at hS
    refine WL.move rfl rfl ?_
    refine WL.extract rfl rfl rfl ?_
    refine WL.extract rfl rfl rfl ?_
    refine WL.assign rfl rfl ?_
    refine WL.assign rfl rfl ?_
    refine WL.done ?_
    refine W.seq ?_
    refine W.region ?_
    refine SL.lit1 (vs := is ([(1 : Int), (0 : Int)] : List Int)) hS Try.underlying22 Try.el3 rfl rfl rfl rfl (is_one _) rfl ?_
    intro A39 w40 hS
    refine WL.build (cells := #[.int .i64 (3 : Int), .int .i64 (2 : Int), .slice A39 2 2]) Try.bld24 rfl rfl rfl ?_
    refine SL.call hS (ok_New (hS.rd (i := 0) rfl) hv) Try.func19 rfl Try.nm19 rfl rfl ?_
    rintro _ _ w43 ⟨o, r44, hv, hK⟩ hGw43 hS
    cases o with
    | none =>
      obtain ⟨rfl, rfl⟩ := hK
      change St _ _ _ _ [.row 3 1 A39 2 2 (is ([(1 : Int), (0 : Int)] : List Int)), .ch lo19 hi20 (fun wz => GFX lo19 hi20 wz ad18 F17), .row 3 1 A11 2 2 (is ([(1 : Int), (1 : Int)] : List Int))] at hS
      refine WL.move rfl rfl ?_
      refine WL.extract rfl rfl rfl ?_
      refine WL.extract rfl rfl rfl ?_
      refine WL.assign rfl rfl ?_
      refine WL.assign rfl rfl ?_
      refine WL.done ?_
      refine W.seq ?_
      refine W.seq ?_
      refine W.region ?_
      refine WL.move rfl rfl ?_
      refine WL.neqD rfl rfl rfl ?_
      refine WL.move rfl rfl ?_
      by_cases g51 : r16 ≠ (0 : Int)
      · have hv := hv.1 g51
        rw [decide_eq_true g51]
        refine WL.pass rfl rfl rfl ?_
        refine WL.pass rfl rfl rfl ?_
        refine WL.pick rfl rfl rfl ?_
        refine WL.move rfl rfl ?_
        refine WL.pass rfl rfl rfl ?_
        refine WL.pass rfl rfl rfl ?_
        refine WL.pick rfl rfl rfl ?_
        refine WL.move rfl rfl ?_
        refine WL.pass rfl rfl rfl ?_
        refine WL.pass rfl rfl rfl ?_
        refine WL.pick rfl rfl rfl ?_
        refine WL.done ?_
        refine W.condT rfl ?_
        refine W.seq ?_
        refine W.region ?_
        refine WL.assign rfl rfl ?_
        refine WL.done ?_
        refine W.ret ?_
        refine ⟨_, rfl, Fin.nil ?_⟩
        exact ⟨_, hS.ext, (hS.pick [] rfl).rows, News.of (hS.pick [] rfl).rows rfl, ⟨false, rfl, rfl, hv⟩⟩
      · have hv := hv.2 g51
        rw [decide_eq_false g51]
        refine WL.take rfl ?_
        refine WL.move rfl rfl ?_
        refine WL.take rfl ?_
        refine WL.neqD rfl rfl rfl ?_
        refine WL.pick rfl rfl rfl ?_
        refine WL.move rfl rfl ?_
        by_cases g52 : r44 ≠ (0 : Int)
        · have hv := hv.1 g52
          rw [decide_eq_true g52]
          refine WL.pass rfl rfl rfl ?_
          refine WL.pass rfl rfl rfl ?_
          refine WL.pick rfl rfl rfl ?_
          refine WL.move rfl rfl ?_
          refine WL.pass rfl rfl rfl ?_
          refine WL.pass rfl rfl rfl ?_
          refine WL.pick rfl rfl rfl ?_
          refine WL.done ?_
          refine W.condT rfl ?_
          refine W.seq ?_
          refine W.region ?_
          refine WL.assign rfl rfl ?_
          refine WL.done ?_
          refine W.ret ?_
          refine ⟨_, rfl, Fin.nil ?_⟩
          exact ⟨_, hS.ext, (hS.pick [] rfl).rows, News.of (hS.pick [] rfl).rows rfl, ⟨false, rfl, rfl, hv⟩⟩
        · have hv := hv.2 g52
          rw [decide_eq_false g52]
          refine WL.take rfl ?_
          refine WL.move rfl rfl ?_
          refine WL.take rfl ?_
          refine WL.eqlPn Try.underlying28 rfl rfl rfl rfl ?_
          refine WL.pick rfl rfl rfl ?_
          refine WL.move rfl rfl ?_
          refine WL.take rfl ?_
          refine WL.move rfl rfl ?_
          refine WL.take rfl ?_
          refine WL.eqlPn Try.underlying28 rfl rfl rfl rfl ?_
          refine WL.pick rfl rfl rfl ?_
          refine WL.done ?_
          refine W.condT rfl ?_
          refine W.seq ?_
          refine W.region ?_
          refine WL.assign rfl rfl ?_
          refine WL.done ?_
          refine W.ret ?_
          refine ⟨_, rfl, Fin.nil ?_⟩
          exact ⟨_, hS.ext, (hS.pick [] rfl).rows, News.of (hS.pick [] rfl).rows rfl, ⟨false, rfl, rfl, hv⟩⟩
    | some F45 =>
      obtain ⟨ad46, lo47, hi48, rfl, rfl⟩ := hK
      change St _ _ _ _ [.ch lo47 hi48 (fun wz => GFX lo47 hi48 wz ad46 F45), .row 3 1 A39 2 2 (is ([(1 : Int), (0 : Int)] : List Int)), .ch lo19 hi20 (fun wz => GFX lo19 hi20 wz ad18 F17), .row 3 1 A11 2 2 (is ([(1 : Int), (1 : Int)] : List Int))] at hS
      refine WL.move rfl rfl ?_
      refine WL.extract rfl rfl rfl ?_
      refine WL.extract rfl rfl rfl ?_
      refine WL.assign rfl rfl ?_
      refine WL.assign rfl rfl ?_
      refine WL.done ?_
      refine W.seq ?_
      refine W.seq ?_
      refine W.region ?_
      refine WL.move rfl rfl ?_
      refine WL.neqD rfl rfl rfl ?_
      refine WL.move rfl rfl ?_
      by_cases g53 : r16 ≠ (0 : Int)
      · have hv := hv.1 g53
        rw [decide_eq_true g53]
        refine WL.pass rfl rfl rfl ?_
        refine WL.pass rfl rfl rfl ?_
        refine WL.pick rfl rfl rfl ?_
        refine WL.move rfl rfl ?_
        refine WL.pass rfl rfl rfl ?_
        refine WL.pass rfl rfl rfl ?_
        refine WL.pick rfl rfl rfl ?_
        refine WL.move rfl rfl ?_
        refine WL.pass rfl rfl rfl ?_
        refine WL.pass rfl rfl rfl ?_
        refine WL.pick rfl rfl rfl ?_
        refine WL.done ?_
        refine W.condT rfl ?_
        refine W.seq ?_
        refine W.region ?_
        refine WL.assign rfl rfl ?_
        refine WL.done ?_
        refine W.ret ?_
        refine ⟨_, rfl, Fin.nil ?_⟩
        exact ⟨_, hS.ext, (hS.pick [] rfl).rows, News.of (hS.pick [] rfl).rows rfl, ⟨false, rfl, rfl, hv⟩⟩
      · have hv := hv.2 g53
        rw [decide_eq_false g53]
        refine WL.take rfl ?_
        refine WL.move rfl rfl ?_
        refine WL.take rfl ?_
        refine WL.neqD rfl rfl rfl ?_
        refine WL.pick rfl rfl rfl ?_
        refine WL.move rfl rfl ?_
        by_cases g54 : r44 ≠ (0 : Int)
        · have hv := hv.1 g54
          rw [decide_eq_true g54]
          refine WL.pass rfl rfl rfl ?_
          refine WL.pass rfl rfl rfl ?_
          refine WL.pick rfl rfl rfl ?_
          refine WL.move rfl rfl ?_
          refine WL.pass rfl rfl rfl ?_
          refine WL.pass rfl rfl rfl ?_
          refine WL.pick rfl rfl rfl ?_
          refine WL.done ?_
          refine W.condT rfl ?_
          refine W.seq ?_
          refine W.region ?_
          refine WL.assign rfl rfl ?_
          refine WL.done ?_
          refine W.ret ?_
          refine ⟨_, rfl, Fin.nil ?_⟩
          exact ⟨_, hS.ext, (hS.pick [] rfl).rows, News.of (hS.pick [] rfl).rows rfl, ⟨false, rfl, rfl, hv⟩⟩
        · have hv := hv.2 g54
          rw [decide_eq_false g54]
          refine WL.take rfl ?_
          refine WL.move rfl rfl ?_
          refine WL.take rfl ?_
          refine WL.eqlPn Try.underlying28 rfl rfl rfl rfl ?_
          refine WL.pick rfl rfl rfl ?_
          refine WL.move rfl rfl ?_
          refine WL.take rfl ?_
          refine WL.move rfl rfl ?_
          refine WL.take rfl ?_
          refine WL.eqlPn Try.underlying28 rfl rfl rfl rfl ?_
          refine WL.pick rfl rfl rfl ?_
          refine WL.done ?_
          refine W.condF rfl ?_
          refine W.skip ?_
          refine W.seq ?_
          refine W.region ?_
          refine WL.move rfl rfl ?_
          refine SL.call hS (ok_Add (GFX.gfr (hS.chunk (i := 2) rfl)) hv) Try.func32 rfl Try.nm32 rfl rfl ?_
          rintro _ _ w55 ⟨r56, rfl, rfl, hv⟩ hGw55 hS
          change St _ _ _ _ [.ch lo47 hi48 (fun wz => GFX lo47 hi48 wz ad46 F45), .row 3 1 A39 2 2 (is ([(1 : Int), (0 : Int)] : List Int)), .ch lo19 hi20 (fun wz => GFX lo19 hi20 wz ad18 F17), .row 3 1 A11 2 2 (is ([(1 : Int), (1 : Int)] : List Int))] at hS
          refine WL.eqlD rfl rfl rfl ?_
          refine WL.move rfl rfl ?_
          by_cases g57 : r56 = (1 : Int)
          · have hv := hv.1 g57
            rw [decide_eq_true g57]
            refine WL.take rfl ?_
            refine WL.move rfl rfl ?_
            refine WL.take rfl ?_
            refine SL.call hS (ok_Mul (GFX.gfr (hS.chunk (i := 2) rfl)) hv) Try.func38 rfl Try.nm38 rfl rfl ?_
            rintro _ _ w58 ⟨r59, rfl, rfl, hv⟩ hGw58 hS
            change St _ _ _ _ [.ch lo47 hi48 (fun wz => GFX lo47 hi48 wz ad46 F45), .row 3 1 A39 2 2 (is ([(1 : Int), (0 : Int)] : List Int)), .ch lo19 hi20 (fun wz => GFX lo19 hi20 wz ad18 F17), .row 3 1 A11 2 2 (is ([(1 : Int), (1 : Int)] : List Int))] at hS
            refine WL.take rfl ?_
            refine WL.eqlD rfl rfl rfl ?_
            refine WL.pick rfl rfl rfl ?_
            refine WL.move rfl rfl ?_
            by_cases g60 : r59 = (3 : Int)
            · have hv := hv.1 g60
              rw [decide_eq_true g60]
              refine WL.take rfl ?_
              refine WL.move rfl rfl ?_
              refine WL.take rfl ?_
              refine SL.call hS (ok_Mul (GFX.gfr (hS.chunk (i := 2) rfl)) hv) Try.func38 rfl Try.nm38 rfl rfl ?_
              rintro _ _ w61 ⟨r62, rfl, rfl, hv⟩ hGw61 hS
              change St _ _ _ _ [.ch lo47 hi48 (fun wz => GFX lo47 hi48 wz ad46 F45), .row 3 1 A39 2 2 (is ([(1 : Int), (0 : Int)] : List Int)), .ch lo19 hi20 (fun wz => GFX lo19 hi20 wz ad18 F17), .row 3 1 A11 2 2 (is ([(1 : Int), (1 : Int)] : List Int))] at hS
              refine WL.take rfl ?_
              refine WL.eqlD rfl rfl rfl ?_
              refine WL.pick rfl rfl rfl ?_
              refine WL.move rfl rfl ?_
              by_cases g63 : r62 = (1 : Int)
              · have hv := hv.1 g63
                rw [decide_eq_true g63]
                refine WL.take rfl ?_
                refine WL.move rfl rfl ?_
                refine WL.take rfl ?_
                refine SL.call hS (ok_Mul (GFX.gfr (hS.chunk (i := 0) rfl)) hv) Try.func38 rfl Try.nm38 rfl rfl ?_
                rintro _ _ w64 ⟨r65, rfl, rfl, hv⟩ hGw64 hS
                change St _ _ _ _ [.ch lo47 hi48 (fun wz => GFX lo47 hi48 wz ad46 F45), .row 3 1 A39 2 2 (is ([(1 : Int), (0 : Int)] : List Int)), .ch lo19 hi20 (fun wz => GFX lo19 hi20 wz ad18 F17), .row 3 1 A11 2 2 (is ([(1 : Int), (1 : Int)] : List Int))] at hS
                refine WL.take rfl ?_
                refine WL.eqlD rfl rfl rfl ?_
                refine WL.pick rfl rfl rfl ?_
                refine WL.assign rfl rfl ?_
                refine WL.done ?_
                refine W.ret ?_
                refine ⟨_, rfl, Fin.nil ?_⟩
                exact ⟨_, hS.ext, (hS.pick [] rfl).rows, News.of (hS.pick [] rfl).rows rfl, ⟨(decide (r65 = (2 : Int))), rfl, rfl, hv⟩⟩
              · have hv := hv.2 g63
                rw [decide_eq_false g63]
                refine WL.pass rfl rfl rfl ?_
                refine WL.pass rfl rfl rfl ?_
                refine WL.pass rfl rfl rfl ?_
                refine WL.pick rfl rfl rfl ?_
                refine WL.assign rfl rfl ?_
                refine WL.done ?_
                refine W.ret ?_
                refine ⟨_, rfl, Fin.nil ?_⟩
                exact ⟨_, hS.ext, (hS.pick [] rfl).rows, News.of (hS.pick [] rfl).rows rfl, ⟨false, rfl, rfl, hv⟩⟩
            · have hv := hv.2 g60
              rw [decide_eq_false g60]
              refine WL.pass rfl rfl rfl ?_
              refine WL.pass rfl rfl rfl ?_
              refine WL.pass rfl rfl rfl ?_
              refine WL.pick rfl rfl rfl ?_
              refine WL.move rfl rfl ?_
              refine WL.pass rfl rfl rfl ?_
              refine WL.pass rfl rfl rfl ?_
              refine WL.pass rfl rfl rfl ?_
              refine WL.pick rfl rfl rfl ?_
              refine WL.assign rfl rfl ?_
              refine WL.done ?_
              refine W.ret ?_
              refine ⟨_, rfl, Fin.nil ?_⟩
              exact ⟨_, hS.ext, (hS.pick [] rfl).rows, News.of (hS.pick [] rfl).rows rfl, ⟨false, rfl, rfl, hv⟩⟩
          · have hv := hv.2 g57
            rw [decide_eq_false g57]
            refine WL.pass rfl rfl rfl ?_
            refine WL.pass rfl rfl rfl ?_
            refine WL.pass rfl rfl rfl ?_
            refine WL.pick rfl rfl rfl ?_
            refine WL.move rfl rfl ?_
            refine WL.pass rfl rfl rfl ?_
            refine WL.pass rfl rfl rfl ?_
            refine WL.pass rfl rfl rfl ?_
            refine WL.pick rfl rfl rfl ?_
            refine WL.move rfl rfl ?_
            refine WL.pass rfl rfl rfl ?_
            refine WL.pass rfl rfl rfl ?_
            refine WL.pass rfl rfl rfl ?_
            refine WL.pick rfl rfl rfl ?_
            refine WL.assign rfl rfl ?_
            refine WL.done ?_
            refine W.ret ?_
            refine ⟨_, rfl, Fin.nil ?_⟩
            exact ⟨_, hS.ext, (hS.pick [] rfl).rows, News.of (hS.pick [] rfl).rows rfl, ⟨false, rfl, rfl, hv⟩⟩

def V_made (Pf : Int) (Mf : Int) (mf : List Int) (Q : Option GFv → Prop) : Prop :=
  V_New Pf Mf mf (fun q => match q with | (none, r15) => ((r15 = (0 : Int)) → Q none) ∧ (¬ (r15 = (0 : Int)) → Q none) | (some F16, r15) => ((r15 = (0 : Int)) → (V_rCheck Pf Mf mf (fun r25 => (r25 = (0 : Int)) ∧ Q (some F16)))) ∧ (¬ (r15 = (0 : Int)) → Q none))
theorem ok_made {w : World} {Q : Option GFv → Prop} {Pf : Int} {Mf : Int} {mf : List Int} {Bf : Nat} {Af : Option Addr} {nf kf : Nat} (hf : Rd Bf w 1 Af nf kf (is mf)) (hv : V_made Pf Mf mf Q) :
    Calls Try.prog 30 #[.agg #[.int .i64 Pf, .int .i64 Mf, .slice Af nf kf]] w fun e w' => ∃ v Qr, e = .returned v ∧ w.grownBy w' none ∧ Rows w.heap.size none w' Qr ∧ News w.heap.size Qr ∧ ∃ (o : Option GFv), Q o ∧ match o with | none => (∃ pv : Value, v = .tuple #[pv, .bool false]) ∧ Qr = [] | some F => ∃ (ad : Addr) (lo hi : Nat), v = .tuple #[.pointer (some ad), .bool true] ∧ Qr = [.ch lo hi (fun wz => GFX lo hi wz ad F)] := by
  have hnf := hf.ilen
  subst hnf
  refine calls_swap ?_
  refine calls_of_W (vs := [.agg #[.int .i64 Pf, .int .i64 Mf, .slice Af mf.length kf]]) [2, 3] Try.func30 rfl rfl rfl rfl ?_
  have hS := St.start w
  unfold V_made at hv
  refine W.seq ?_
  refine W.region ?_
  refine SL.box (z := 3) (cs := [.int .i64 Pf, .int .i64 Mf, .slice Af mf.length kf]) hS rfl rfl rfl rfl ?_
  intro g11 w12 hS
  refine WL.assign rfl rfl ?_
  refine WL.assign rfl rfl ?_
  refine WL.done ?_
  refine W.seq ?_
  refine W.region ?_
  refine WL.loadV (cs := [.int .i64 Pf, .int .i64 Mf, .slice Af mf.length kf]) Try.el24 Try.agg24 rfl rfl (Own.vcells (hS.own (i := 0) rfl)) rfl ?_
  refine SL.call hS (ok_New (hS.ro hf) hv) Try.func19 rfl Try.nm19 rfl rfl ?_
  rintro _ _ w14 ⟨o, r15, hv, hK⟩ hGw14 hS
  cases o with
  | none =>
    obtain ⟨rfl, rfl⟩ := hK
    change St _ _ _ _ [.row 24 3 (some ⟨g11, 0, none⟩) 1 1 [.int .i64 Pf, .int .i64 Mf, .slice Af mf.length kf]] at hS
    refine WL.move rfl rfl ?_
    refine WL.extract rfl rfl rfl ?_
    refine WL.extract rfl rfl rfl ?_
    refine WL.assign rfl rfl ?_
    refine WL.assign rfl rfl ?_
    refine WL.done ?_
    refine W.seq ?_
    refine W.region ?_
    refine WL.move rfl rfl ?_
    refine WL.move rfl rfl ?_
    refine WL.eqlD rfl rfl rfl ?_
    refine WL.move rfl rfl ?_
    by_cases g22 : r15 = (0 : Int)
    · have hv := hv.1 g22
      rw [decide_eq_true g22]
      refine WL.take rfl ?_
      refine WL.move rfl rfl ?_
      refine WL.take rfl ?_
      refine WL.neqPn Try.underlying28 rfl rfl rfl rfl ?_
      refine WL.pick rfl rfl rfl ?_
      refine WL.move rfl rfl ?_
      refine WL.pass rfl rfl rfl ?_
      refine WL.pass rfl rfl rfl ?_
      refine WL.pass rfl rfl rfl ?_
      refine WL.pick rfl rfl rfl ?_
      refine WL.assign rfl rfl ?_
      refine WL.assign rfl rfl ?_
      refine WL.done ?_
      refine W.ret ?_
      refine ⟨_, rfl, Fin.nil ?_⟩
      exact ⟨_, hS.ext, (hS.pick [] rfl).rows, News.of (hS.pick [] rfl).rows rfl, ⟨none, hv, ⟨_, rfl⟩, rfl⟩⟩
    · have hv := hv.2 g22
      rw [decide_eq_false g22]
      refine WL.pass rfl rfl rfl ?_
      refine WL.pass rfl rfl rfl ?_
      refine WL.pick rfl rfl rfl ?_
      refine WL.move rfl rfl ?_
      refine WL.pass rfl rfl rfl ?_
      refine WL.pass rfl rfl rfl ?_
      refine WL.pass rfl rfl rfl ?_
      refine WL.pick rfl rfl rfl ?_
      refine WL.assign rfl rfl ?_
      refine WL.assign rfl rfl ?_
      refine WL.done ?_
      refine W.ret ?_
      refine ⟨_, rfl, Fin.nil ?_⟩
      exact ⟨_, hS.ext, (hS.pick [] rfl).rows, News.of (hS.pick [] rfl).rows rfl, ⟨none, hv, ⟨_, rfl⟩, rfl⟩⟩
  | some F16 =>
    obtain ⟨ad17, lo18, hi19, rfl, rfl⟩ := hK
    change St _ _ _ _ [.ch lo18 hi19 (fun wz => GFX lo18 hi19 wz ad17 F16), .row 24 3 (some ⟨g11, 0, none⟩) 1 1 [.int .i64 Pf, .int .i64 Mf, .slice Af mf.length kf]] at hS
    refine WL.move rfl rfl ?_
    refine WL.extract rfl rfl rfl ?_
    refine WL.extract rfl rfl rfl ?_
    refine WL.assign rfl rfl ?_
    refine WL.assign rfl rfl ?_
    refine WL.done ?_
    refine W.seq ?_
    refine W.region ?_
    refine WL.move rfl rfl ?_
    refine WL.move rfl rfl ?_
    refine WL.eqlD rfl rfl rfl ?_
    refine WL.move rfl rfl ?_
    by_cases g23 : r15 = (0 : Int)
    · have hv := hv.1 g23
      rw [decide_eq_true g23]
      refine WL.take rfl ?_
      refine WL.move rfl rfl ?_
      refine WL.take rfl ?_
      refine WL.neqPn Try.underlying28 rfl rfl rfl rfl ?_
      refine WL.pick rfl rfl rfl ?_
      refine WL.move rfl rfl ?_
      refine WL.take rfl ?_
      refine WL.loadV (cs := [.int .i64 Pf, .int .i64 Mf, .slice Af mf.length kf]) Try.el24 Try.agg24 rfl rfl (Own.vcells (hS.own (i := 1) rfl)) rfl ?_
      refine WL.take rfl ?_
      refine SL.call hS (ok_rCheck (hS.ro hf) hv) Try.func18 rfl Try.nm18 rfl rfl ?_
      rintro _ _ w24 ⟨r25, rfl, rfl, hv⟩ hGw24 hS
      change St _ _ _ _ [.ch lo18 hi19 (fun wz => GFX lo18 hi19 wz ad17 F16), .row 24 3 (some ⟨g11, 0, none⟩) 1 1 [.int .i64 Pf, .int .i64 Mf, .slice Af mf.length kf]] at hS
      refine WL.take rfl ?_
      refine WL.eqlD rfl rfl rfl ?_
      refine WL.pick rfl rfl rfl ?_
      refine WL.assign rfl rfl ?_
      refine WL.assign rfl rfl ?_
      refine WL.done ?_
      refine W.ret ?_
      rw [decide_eq_true hv.1]
      refine ⟨_, rfl, Fin.nil ?_⟩
      exact ⟨_, hS.ext, (hS.pick [0] rfl).rows, News.of (hS.pick [0] rfl).rows rfl, ⟨some F16, hv.2, _, _, _, rfl, rfl⟩⟩
    · have hv := hv.2 g23
      rw [decide_eq_false g23]
      refine WL.pass rfl rfl rfl ?_
      refine WL.pass rfl rfl rfl ?_
      refine WL.pick rfl rfl rfl ?_
      refine WL.move rfl rfl ?_
      refine WL.pass rfl rfl rfl ?_
      refine WL.pass rfl rfl rfl ?_
      refine WL.pass rfl rfl rfl ?_
      refine WL.pick rfl rfl rfl ?_
      refine WL.assign rfl rfl ?_
      refine WL.assign rfl rfl ?_
      refine WL.done ?_
      refine W.ret ?_
      refine ⟨_, rfl, Fin.nil ?_⟩
      exact ⟨_, hS.ext, (hS.pick [] rfl).rows, News.of (hS.pick [] rfl).rows rfl, ⟨none, hv, ⟨_, rfl⟩, rfl⟩⟩

def V_none (Pf : Int) (Mf : Int) (mf : List Int) (Q : Bool → Prop) : Prop :=
  V_New Pf Mf mf (fun q => match q with | (none, r15) => V_rCheck Pf Mf mf (fun r23 => ((r15 = r23) → (Q (decide (r15 ≠ (0 : Int))))) ∧ (¬ (r15 = r23) → Q false)) | (some F16, r15) => V_rCheck Pf Mf mf (fun r26 => ((r15 = r26) → (Q (decide (r15 ≠ (0 : Int))))) ∧ (¬ (r15 = r26) → Q false)))
theorem ok_none {w : World} {Q : Bool → Prop} {Pf : Int} {Mf : Int} {mf : List Int} {Bf : Nat} {Af : Option Addr} {nf kf : Nat} (hf : Rd Bf w 1 Af nf kf (is mf)) (hv : V_none Pf Mf mf Q) :
    Calls Try.prog 31 #[.agg #[.int .i64 Pf, .int .i64 Mf, .slice Af nf kf]] w fun e w' => ∃ v Qr, e = .returned v ∧ w.grownBy w' none ∧ Rows w.heap.size none w' Qr ∧ News w.heap.size Qr ∧ ∃ (r0 : Bool), v = .bool r0 ∧ Qr = [] ∧ Q r0 := by
  have hnf := hf.ilen
  subst hnf
  refine calls_swap ?_
  refine calls_of_W (vs := [.agg #[.int .i64 Pf, .int .i64 Mf, .slice Af mf.length kf]]) [2] Try.func31 rfl rfl rfl rfl ?_
  have hS := St.start w
  unfold V_none at hv
  refine W.seq ?_
  refine W.region ?_
  refine SL.box (z := 3) (cs := [.int .i64 Pf, .int .i64 Mf, .slice Af mf.length kf]) hS rfl rfl rfl rfl ?_
  intro g11 w12 hS
  refine WL.assign rfl rfl ?_
  refine WL.done ?_
  refine W.seq ?_
  refine W.region ?_
  refine WL.loadV (cs := [.int .i64 Pf, .int .i64 Mf, .slice Af mf.length kf]) Try.el24 Try.agg24 rfl rfl (Own.vcells (hS.own (i := 0) rfl)) rfl ?_
  refine SL.call hS (ok_New (hS.ro hf) hv) Try.func19 rfl Try.nm19 rfl rfl ?_
  rintro _ _ w14 ⟨o, r15, hv, hK⟩ hGw14 hS
  cases o with
  | none =>
    obtain ⟨rfl, rfl⟩ := hK
    change St _ _ _ _ [.row 24 3 (some ⟨g11, 0, none⟩) 1 1 [.int .i64 Pf, .int .i64 Mf, .slice Af mf.length kf]] at hS
    refine WL.move rfl rfl ?_
    refine WL.extract rfl rfl rfl ?_
    refine WL.extract rfl rfl rfl ?_
    refine WL.assign rfl rfl ?_
    refine WL.assign rfl rfl ?_
    refine WL.done ?_
    refine W.seq ?_
    refine W.region ?_
    refine WL.move rfl rfl ?_
    refine WL.loadV (cs := [.int .i64 Pf, .int .i64 Mf, .slice Af mf.length kf]) Try.el24 Try.agg24 rfl rfl (Own.vcells (hS.own (i := 0) rfl)) rfl ?_
    refine SL.call hS (ok_rCheck (hS.ro hf) hv) Try.func18 rfl Try.nm18 rfl rfl ?_
    rintro _ _ w22 ⟨r23, rfl, rfl, hv⟩ hGw22 hS
    change St _ _ _ _ [.row 24 3 (some ⟨g11, 0, none⟩) 1 1 [.int .i64 Pf, .int .i64 Mf, .slice Af mf.length kf]] at hS
    refine WL.eqlD rfl rfl rfl ?_
    refine WL.move rfl rfl ?_
    by_cases g24 : r15 = r23
    · have hv := hv.1 g24
      rw [decide_eq_true g24]
      refine WL.take rfl ?_
      refine WL.move rfl rfl ?_
      refine WL.take rfl ?_
      refine WL.neqD rfl rfl rfl ?_
      refine WL.pick rfl rfl rfl ?_
      refine WL.assign rfl rfl ?_
      refine WL.done ?_
      refine W.ret ?_
      refine ⟨_, rfl, Fin.nil ?_⟩
      exact ⟨_, hS.ext, (hS.pick [] rfl).rows, News.of (hS.pick [] rfl).rows rfl, ⟨(decide (r15 ≠ (0 : Int))), rfl, rfl, hv⟩⟩
    · have hv := hv.2 g24
      rw [decide_eq_false g24]
      refine WL.pass rfl rfl rfl ?_
      refine WL.pass rfl rfl rfl ?_
      refine WL.pick rfl rfl rfl ?_
      refine WL.assign rfl rfl ?_
      refine WL.done ?_
      refine W.ret ?_
      refine ⟨_, rfl, Fin.nil ?_⟩
      exact ⟨_, hS.ext, (hS.pick [] rfl).rows, News.of (hS.pick [] rfl).rows rfl, ⟨false, rfl, rfl, hv⟩⟩
  | some F16 =>
    obtain ⟨ad17, lo18, hi19, rfl, rfl⟩ := hK
    change St _ _ _ _ [.ch lo18 hi19 (fun wz => GFX lo18 hi19 wz ad17 F16), .row 24 3 (some ⟨g11, 0, none⟩) 1 1 [.int .i64 Pf, .int .i64 Mf, .slice Af mf.length kf]] at hS
    refine WL.move rfl rfl ?_
    refine WL.extract rfl rfl rfl ?_
    refine WL.extract rfl rfl rfl ?_
    refine WL.assign rfl rfl ?_
    refine WL.assign rfl rfl ?_
    refine WL.done ?_
    refine W.seq ?_
    refine W.region ?_
    refine WL.move rfl rfl ?_
    refine WL.loadV (cs := [.int .i64 Pf, .int .i64 Mf, .slice Af mf.length kf]) Try.el24 Try.agg24 rfl rfl (Own.vcells (hS.own (i := 1) rfl)) rfl ?_
    refine SL.call hS (ok_rCheck (hS.ro hf) hv) Try.func18 rfl Try.nm18 rfl rfl ?_
    rintro _ _ w25 ⟨r26, rfl, rfl, hv⟩ hGw25 hS
    change St _ _ _ _ [.ch lo18 hi19 (fun wz => GFX lo18 hi19 wz ad17 F16), .row 24 3 (some ⟨g11, 0, none⟩) 1 1 [.int .i64 Pf, .int .i64 Mf, .slice Af mf.length kf]] at hS
    refine WL.eqlD rfl rfl rfl ?_
    refine WL.move rfl rfl ?_
    by_cases g27 : r15 = r26
    · have hv := hv.1 g27
      rw [decide_eq_true g27]
      refine WL.take rfl ?_
      refine WL.move rfl rfl ?_
      refine WL.take rfl ?_
      refine WL.neqD rfl rfl rfl ?_
      refine WL.pick rfl rfl rfl ?_
      refine WL.assign rfl rfl ?_
      refine WL.done ?_
      refine W.ret ?_
      refine ⟨_, rfl, Fin.nil ?_⟩
      exact ⟨_, hS.ext, (hS.pick [] rfl).rows, News.of (hS.pick [] rfl).rows rfl, ⟨(decide (r15 ≠ (0 : Int))), rfl, rfl, hv⟩⟩
    · have hv := hv.2 g27
      rw [decide_eq_false g27]
      refine WL.pass rfl rfl rfl ?_
      refine WL.pass rfl rfl rfl ?_
      refine WL.pick rfl rfl rfl ?_
      refine WL.assign rfl rfl ?_
      refine WL.done ?_
      refine W.ret ?_
      refine ⟨_, rfl, Fin.nil ?_⟩
      exact ⟨_, hS.ext, (hS.pick [] rfl).rows, News.of (hS.pick [] rfl).rows rfl, ⟨false, rfl, rfl, hv⟩⟩

def V_lsame (l : List Int) (o : List Int) (Q : Bool → Prop) : Prop :=
  ((((l.length : Nat) : Int) ≠ ((o.length : Nat) : Int)) → Q false) ∧ (¬ (((l.length : Nat) : Int) ≠ ((o.length : Nat) : Int)) → (∃ (I15 : Int → Prop) (μ16 : Int → Nat), I15 (0 : Int) ∧ ∀ (z14 : Int), (I15 z14 → (((z14 < ((l.length : Nat) : Int)) → ((0 ≤ z14 ∧ z14 < (l.length : Nat)) ∧ ((0 ≤ z14 ∧ z14 < (o.length : Nat)) ∧ ((((gi l z14) ≠ (gi o z14)) → Q false) ∧ (¬ ((gi l z14) ≠ (gi o z14)) → ((I64 (z14 + (1 : Int))) ∧ (I15 (z14 + (1 : Int)) ∧ μ16 (z14 + (1 : Int)) < μ16 z14))))))) ∧ (¬ (z14 < ((l.length : Nat) : Int)) → Q true)))))
theorem ok_lsame {w : World} {Q : Bool → Prop} {l : List Int} {o : List Int} {Bl : Nat} {Al : Option Addr} {nl kl : Nat} (hl : Rd Bl w 1 Al nl kl (is l)) {Bo : Nat} {Ao : Option Addr} {no ko : Nat} (ho : Rd Bo w 1 Ao no ko (is o)) (hv : V_lsame l o Q) :
    Calls Try.prog 51 #[.slice Al nl kl, .slice Ao no ko] w fun e w' => ∃ v Qr, e = .returned v ∧ w.grownBy w' none ∧ Rows w.heap.size none w' Qr ∧ News w.heap.size Qr ∧ ∃ (r0 : Bool), v = .bool r0 ∧ Qr = [] ∧ Q r0 := by
  have hnl := hl.ilen
  subst hnl
  have hno := ho.ilen
  subst hno
  refine calls_swap ?_
  refine calls_of_W (vs := [.slice Al l.length kl, .slice Ao o.length ko]) [4] Try.func51 rfl rfl rfl rfl ?_
  have hS := St.start w
  unfold V_lsame at hv
  refine W.seq ?_
  refine W.region ?_
  refine WL.assign rfl rfl ?_
  refine WL.done ?_
  refine W.seq ?_
  refine W.seq ?_
  refine W.region ?_
  refine WL.move rfl rfl ?_
  refine WL.len Try.underlying22 rfl rfl ?_
  refine WL.move rfl rfl ?_
  refine WL.len Try.underlying22 rfl rfl ?_
  refine WL.neqD rfl rfl rfl ?_
  refine WL.done ?_
  refine W.cond2 rfl (fun c11 => ?_) (fun c11 => ?_)
  · have hv := hv.1 (of_decide_eq_true c11)
    refine W.seq ?_
    refine W.region ?_
    refine WL.assign rfl rfl ?_
    refine WL.done ?_
    refine W.ret ?_
    refine ⟨_, rfl, Fin.nil ?_⟩
    exact ⟨_, hS.ext, (hS.pick [] rfl).rows, News.of (hS.pick [] rfl).rows rfl, ⟨false, rfl, rfl, hv⟩⟩
  · have hv := hv.2 (of_decide_eq_false c11)
    refine W.skip ?_
    refine W.seq ?_
    refine W.seq ?_
    refine W.region ?_
    refine WL.move rfl rfl ?_
    refine WL.len Try.underlying22 rfl rfl ?_
    refine WL.move rfl rfl ?_
    refine WL.done ?_
    refine W.block ?_
    obtain ⟨I15, μ16, hv, hk33⟩ := hv
    change St _ _ _ _ [] at hS
    refine W.loop (σ := Int) (fun z14 w1 => I15 z14 ∧ St TT w none w1 []) (fun z14 => [(0, .slice Al l.length kl), (1, .slice Ao o.length ko), (4, .bool false), (12, .int .i64 ((l.length : Nat) : Int)), (13, .int .i64 z14)]) (fun z14 => μ16 z14) (0 : Int) ⟨hv, hS⟩ ⟨rfl, rfl, rfl, rfl, rfl, trivial⟩ ?_
    rintro z14 w17 ⟨hv, hS⟩
    have hv := hk33 z14 hv
    refine W.seq ?_
    refine W.region ?_
    refine WL.lssD rfl rfl rfl ?_
    refine WL.done ?_
    refine W.seq ?_
    refine W.cond2 rfl (fun c18 => ?_) (fun c18 => ?_)
    · have hv := hv.1 (of_decide_eq_true c18)
      refine W.skip ?_
      refine W.seq ?_
      refine W.block ?_
      refine W.seq ?_
      refine W.region ?_
      refine WL.move rfl rfl ?_
      refine WL.assign rfl rfl ?_
      refine WL.done ?_
      refine W.seq ?_
      obtain ⟨o22, hv⟩ := hv
      obtain ⟨o27, hv⟩ := hv
      have hS0 := hS
      refine W.drawX 9 (fun _ => false) (fun _ => none) [⟨[], [0], true⟩, ⟨[], [5], true⟩, ⟨[0, 1], [], true⟩, ⟨[2], [], false⟩, ⟨[], [1], true⟩, ⟨[], [5], true⟩, ⟨[4, 5], [], true⟩, ⟨[6], [], false⟩, ⟨[3, 7], [], true⟩] [[(0, .slice Al l.length kl)], [(5, .int .i64 z14)], [], [], [(1, .slice Ao o.length ko)], [(5, .int .i64 z14)], [], [], []] (fun iQ => [fun v _ => v = .slice Al l.length kl, fun v _ => v = .int .i64 z14, fun v _ => v = .pointer (some ((adOf Al).add z14.toNat)), fun v _ => v = .int .i64 (gi l z14), fun v _ => v = .slice Ao o.length ko, fun v _ => v = .int .i64 z14, fun v _ => v = .pointer (some ((adOf Ao).add z14.toNat)), fun v _ => v = .int .i64 (gi o z14), fun v _ => v = .bool (decide ((gi l z14) ≠ (gi o z14)))].getD iQ (fun _ _ => True)) Try.mixed (by kernel_rfl) ?_ (by kernel_rfl) ?_ ?_
      · refine Vs_monoT _ ?_
        intro VQ hVQ vQ wQ1 wQ2 hQ1 hQ2
        simp only [List.mem_cons, List.not_mem_nil, or_false] at hVQ
        rcases hVQ with rfl | rfl | rfl | rfl | rfl | rfl | rfl | rfl | rfl
        · exact hQ1
        · exact hQ1
        · exact hQ1
        · exact hQ1
        · exact hQ1
        · exact hQ1
        · exact hQ1
        · exact hQ1
        · exact hQ1
      · refine ⟨⟨rfl, ⟨rfl, trivial⟩, ?_⟩, ⟨rfl, ⟨rfl, trivial⟩, ?_⟩, ⟨rfl, trivial, ?_⟩, ⟨rfl, trivial, ?_⟩, ⟨rfl, ⟨rfl, trivial⟩, ?_⟩, ⟨rfl, ⟨rfl, trivial⟩, ?_⟩, ⟨rfl, trivial, ?_⟩, ⟨rfl, trivial, ?_⟩, ⟨rfl, trivial, ?_⟩, trivial⟩
        · intro w19 hE
          intro RR
          refine WL.move rfl rfl ?_
          exact WL.done ⟨_, rfl, rfl, rfl, (fun h => absurd h (by decide)), (fun j h => by cases h)⟩
        · intro w20 hE
          intro RR
          refine WL.move rfl rfl ?_
          exact WL.done ⟨_, rfl, rfl, rfl, (fun h => absurd h (by decide)), (fun j h => by cases h)⟩
        · intro w21 hE
          rintro _ rfl
          rintro _ rfl
          intro RR
          refine SL.index Try.underlying22 Try.el3 (hS.ro hl) rfl rfl o22 rfl ?_
          exact WL.done ⟨_, rfl, rfl, rfl, (fun h => absurd h (by decide)), (fun j h => by cases h)⟩
        · intro w23 hE
          have hE := hE rfl
          have hS := hS.grow hE
          rintro _ rfl
          intro RR
          refine WL.load Try.underlying3 rfl rfl (Rd.gi (hS.ro hl) o22) rfl ?_
          exact WL.done ⟨_, rfl, ext_refl _, rfl, (fun h => absurd h (by decide)), (fun j h => by cases h)⟩
        · intro w24 hE
          intro RR
          refine WL.move rfl rfl ?_
          exact WL.done ⟨_, rfl, rfl, rfl, (fun h => absurd h (by decide)), (fun j h => by cases h)⟩
        · intro w25 hE
          intro RR
          refine WL.move rfl rfl ?_
          exact WL.done ⟨_, rfl, rfl, rfl, (fun h => absurd h (by decide)), (fun j h => by cases h)⟩
        · intro w26 hE
          rintro _ rfl
          rintro _ rfl
          intro RR
          refine SL.index Try.underlying22 Try.el3 (hS.ro ho) rfl rfl o27 rfl ?_
          exact WL.done ⟨_, rfl, rfl, rfl, (fun h => absurd h (by decide)), (fun j h => by cases h)⟩
        · intro w28 hE
          have hE := hE rfl
          have hS := hS.grow hE
          rintro _ rfl
          intro RR
          refine WL.load Try.underlying3 rfl rfl (Rd.gi (hS.ro ho) o27) rfl ?_
          exact WL.done ⟨_, rfl, ext_refl _, rfl, (fun h => absurd h (by decide)), (fun j h => by cases h)⟩
        · intro w29 hE
          rintro _ rfl
          rintro _ rfl
          intro RR
          refine WL.neqD rfl rfl rfl ?_
          exact WL.done ⟨_, rfl, rfl, rfl, (fun h => absurd h (by decide)), (fun j h => by cases h)⟩
      · intro vals w30 hT hVs hAp hCp
        have hS := hS.grow hT
        have hv0 : vals 0 = _ := hVs 0 (by decide)
        have hv1 : vals 1 = _ := hVs 1 (by decide)
        have hv2 : vals 2 = _ := hVs 2 (by decide)
        have hv3 : vals 3 = _ := hVs 3 (by decide)
        have hv4 : vals 4 = _ := hVs 4 (by decide)
        have hv5 : vals 5 = _ := hVs 5 (by decide)
        have hv6 : vals 6 = _ := hVs 6 (by decide)
        have hv7 : vals 7 = _ := hVs 7 (by decide)
        have hv8 : vals 8 = _ := hVs 8 (by decide)
        rw [show (List.filterMap (fun i => Option.map (fun t => (t, vals i)) (dstAt _ i)) (List.range _)) = [(16, .slice Al l.length kl), (17, .int .i64 z14), (18, .pointer (some ((adOf Al).add z14.toNat))), (19, .int .i64 (gi l z14)), (20, .slice Ao o.length ko), (21, .int .i64 z14), (22, .pointer (some ((adOf Ao).add z14.toNat))), (23, .int .i64 (gi o z14)), (24, .bool (decide ((gi l z14) ≠ (gi o z14))))] from by
          show [(16, vals 0), (17, vals 1), (18, vals 2), (19, vals 3), (20, vals 4), (21, vals 5), (22, vals 6), (23, vals 7), (24, vals 8)] = _
          rw [hv0, hv1, hv2, hv3, hv4, hv5, hv6, hv7, hv8]]
        refine WA.done (by decide +kernel) ?_
        refine W.cond2 rfl (fun c31 => ?_) (fun c31 => ?_)
        · have hv := hv.1 (of_decide_eq_true c31)
          refine W.seq ?_
          refine W.region ?_
          refine WL.assign rfl rfl ?_
          refine WL.done ?_
          refine W.ret ?_
          refine ⟨_, rfl, Fin.nil ?_⟩
          exact ⟨_, hS.ext, (hS.pick [] rfl).rows, News.of (hS.pick [] rfl).rows rfl, ⟨false, rfl, rfl, hv⟩⟩
        · have hv := hv.2 (of_decide_eq_false c31)
          refine W.skip ?_
          refine W.region ?_
          obtain ⟨o32, hv⟩ := hv
          refine WL.add (r := (z14 + (1 : Int))) rfl rfl (wr o32) rfl ?_
          refine WL.move rfl rfl ?_
          refine WL.done ?_
          change St _ _ _ _ [] at hS
          exact ⟨(z14 + (1 : Int)), ⟨rfl, rfl, rfl, rfl, rfl, trivial⟩, hv.2, rfl, hv.1, hS⟩
    · have hv := hv.2 (of_decide_eq_false c18)
      refine W.exit ?_
      refine W.seq ?_
      refine W.region ?_
      refine WL.assign rfl rfl ?_
      refine WL.done ?_
      refine W.ret ?_
      refine ⟨_, rfl, Fin.nil ?_⟩
      exact ⟨_, hS.ext, (hS.pick [] rfl).rows, News.of (hS.pick [] rfl).rows rfl, ⟨true, rfl, rfl, hv⟩⟩

def V_coprime (n : Int) (Q : Int → Prop) : Prop :=
  ∃ (I17 : Int → Int → Prop) (μ18 : Int → Int → Nat), I17 (0 : Int) (1 : Int) ∧ ∀ (z15 : Int) (z16 : Int), (I17 z15 z16 → (((z16 ≤ n) → (∃ J26 : Int → Int → Int → Bool → Bool → Prop, (∃ (I33 : Int → Int → Prop) (μ34 : Int → Int → Nat), I33 z16 n ∧ ∀ (z31 : Int) (z32 : Int), (I33 z31 z32 → (((z32 ≠ (0 : Int)) → ((z32 ≠ 0) ∧ (I33 z32 (z31.tmod z32) ∧ μ34 z32 (z31.tmod z32) < μ34 z31 z32))) ∧ (¬ (z32 ≠ (0 : Int)) → (((z31 = (1 : Int)) → ((I64 (z15 + (1 : Int))) ∧ (J26 (z15 + (1 : Int)) z31 z32 (decide (z32 ≠ (0 : Int))) (decide (z31 = (1 : Int)))))) ∧ (¬ (z31 = (1 : Int)) → (J26 z15 z31 z32 (decide (z32 ≠ (0 : Int))) (decide (z31 = (1 : Int)))))))))) ∧ ∀ (z21 : Int) (z22 : Int) (z23 : Int) (b24 : Bool) (b25 : Bool), (J26 z21 z22 z23 b24 b25 → ((I64 (z16 + (1 : Int))) ∧ (I17 z21 (z16 + (1 : Int)) ∧ μ18 z21 (z16 + (1 : Int)) < μ18 z15 z16))))) ∧ (¬ (z16 ≤ n) → Q z15)))
theorem ok_coprime {w : World} {Q : Int → Prop} {n : Int}  (hv : V_coprime n Q) :
    Calls Try.prog 56 #[.int .i64 n] w fun e w' => ∃ v Qr, e = .returned v ∧ w.grownBy w' none ∧ Rows w.heap.size none w' Qr ∧ News w.heap.size Qr ∧ ∃ (r0 : Int), v = .int .i64 r0 ∧ Qr = [] ∧ Q r0 := by
  refine calls_swap ?_
  refine calls_of_W (vs := [.int .i64 n]) [2] Try.func56 rfl rfl rfl rfl ?_
  have hS := St.start w
  unfold V_coprime at hv
  refine W.seq ?_
  refine W.region ?_
  refine WL.assign rfl rfl ?_
  refine WL.done ?_
  refine W.seq ?_
  refine W.region ?_
  refine WL.assign rfl rfl ?_
  refine WL.done ?_
  refine W.seq ?_
  refine W.seq ?_
  refine W.region ?_
  refine WL.assign rfl rfl ?_
  refine WL.done ?_
  refine W.block ?_
  obtain ⟨I17, μ18, hv, hk51⟩ := hv
  change St _ _ _ _ [] at hS
  refine W.loop (σ := Int × Int) (fun q w1 => match q with | (z15, z16) => I17 z15 z16 ∧ St TT w none w1 []) (fun q => match q with | (z15, z16) => [(0, .int .i64 n), (2, .int .i64 (0 : Int)), (3, .int .i64 z15), (4, .int .i64 z16)]) (fun q => match q with | (z15, z16) => μ18 z15 z16) ((0 : Int), (1 : Int)) ⟨hv, hS⟩ ⟨rfl, rfl, rfl, rfl, trivial⟩ ?_
  rintro ⟨z15, z16⟩ w19 ⟨hv, hS⟩
  have hv := hk51 z15 z16 hv
  refine W.seq ?_
  refine W.seq ?_
  refine W.region ?_
  refine WL.move rfl rfl ?_
  refine WL.move rfl rfl ?_
  refine WL.leqD rfl rfl rfl ?_
  refine WL.done ?_
  refine W.cond2 rfl (fun c20 => ?_) (fun c20 => ?_)
  · have hv := hv.1 (of_decide_eq_true c20)
    refine W.skip ?_
    refine W.seq ?_
    obtain ⟨J26, hv, hk50⟩ := hv
    refine W.cutN (σ := Int × Int × Int × Bool × Bool) (fun q w1 => match q with | (z21, z22, z23, b24, b25) => J26 z21 z22 z23 b24 b25 ∧ St TT w none w1 []) (fun q => match q with | (z21, z22, z23, b24, b25) => [(0, .int .i64 n), (2, .int .i64 (0 : Int)), (3, .int .i64 z21), (4, .int .i64 z16), (5, .int .i64 z22), (6, .int .i64 z23), (9, .bool (decide (z16 ≤ n))), (15, .bool b24), (21, .bool b25)]) ?_ ?_
    · refine W.block ?_
      refine W.seq ?_
      refine W.region ?_
      refine WL.move rfl rfl ?_
      refine WL.move rfl rfl ?_
      refine WL.assign rfl rfl ?_
      refine WL.assign rfl rfl ?_
      refine WL.done ?_
      refine W.seq ?_
      refine W.block ?_
      obtain ⟨I33, μ34, hv, hk47⟩ := hv
      change St _ _ _ _ [] at hS
      refine W.loop (σ := Int × Int) (fun q w1 => match q with | (z31, z32) => I33 z31 z32 ∧ St TT w none w1 []) (fun q => match q with | (z31, z32) => [(0, .int .i64 n), (2, .int .i64 (0 : Int)), (3, .int .i64 z15), (4, .int .i64 z16), (5, .int .i64 z31), (6, .int .i64 z32), (9, .bool (decide (z16 ≤ n)))]) (fun q => match q with | (z31, z32) => μ34 z31 z32) (z16, n) ⟨hv, hS⟩ ⟨rfl, rfl, rfl, rfl, rfl, rfl, rfl, trivial⟩ ?_
      rintro ⟨z31, z32⟩ w35 ⟨hv, hS⟩
      have hv := hk47 z31 z32 hv
      refine W.seq ?_
      refine W.seq ?_
      refine W.region ?_
      refine WL.move rfl rfl ?_
      refine WL.neqD rfl rfl rfl ?_
      refine WL.done ?_
      refine W.cond2 rfl (fun c36 => ?_) (fun c36 => ?_)
      · have hv := hv.1 (of_decide_eq_true c36)
        refine W.skip ?_
        refine W.block ?_
        obtain ⟨o41, hv⟩ := hv
        have hS0 := hS
        refine W.drawX 6 (fun _ => false) (fun _ => none) [⟨[], [6], true⟩, ⟨[], [5], true⟩, ⟨[], [6], true⟩, ⟨[1, 2], [], true⟩, ⟨[0], [], true⟩, ⟨[3], [], true⟩] [[(6, .int .i64 z32)], [(5, .int .i64 z31)], [(6, .int .i64 z32)], [], [], []] (fun iQ => [fun v _ => v = .int .i64 z32, fun v _ => v = .int .i64 z31, fun v _ => v = .int .i64 z32, fun v _ => v = .int .i64 (z31.tmod z32), fun v _ => v = .int .i64 z32, fun v _ => v = .int .i64 (z31.tmod z32)].getD iQ (fun _ _ => True)) Try.mixed (by kernel_rfl) ?_ (by kernel_rfl) ?_ ?_
        · refine Vs_monoT _ ?_
          intro VQ hVQ vQ wQ1 wQ2 hQ1 hQ2
          simp only [List.mem_cons, List.not_mem_nil, or_false] at hVQ
          rcases hVQ with rfl | rfl | rfl | rfl | rfl | rfl
          · exact hQ1
          · exact hQ1
          · exact hQ1
          · exact hQ1
          · exact hQ1
          · exact hQ1
        · refine ⟨⟨rfl, ⟨rfl, trivial⟩, ?_⟩, ⟨rfl, ⟨rfl, trivial⟩, ?_⟩, ⟨rfl, ⟨rfl, trivial⟩, ?_⟩, ⟨rfl, trivial, ?_⟩, ⟨rfl, trivial, ?_⟩, ⟨rfl, trivial, ?_⟩, trivial⟩
          · intro w37 hE
            intro RR
            refine WL.move rfl rfl ?_
            exact WL.done ⟨_, rfl, rfl, rfl, (fun h => absurd h (by decide)), (fun j h => by cases h)⟩
          · intro w38 hE
            intro RR
            refine WL.move rfl rfl ?_
            exact WL.done ⟨_, rfl, rfl, rfl, (fun h => absurd h (by decide)), (fun j h => by cases h)⟩
          · intro w39 hE
            intro RR
            refine WL.move rfl rfl ?_
            exact WL.done ⟨_, rfl, rfl, rfl, (fun h => absurd h (by decide)), (fun j h => by cases h)⟩
          · intro w40 hE
            rintro _ rfl
            rintro _ rfl
            intro RR
            refine WL.rem (r := (z31.tmod z32)) rfl rfl o41 rfl rfl ?_
            exact WL.done ⟨_, rfl, rfl, rfl, (fun h => absurd h (by decide)), (fun j h => by cases h)⟩
          · intro w42 hE
            rintro _ rfl
            intro RR
            refine WL.assign rfl rfl ?_
            exact WL.done ⟨_, rfl, rfl, rfl, (fun h => absurd h (by decide)), (fun j h => by cases h)⟩
          · intro w43 hE
            rintro _ rfl
            intro RR
            refine WL.assign rfl rfl ?_
            exact WL.done ⟨_, rfl, rfl, rfl, (fun h => absurd h (by decide)), (fun j h => by cases h)⟩
        · intro vals w44 hT hVs hAp hCp
          have hS := hS.grow hT
          have hv0 : vals 0 = _ := hVs 0 (by decide)
          have hv1 : vals 1 = _ := hVs 1 (by decide)
          have hv2 : vals 2 = _ := hVs 2 (by decide)
          have hv3 : vals 3 = _ := hVs 3 (by decide)
          have hv4 : vals 4 = _ := hVs 4 (by decide)
          have hv5 : vals 5 = _ := hVs 5 (by decide)
          rw [show (List.filterMap (fun i => Option.map (fun t => (t, vals i)) (dstAt _ i)) (List.range _)) = [(16, .int .i64 z32), (17, .int .i64 z31), (18, .int .i64 z32), (19, .int .i64 (z31.tmod z32)), (5, .int .i64 z32), (6, .int .i64 (z31.tmod z32))] from by
            show [(16, vals 0), (17, vals 1), (18, vals 2), (19, vals 3), (5, vals 4), (6, vals 5)] = _
            rw [hv0, hv1, hv2, hv3, hv4, hv5]]
          refine WA.done (by decide +kernel) ?_
          change St _ _ _ _ [] at hS
          exact ⟨(z32, (z31.tmod z32)), ⟨rfl, rfl, rfl, rfl, rfl, rfl, rfl, trivial⟩, hv.2, rfl, hv.1, hS⟩
      · have hv := hv.2 (of_decide_eq_false c36)
        refine W.exit ?_
        refine W.seq ?_
        refine W.region ?_
        refine WL.move rfl rfl ?_
        refine WL.eqlD rfl rfl rfl ?_
        refine WL.done ?_
        refine W.cond2 rfl (fun c45 => ?_) (fun c45 => ?_)
        · have hv := hv.1 (of_decide_eq_true c45)
          refine W.region ?_
          refine WL.move rfl rfl ?_
          obtain ⟨o46, hv⟩ := hv
          refine WL.add (r := (z15 + (1 : Int))) rfl rfl (wr o46) rfl ?_
          refine WL.assign rfl rfl ?_
          refine WL.done ?_
          change St _ _ _ _ [] at hS
          exact ⟨((z15 + (1 : Int)), z31, z32, (decide (z32 ≠ (0 : Int))), (decide (z31 = (1 : Int)))), ⟨rfl, rfl, rfl, rfl, rfl, rfl, rfl, rfl, rfl, trivial⟩, rfl, hv, hS⟩
        · have hv := hv.2 (of_decide_eq_false c45)
          refine W.skip ?_
          change St _ _ _ _ [] at hS
          exact ⟨(z15, z31, z32, (decide (z32 ≠ (0 : Int))), (decide (z31 = (1 : Int)))), ⟨rfl, rfl, rfl, rfl, rfl, rfl, rfl, rfl, rfl, trivial⟩, rfl, hv, hS⟩
    · rintro ⟨z21, z22, z23, b24, b25⟩ w48 ⟨hv, hS⟩
      have hv := hk50 z21 z22 z23 b24 b25 hv
      refine W.region ?_
      refine WL.move rfl rfl ?_
      obtain ⟨o49, hv⟩ := hv
      refine WL.add (r := (z16 + (1 : Int))) rfl rfl (wr o49) rfl ?_
      refine WL.assign rfl rfl ?_
      refine WL.done ?_
      change St _ _ _ _ [] at hS
      exact ⟨(z21, (z16 + (1 : Int))), ⟨rfl, rfl, rfl, rfl, trivial⟩, hv.2, rfl, hv.1, hS⟩
  · have hv := hv.2 (of_decide_eq_false c20)
    refine W.exit ?_
    refine W.seq ?_
    refine W.region ?_
    refine WL.move rfl rfl ?_
    refine WL.assign rfl rfl ?_
    refine WL.done ?_
    refine W.ret ?_
    refine ⟨_, rfl, Fin.nil ?_⟩
    exact ⟨_, hS.ext, (hS.pick [] rfl).rows, News.of (hS.pick [] rfl).rows rfl, ⟨z15, rfl, rfl, hv⟩⟩
end Go.Proofs.Ytinibbfpdbddpaa
