/- Contracts of functions of the program, and what they lean on: D6, D7, D8, D9. -/
import Derived.Test.YtlibahphimfmjaaDlogPrimitiveG4
set_option linter.unusedSimpArgs false
set_option linter.unusedVariables false
namespace Go.Proofs.Ytlibahphimfmjaa
open Go.RowKit
def V_rdivides (l : List Int) (o : List Int) (p : Int) (Q : Bool → Prop) : Prop :=
  (((0 : Nat) + (o.length : Nat) : Int) * 8 ≤ 140737488355328) ∧ (((((([] : List Int) ++ o).length : Nat) + (1 : Nat) : Int) * 8 ≤ 140737488355328) ∧ ((I64 (((((([] : List Int) ++ o) ++ ([(1 : Int)] : List Int)).length : Nat) : Int) - (1 : Int))) ∧ (∃ (I32 : List Int → Int → Prop) (μ33 : List Int → Int → Nat), I32 ((([] : List Int) ++ o) ++ ([(1 : Int)] : List Int)) (((((([] : List Int) ++ o) ++ ([(1 : Int)] : List Int)).length : Nat) : Int) - (1 : Int)) ∧ ∀ (x30 : List Int) (z31 : Int), (I32 x30 z31 → (((((l.length : Nat) : Int) ≤ z31) → ((0 ≤ z31 ∧ z31 < (((([] : List Int) ++ o) ++ ([(1 : Int)] : List Int)).length : Nat)) ∧ (∃ (I43 : List Int → Int → Prop) (μ44 : List Int → Int → Nat), I43 x30 (0 : Int) ∧ ∀ (x41 : List Int) (z42 : Int), (I43 x41 z42 → (((z42 < ((l.length : Nat) : Int)) → ((I64 (z31 - ((l.length : Nat) : Int))) ∧ ((I64 ((z31 - ((l.length : Nat) : Int)) + z42)) ∧ ((I64 (z31 - ((l.length : Nat) : Int))) ∧ ((I64 ((z31 - ((l.length : Nat) : Int)) + z42)) ∧ ((0 ≤ ((z31 - ((l.length : Nat) : Int)) + z42) ∧ ((z31 - ((l.length : Nat) : Int)) + z42) < (((([] : List Int) ++ o) ++ ([(1 : Int)] : List Int)).length : Nat)) ∧ ((I64 (p - (gi x30 z31))) ∧ ((0 ≤ z42 ∧ z42 < (l.length : Nat)) ∧ ((I64 ((p - (gi x30 z31)) * (gi l z42))) ∧ ((I64 ((gi x41 ((z31 - ((l.length : Nat) : Int)) + z42)) + ((p - (gi x30 z31)) * (gi l z42)))) ∧ ((p ≠ 0) ∧ ((0 ≤ ((z31 - ((l.length : Nat) : Int)) + z42) ∧ ((z31 - ((l.length : Nat) : Int)) + z42) < (((([] : List Int) ++ o) ++ ([(1 : Int)] : List Int)).length : Nat)) ∧ ((I64 (z42 + (1 : Int))) ∧ (I43 (si x41 ((z31 - ((l.length : Nat) : Int)) + z42) (((gi x41 ((z31 - ((l.length : Nat) : Int)) + z42)) + ((p - (gi x30 z31)) * (gi l z42))).tmod p)) (z42 + (1 : Int)) ∧ μ44 (si x41 ((z31 - ((l.length : Nat) : Int)) + z42) (((gi x41 ((z31 - ((l.length : Nat) : Int)) + z42)) + ((p - (gi x30 z31)) * (gi l z42))).tmod p)) (z42 + (1 : Int)) < μ44 x41 z42)))))))))))))) ∧ (¬ (z42 < ((l.length : Nat) : Int)) → ((0 ≤ z31 ∧ z31 < (((([] : List Int) ++ o) ++ ([(1 : Int)] : List Int)).length : Nat)) ∧ ((I64 (z31 - (1 : Int))) ∧ (I32 (si x41 z31 (0 : Int)) (z31 - (1 : Int)) ∧ μ33 (si x41 z31 (0 : Int)) (z31 - (1 : Int)) < μ33 x30 z31))))))))) ∧ (¬ (((l.length : Nat) : Int) ≤ z31) → (∃ (I93 : Int → Prop) (μ94 : Int → Nat), I93 (0 : Int) ∧ ∀ (z92 : Int), (I93 z92 → (((z92 < ((((([] : List Int) ++ o) ++ ([(1 : Int)] : List Int)).length : Nat) : Int)) → ((0 ≤ z92 ∧ z92 < (((([] : List Int) ++ o) ++ ([(1 : Int)] : List Int)).length : Nat)) ∧ ((((gi x30 z92) ≠ (0 : Int)) → Q false) ∧ (¬ ((gi x30 z92) ≠ (0 : Int)) → ((I64 (z92 + (1 : Int))) ∧ (I93 (z92 + (1 : Int)) ∧ μ94 (z92 + (1 : Int)) < μ94 z92)))))) ∧ (¬ (z92 < ((((([] : List Int) ++ o) ++ ([(1 : Int)] : List Int)).length : Nat) : Int)) → Q true))))))))))
theorem ok_rdivides {w : World} {Q : Bool → Prop} {l : List Int} {o : List Int} {p : Int} {Bl : Nat} {Al : Option Addr} {nl kl : Nat} (hl : Rd Bl w 1 Al nl kl (is l)) {Bo : Nat} {Ao : Option Addr} {no ko : Nat} (ho : Rd Bo w 1 Ao no ko (is o)) (hv : V_rdivides l o p Q) :
    Calls Try.prog 78 #[.slice Al nl kl, .slice Ao no ko, .int .i64 p] w fun e w' => ∃ v Qr, e = .returned v ∧ w.grownBy w' none ∧ Rows w.heap.size none w' Qr ∧ News w.heap.size Qr ∧ ∃ (r0 : Bool), v = .bool r0 ∧ Qr = [] ∧ Q r0 := by
  have hnl := hl.ilen
  subst hnl
  have hno := ho.ilen
  subst hno
  refine calls_swap ?_
  refine calls_of_W (vs := [.slice Al l.length kl, .slice Ao o.length ko, .int .i64 p]) [6] Try.func78 rfl rfl rfl rfl ?_
  have hS := St.start w
  unfold V_rdivides at hv
  refine W.seq ?_
  refine W.region ?_
  refine WL.assign rfl rfl ?_
  refine WL.done ?_
  refine W.seq ?_
  refine W.region ?_
  refine WL.move rfl rfl ?_
  refine WL.len Try.underlying22 rfl rfl ?_
  refine WL.assign rfl rfl ?_
  refine WL.done ?_
  refine W.seq ?_
  refine W.region ?_
  refine SL.lit1 (vs := is ([] : List Int)) hS Try.underlying22 Try.el3 rfl rfl rfl rfl (is_one _) rfl ?_
  intro A11 w12 hS
  refine WL.move rfl rfl ?_
  obtain ⟨o14, hv⟩ := hv
  refine SL.append (cs := is ([] : List Int)) (cs' := is o) 0 ((([] : List Int) ++ o).length) (is (([] : List Int) ++ o)) hS rfl Try.underlying22 Try.el3 (hS.ro ho) (is_one _) rfl rfl (apk o14).1 (apk o14).2 (is_ap (hS.rd (i := 0) rfl) (hS.ro ho)) (is_append _ _) rfl ?_
  intro A15 k16 w17 hS
  refine WL.assign rfl rfl ?_
  refine WL.done ?_
  refine W.seq ?_
  refine W.region ?_
  refine WL.move rfl rfl ?_
  refine SL.lit1 (vs := is ([(1 : Int)] : List Int)) hS Try.underlying22 Try.el3 rfl rfl rfl rfl (is_one _) rfl ?_
  intro A18 w19 hS
  obtain ⟨o21, hv⟩ := hv
  refine SL.append (cs := is (([] : List Int) ++ o)) (cs' := is ([(1 : Int)] : List Int)) 1 (((([] : List Int) ++ o) ++ ([(1 : Int)] : List Int)).length) (is ((([] : List Int) ++ o) ++ ([(1 : Int)] : List Int))) hS rfl Try.underlying22 Try.el3 (hS.rd (i := 0) rfl) (is_one _) rfl rfl (apk o21).1 (apk o21).2 (is_ap (hS.rd (i := 1) rfl) (hS.rd (i := 0) rfl)) (is_append _ _) rfl ?_
  intro A22 k23 w24 hS
  refine WL.assign rfl rfl ?_
  refine WL.done ?_
  refine W.seq ?_
  refine W.seq ?_
  refine W.region ?_
  refine WL.move rfl rfl ?_
  refine WL.len Try.underlying22 rfl rfl ?_
  obtain ⟨o25, hv⟩ := hv
  refine WL.sub (r := (((((([] : List Int) ++ o) ++ ([(1 : Int)] : List Int)).length : Nat) : Int) - (1 : Int))) rfl rfl (wr o25) rfl ?_
  refine WL.assign rfl rfl ?_
  refine WL.done ?_
  refine W.block ?_
  obtain ⟨I32, μ33, hv, hk101⟩ := hv
  change St _ _ _ _ [.row 3 1 A18 1 1 (is ([(1 : Int)] : List Int)), .row 3 1 A22 (((([] : List Int) ++ o) ++ ([(1 : Int)] : List Int)).length) k23 (is ((([] : List Int) ++ o) ++ ([(1 : Int)] : List Int)))] at hS
  refine W.loop (σ := List Int × Int) (fun q w1 => match q with | (x30, z31) => I32 x30 z31 ∧ St TT w none w1 [.row 3 1 A18 1 1 (is ([(1 : Int)] : List Int)), .row 3 1 A22 (((([] : List Int) ++ o) ++ ([(1 : Int)] : List Int)).length) k23 (is x30)]) (fun q => match q with | (x30, z31) => [(0, .slice Al l.length kl), (2, .int .i64 p), (6, .bool false), (7, .int .i64 ((l.length : Nat) : Int)), (8, .slice A22 (((([] : List Int) ++ o) ++ ([(1 : Int)] : List Int)).length) k23), (9, .int .i64 z31)]) (fun q => match q with | (x30, z31) => μ33 x30 z31) ((([] : List Int) ++ o) ++ ([(1 : Int)] : List Int), (((((([] : List Int) ++ o) ++ ([(1 : Int)] : List Int)).length : Nat) : Int) - (1 : Int))) ⟨hv, hS⟩ ⟨rfl, rfl, rfl, rfl, rfl, rfl, trivial⟩ ?_
  rintro ⟨x30, z31⟩ w34 ⟨hv, hS⟩
  have hv := hk101 x30 z31 hv
  refine W.seq ?_
  refine W.seq ?_
  refine W.region ?_
  refine WL.move rfl rfl ?_
  refine WL.move rfl rfl ?_
  refine WL.geqD rfl rfl rfl ?_
  refine WL.done ?_
  refine W.cond2 rfl (fun c35 => ?_) (fun c35 => ?_)
  · have hv := hv.1 (of_decide_eq_true c35)
    refine W.skip ?_
    refine W.seq ?_
    refine W.block ?_
    refine W.seq ?_
    refine W.region ?_
    refine WL.move rfl rfl ?_
    refine WL.move rfl rfl ?_
    obtain ⟨o36, hv⟩ := hv
    refine SL.index Try.underlying22 Try.el3 (hS.rd (i := 1) rfl) rfl rfl o36 rfl ?_
    refine WL.load Try.underlying3 rfl rfl (Rd.gi (hS.rd (i := 1) rfl) o36) rfl ?_
    refine WL.assign rfl rfl ?_
    refine WL.done ?_
    refine W.seq ?_
    refine W.seq ?_
    refine W.region ?_
    refine WL.assign rfl rfl ?_
    refine WL.done ?_
    refine W.block ?_
    obtain ⟨I43, μ44, hv, hk89⟩ := hv
    change St _ _ _ _ [.row 3 1 A18 1 1 (is ([(1 : Int)] : List Int)), .row 3 1 A22 (((([] : List Int) ++ o) ++ ([(1 : Int)] : List Int)).length) k23 (is x30)] at hS
    refine W.loop (σ := List Int × Int) (fun q w1 => match q with | (x41, z42) => I43 x41 z42 ∧ St TT w none w1 [.row 3 1 A18 1 1 (is ([(1 : Int)] : List Int)), .row 3 1 A22 (((([] : List Int) ++ o) ++ ([(1 : Int)] : List Int)).length) k23 (is x41)]) (fun q => match q with | (x41, z42) => [(0, .slice Al l.length kl), (2, .int .i64 p), (6, .bool false), (7, .int .i64 ((l.length : Nat) : Int)), (8, .slice A22 (((([] : List Int) ++ o) ++ ([(1 : Int)] : List Int)).length) k23), (9, .int .i64 z31), (10, .int .i64 (gi x30 z31)), (11, .int .i64 z42), (26, .bool (decide (((l.length : Nat) : Int) ≤ z31)))]) (fun q => match q with | (x41, z42) => μ44 x41 z42) (x30, (0 : Int)) ⟨hv, hS⟩ ⟨rfl, rfl, rfl, rfl, rfl, rfl, rfl, rfl, rfl, trivial⟩ ?_
    rintro ⟨x41, z42⟩ w45 ⟨hv, hS⟩
    have hv := hk89 x41 z42 hv
    refine W.seq ?_
    refine W.seq ?_
    refine W.region ?_
    refine WL.move rfl rfl ?_
    refine WL.move rfl rfl ?_
    refine WL.lssD rfl rfl rfl ?_
    refine WL.done ?_
    refine W.cond2 rfl (fun c46 => ?_) (fun c46 => ?_)
    · have hv := hv.1 (of_decide_eq_true c46)
      refine W.skip ?_
      refine W.seq ?_
      refine W.block ?_
      obtain ⟨o51, hv⟩ := hv
      obtain ⟨o54, hv⟩ := hv
      obtain ⟨o59, hv⟩ := hv
      obtain ⟨o62, hv⟩ := hv
      obtain ⟨o64, hv⟩ := hv
      obtain ⟨o69, hv⟩ := hv
      obtain ⟨o73, hv⟩ := hv
      obtain ⟨o76, hv⟩ := hv
      obtain ⟨o78, hv⟩ := hv
      obtain ⟨o81, hv⟩ := hv
      have hS0 := hS
      refine W.drawX 25 (fun _ => false) (fun _ => none) [⟨[], [8], true⟩, ⟨[], [9], true⟩, ⟨[], [7], true⟩, ⟨[1, 2], [], true⟩, ⟨[], [11], true⟩, ⟨[3, 4], [], true⟩, ⟨[], [8], true⟩, ⟨[], [9], true⟩, ⟨[], [7], true⟩, ⟨[7, 8], [], true⟩, ⟨[], [11], true⟩, ⟨[9, 10], [], true⟩, ⟨[6, 11], [], true⟩, ⟨[12], [], false⟩, ⟨[], [2], true⟩, ⟨[], [10], true⟩, ⟨[14, 15], [], true⟩, ⟨[], [0], true⟩, ⟨[], [11], true⟩, ⟨[17, 18], [], true⟩, ⟨[19], [], false⟩, ⟨[16, 20], [], true⟩, ⟨[13, 21], [], true⟩, ⟨[], [2], true⟩, ⟨[22, 23], [], true⟩] [[(8, .slice A22 (((([] : List Int) ++ o) ++ ([(1 : Int)] : List Int)).length) k23)], [(9, .int .i64 z31)], [(7, .int .i64 ((l.length : Nat) : Int))], [], [(11, .int .i64 z42)], [], [(8, .slice A22 (((([] : List Int) ++ o) ++ ([(1 : Int)] : List Int)).length) k23)], [(9, .int .i64 z31)], [(7, .int .i64 ((l.length : Nat) : Int))], [], [(11, .int .i64 z42)], [], [], [], [(2, .int .i64 p)], [(10, .int .i64 (gi x30 z31))], [], [(0, .slice Al l.length kl)], [(11, .int .i64 z42)], [], [], [], [], [(2, .int .i64 p)], []] (fun iQ => [fun v _ => v = .slice A22 (((([] : List Int) ++ o) ++ ([(1 : Int)] : List Int)).length) k23, fun v _ => v = .int .i64 z31, fun v _ => v = .int .i64 ((l.length : Nat) : Int), fun v _ => v = .int .i64 (z31 - ((l.length : Nat) : Int)), fun v _ => v = .int .i64 z42, fun v _ => v = .int .i64 ((z31 - ((l.length : Nat) : Int)) + z42), fun v _ => v = .slice A22 (((([] : List Int) ++ o) ++ ([(1 : Int)] : List Int)).length) k23, fun v _ => v = .int .i64 z31, fun v _ => v = .int .i64 ((l.length : Nat) : Int), fun v _ => v = .int .i64 (z31 - ((l.length : Nat) : Int)), fun v _ => v = .int .i64 z42, fun v _ => v = .int .i64 ((z31 - ((l.length : Nat) : Int)) + z42), fun v _ => v = .pointer (some ((adOf A22).add (((z31 - ((l.length : Nat) : Int)) + z42).toNat))), fun v _ => v = .int .i64 (gi x41 ((z31 - ((l.length : Nat) : Int)) + z42)), fun v _ => v = .int .i64 p, fun v _ => v = .int .i64 (gi x30 z31), fun v _ => v = .int .i64 (p - (gi x30 z31)), fun v _ => v = .slice Al l.length kl, fun v _ => v = .int .i64 z42, fun v _ => v = .pointer (some ((adOf Al).add z42.toNat)), fun v _ => v = .int .i64 (gi l z42), fun v _ => v = .int .i64 ((p - (gi x30 z31)) * (gi l z42)), fun v _ => v = .int .i64 ((gi x41 ((z31 - ((l.length : Nat) : Int)) + z42)) + ((p - (gi x30 z31)) * (gi l z42))), fun v _ => v = .int .i64 p, fun v _ => v = .int .i64 (((gi x41 ((z31 - ((l.length : Nat) : Int)) + z42)) + ((p - (gi x30 z31)) * (gi l z42))).tmod p)].getD iQ (fun _ _ => True)) Try.mixed (by kernel_rfl) ?_ (by kernel_rfl) ?_ ?_
      · refine Vs_monoT _ ?_
        intro VQ hVQ vQ wQ1 wQ2 hQ1 hQ2
        simp only [List.mem_cons, List.not_mem_nil, or_false] at hVQ
        rcases hVQ with rfl | rfl | rfl | rfl | rfl | rfl | rfl | rfl | rfl | rfl | rfl | rfl | rfl | rfl | rfl | rfl | rfl | rfl | rfl | rfl | rfl | rfl | rfl | rfl | rfl
        · exact hQ1
        · exact hQ1
        · exact hQ1
        · exact hQ1
        · exact hQ1
        · exact hQ1
        · exact hQ1
        · exact hQ1
        · exact hQ1
        · exact hQ1
        · exact hQ1
        · exact hQ1
        · exact hQ1
        · exact hQ1
        · exact hQ1
        · exact hQ1
        · exact hQ1
        · exact hQ1
        · exact hQ1
        · exact hQ1
        · exact hQ1
        · exact hQ1
        · exact hQ1
        · exact hQ1
        · exact hQ1
      · refine ⟨⟨rfl, ⟨rfl, trivial⟩, ?_⟩, ⟨rfl, ⟨rfl, trivial⟩, ?_⟩, ⟨rfl, ⟨rfl, trivial⟩, ?_⟩, ⟨rfl, trivial, ?_⟩, ⟨rfl, ⟨rfl, trivial⟩, ?_⟩, ⟨rfl, trivial, ?_⟩, ⟨rfl, ⟨rfl, trivial⟩, ?_⟩, ⟨rfl, ⟨rfl, trivial⟩, ?_⟩, ⟨rfl, ⟨rfl, trivial⟩, ?_⟩, ⟨rfl, trivial, ?_⟩, ⟨rfl, ⟨rfl, trivial⟩, ?_⟩, ⟨rfl, trivial, ?_⟩, ⟨rfl, trivial, ?_⟩, ⟨rfl, trivial, ?_⟩, ⟨rfl, ⟨rfl, trivial⟩, ?_⟩, ⟨rfl, ⟨rfl, trivial⟩, ?_⟩, ⟨rfl, trivial, ?_⟩, ⟨rfl, ⟨rfl, trivial⟩, ?_⟩, ⟨rfl, ⟨rfl, trivial⟩, ?_⟩, ⟨rfl, trivial, ?_⟩, ⟨rfl, trivial, ?_⟩, ⟨rfl, trivial, ?_⟩, ⟨rfl, trivial, ?_⟩, ⟨rfl, ⟨rfl, trivial⟩, ?_⟩, ⟨rfl, trivial, ?_⟩, trivial⟩
        · intro w47 hE
          intro RR
          refine WL.move rfl rfl ?_
          exact WL.done ⟨_, rfl, rfl, rfl, (fun h => absurd h (by decide)), (fun j h => by cases h)⟩
        · intro w48 hE
          intro RR
          refine WL.move rfl rfl ?_
          exact WL.done ⟨_, rfl, rfl, rfl, (fun h => absurd h (by decide)), (fun j h => by cases h)⟩
        · intro w49 hE
          intro RR
          refine WL.move rfl rfl ?_
          exact WL.done ⟨_, rfl, rfl, rfl, (fun h => absurd h (by decide)), (fun j h => by cases h)⟩
        · intro w50 hE
          rintro _ rfl
          rintro _ rfl
          intro RR
          refine WL.sub (r := (z31 - ((l.length : Nat) : Int))) rfl rfl (wr o51) rfl ?_
          exact WL.done ⟨_, rfl, rfl, rfl, (fun h => absurd h (by decide)), (fun j h => by cases h)⟩
        · intro w52 hE
          intro RR
          refine WL.move rfl rfl ?_
          exact WL.done ⟨_, rfl, rfl, rfl, (fun h => absurd h (by decide)), (fun j h => by cases h)⟩
        · intro w53 hE
          rintro _ rfl
          rintro _ rfl
          intro RR
          refine WL.add (r := ((z31 - ((l.length : Nat) : Int)) + z42)) rfl rfl (wr o54) rfl ?_
          exact WL.done ⟨_, rfl, rfl, rfl, (fun h => absurd h (by decide)), (fun j h => by cases h)⟩
        · intro w55 hE
          intro RR
          refine WL.move rfl rfl ?_
          exact WL.done ⟨_, rfl, rfl, rfl, (fun h => absurd h (by decide)), (fun j h => by cases h)⟩
        · intro w56 hE
          intro RR
          refine WL.move rfl rfl ?_
          exact WL.done ⟨_, rfl, rfl, rfl, (fun h => absurd h (by decide)), (fun j h => by cases h)⟩
        · intro w57 hE
          intro RR
          refine WL.move rfl rfl ?_
          exact WL.done ⟨_, rfl, rfl, rfl, (fun h => absurd h (by decide)), (fun j h => by cases h)⟩
        · intro w58 hE
          rintro _ rfl
          rintro _ rfl
          intro RR
          refine WL.sub (r := (z31 - ((l.length : Nat) : Int))) rfl rfl (wr o59) rfl ?_
          exact WL.done ⟨_, rfl, rfl, rfl, (fun h => absurd h (by decide)), (fun j h => by cases h)⟩
        · intro w60 hE
          intro RR
          refine WL.move rfl rfl ?_
          exact WL.done ⟨_, rfl, rfl, rfl, (fun h => absurd h (by decide)), (fun j h => by cases h)⟩
        · intro w61 hE
          rintro _ rfl
          rintro _ rfl
          intro RR
          refine WL.add (r := ((z31 - ((l.length : Nat) : Int)) + z42)) rfl rfl (wr o62) rfl ?_
          exact WL.done ⟨_, rfl, rfl, rfl, (fun h => absurd h (by decide)), (fun j h => by cases h)⟩
        · intro w63 hE
          rintro _ rfl
          rintro _ rfl
          intro RR
          refine SL.index Try.underlying22 Try.el3 (hS.rd (i := 1) rfl) rfl rfl o64 rfl ?_
          exact WL.done ⟨_, rfl, rfl, rfl, (fun h => absurd h (by decide)), (fun j h => by cases h)⟩
        · intro w65 hE
          have hE := hE rfl
          have hS := hS.grow hE
          rintro _ rfl
          intro RR
          refine WL.load Try.underlying3 rfl rfl (Rd.gi (hS.rd (i := 1) rfl) o64) rfl ?_
          exact WL.done ⟨_, rfl, ext_refl _, rfl, (fun h => absurd h (by decide)), (fun j h => by cases h)⟩
        · intro w66 hE
          intro RR
          refine WL.move rfl rfl ?_
          exact WL.done ⟨_, rfl, rfl, rfl, (fun h => absurd h (by decide)), (fun j h => by cases h)⟩
        · intro w67 hE
          intro RR
          refine WL.move rfl rfl ?_
          exact WL.done ⟨_, rfl, rfl, rfl, (fun h => absurd h (by decide)), (fun j h => by cases h)⟩
        · intro w68 hE
          rintro _ rfl
          rintro _ rfl
          intro RR
          refine WL.sub (r := (p - (gi x30 z31))) rfl rfl (wr o69) rfl ?_
          exact WL.done ⟨_, rfl, rfl, rfl, (fun h => absurd h (by decide)), (fun j h => by cases h)⟩
        · intro w70 hE
          intro RR
          refine WL.move rfl rfl ?_
          exact WL.done ⟨_, rfl, rfl, rfl, (fun h => absurd h (by decide)), (fun j h => by cases h)⟩
        · intro w71 hE
          intro RR
          refine WL.move rfl rfl ?_
          exact WL.done ⟨_, rfl, rfl, rfl, (fun h => absurd h (by decide)), (fun j h => by cases h)⟩
        · intro w72 hE
          rintro _ rfl
          rintro _ rfl
          intro RR
          refine SL.index Try.underlying22 Try.el3 (hS.ro hl) rfl rfl o73 rfl ?_
          exact WL.done ⟨_, rfl, rfl, rfl, (fun h => absurd h (by decide)), (fun j h => by cases h)⟩
        · intro w74 hE
          have hE := hE rfl
          have hS := hS.grow hE
          rintro _ rfl
          intro RR
          refine WL.load Try.underlying3 rfl rfl (Rd.gi (hS.ro hl) o73) rfl ?_
          exact WL.done ⟨_, rfl, ext_refl _, rfl, (fun h => absurd h (by decide)), (fun j h => by cases h)⟩
        · intro w75 hE
          rintro _ rfl
          rintro _ rfl
          intro RR
          refine WL.mul (r := ((p - (gi x30 z31)) * (gi l z42))) rfl rfl (wr o76) rfl ?_
          exact WL.done ⟨_, rfl, rfl, rfl, (fun h => absurd h (by decide)), (fun j h => by cases h)⟩
        · intro w77 hE
          rintro _ rfl
          rintro _ rfl
          intro RR
          refine WL.add (r := ((gi x41 ((z31 - ((l.length : Nat) : Int)) + z42)) + ((p - (gi x30 z31)) * (gi l z42)))) rfl rfl (wr o78) rfl ?_
          exact WL.done ⟨_, rfl, rfl, rfl, (fun h => absurd h (by decide)), (fun j h => by cases h)⟩
        · intro w79 hE
          intro RR
          refine WL.move rfl rfl ?_
          exact WL.done ⟨_, rfl, rfl, rfl, (fun h => absurd h (by decide)), (fun j h => by cases h)⟩
        · intro w80 hE
          rintro _ rfl
          rintro _ rfl
          intro RR
          refine WL.rem (r := (((gi x41 ((z31 - ((l.length : Nat) : Int)) + z42)) + ((p - (gi x30 z31)) * (gi l z42))).tmod p)) rfl rfl o81 rfl rfl ?_
          exact WL.done ⟨_, rfl, rfl, rfl, (fun h => absurd h (by decide)), (fun j h => by cases h)⟩
      · intro vals w82 hT hVs hAp hCp
        have hS := hS.grow hT
        have hv0 : vals 0 = _ := hVs 0 (by decide)
        have hv1 : vals 1 = _ := hVs 1 (by decide)
        have hv2 : vals 2 = _ := hVs 2 (by decide)
        have hv3 : vals 3 = _ := hVs 3 (by decide)
        have hv4 : vals 4 = _ := hVs 4 (by decide)
        have hv5 : vals 5 = _ := hVs 5 (by decide)
        have hv6 : vals 6 = _ := hVs 6 (by decide)
        have hv7 : vals 7 = _ := hVs 7 (by decide)
        have hv8 : vals 8 = _ := hVs 8 (by decide)
        have hv9 : vals 9 = _ := hVs 9 (by decide)
        have hv10 : vals 10 = _ := hVs 10 (by decide)
        have hv11 : vals 11 = _ := hVs 11 (by decide)
        have hv12 : vals 12 = _ := hVs 12 (by decide)
        have hv13 : vals 13 = _ := hVs 13 (by decide)
        have hv14 : vals 14 = _ := hVs 14 (by decide)
        have hv15 : vals 15 = _ := hVs 15 (by decide)
        have hv16 : vals 16 = _ := hVs 16 (by decide)
        have hv17 : vals 17 = _ := hVs 17 (by decide)
        have hv18 : vals 18 = _ := hVs 18 (by decide)
        have hv19 : vals 19 = _ := hVs 19 (by decide)
        have hv20 : vals 20 = _ := hVs 20 (by decide)
        have hv21 : vals 21 = _ := hVs 21 (by decide)
        have hv22 : vals 22 = _ := hVs 22 (by decide)
        have hv23 : vals 23 = _ := hVs 23 (by decide)
        have hv24 : vals 24 = _ := hVs 24 (by decide)
        rw [show (List.filterMap (fun i => Option.map (fun t => (t, vals i)) (dstAt _ i)) (List.range _)) = [(38, .slice A22 (((([] : List Int) ++ o) ++ ([(1 : Int)] : List Int)).length) k23), (39, .int .i64 z31), (40, .int .i64 ((l.length : Nat) : Int)), (41, .int .i64 (z31 - ((l.length : Nat) : Int))), (42, .int .i64 z42), (43, .int .i64 ((z31 - ((l.length : Nat) : Int)) + z42)), (44, .slice A22 (((([] : List Int) ++ o) ++ ([(1 : Int)] : List Int)).length) k23), (45, .int .i64 z31), (46, .int .i64 ((l.length : Nat) : Int)), (47, .int .i64 (z31 - ((l.length : Nat) : Int))), (48, .int .i64 z42), (49, .int .i64 ((z31 - ((l.length : Nat) : Int)) + z42)), (50, .pointer (some ((adOf A22).add (((z31 - ((l.length : Nat) : Int)) + z42).toNat)))), (51, .int .i64 (gi x41 ((z31 - ((l.length : Nat) : Int)) + z42))), (52, .int .i64 p), (53, .int .i64 (gi x30 z31)), (54, .int .i64 (p - (gi x30 z31))), (55, .slice Al l.length kl), (56, .int .i64 z42), (57, .pointer (some ((adOf Al).add z42.toNat))), (58, .int .i64 (gi l z42)), (59, .int .i64 ((p - (gi x30 z31)) * (gi l z42))), (60, .int .i64 ((gi x41 ((z31 - ((l.length : Nat) : Int)) + z42)) + ((p - (gi x30 z31)) * (gi l z42)))), (61, .int .i64 p), (62, .int .i64 (((gi x41 ((z31 - ((l.length : Nat) : Int)) + z42)) + ((p - (gi x30 z31)) * (gi l z42))).tmod p))] from by
          show [(38, vals 0), (39, vals 1), (40, vals 2), (41, vals 3), (42, vals 4), (43, vals 5), (44, vals 6), (45, vals 7), (46, vals 8), (47, vals 9), (48, vals 10), (49, vals 11), (50, vals 12), (51, vals 13), (52, vals 14), (53, vals 15), (54, vals 16), (55, vals 17), (56, vals 18), (57, vals 19), (58, vals 20), (59, vals 21), (60, vals 22), (61, vals 23), (62, vals 24)] = _
          rw [hv0, hv1, hv2, hv3, hv4, hv5, hv6, hv7, hv8, hv9, hv10, hv11, hv12, hv13, hv14, hv15, hv16, hv17, hv18, hv19, hv20, hv21, hv22, hv23, hv24]]
        refine WA.step [25] (by decide +kernel) rfl ?_
        intro iQ hQ
        simp only [List.mem_cons, List.not_mem_nil, or_false] at hQ
        obtain rfl := hQ
        refine ⟨_, rfl, ?_⟩
        obtain ⟨o83, hv⟩ := hv
        refine SL.index Try.underlying22 Try.el3 (hS.rd (i := 1) rfl) rfl rfl o83 rfl ?_
        refine WL.done ?_
        refine WA.step [26] (by decide +kernel) rfl ?_
        intro iQ hQ
        simp only [List.mem_cons, List.not_mem_nil, or_false] at hQ
        obtain rfl := hQ
        refine ⟨_, rfl, ?_⟩
        refine SL.store (cs' := is (si x41 ((z31 - ((l.length : Nat) : Int)) + z42) (((gi x41 ((z31 - ((l.length : Nat) : Int)) + z42)) + ((p - (gi x30 z31)) * (gi l z42))).tmod p))) 1 ((z31 - ((l.length : Nat) : Int)) + z42).toNat hS rfl Try.el3 rfl rfl rfl (is_lt (hS.rd (i := 1) rfl) o83) (is_set _ _ _) ?_
        intro w84 hS
        refine WL.done ?_
        refine WA.done (by decide +kernel) ?_
        refine W.region ?_
        refine WL.move rfl rfl ?_
        obtain ⟨o85, hv⟩ := hv
        refine WL.add (r := (z42 + (1 : Int))) rfl rfl (wr o85) rfl ?_
        refine WL.assign rfl rfl ?_
        refine WL.done ?_
        change St _ _ _ _ [.row 3 1 A18 1 1 (is ([(1 : Int)] : List Int)), .row 3 1 A22 (((([] : List Int) ++ o) ++ ([(1 : Int)] : List Int)).length) k23 (is (si x41 ((z31 - ((l.length : Nat) : Int)) + z42) (((gi x41 ((z31 - ((l.length : Nat) : Int)) + z42)) + ((p - (gi x30 z31)) * (gi l z42))).tmod p)))] at hS
        exact ⟨(si x41 ((z31 - ((l.length : Nat) : Int)) + z42) (((gi x41 ((z31 - ((l.length : Nat) : Int)) + z42)) + ((p - (gi x30 z31)) * (gi l z42))).tmod p), (z42 + (1 : Int))), ⟨rfl, rfl, rfl, rfl, rfl, rfl, rfl, rfl, rfl, trivial⟩, hv.2, rfl, hv.1, hS⟩
    · have hv := hv.2 (of_decide_eq_false c46)
      refine W.exit ?_
      refine W.region ?_
      refine WL.move rfl rfl ?_
      refine WL.move rfl rfl ?_
      obtain ⟨o86, hv⟩ := hv
      refine SL.index Try.underlying22 Try.el3 (hS.rd (i := 1) rfl) rfl rfl o86 rfl ?_
      refine SL.store (cs' := is (si x41 z31 (0 : Int))) 1 z31.toNat hS rfl Try.el3 rfl rfl rfl (is_lt (hS.rd (i := 1) rfl) o86) (is_set _ _ _) ?_
      intro w87 hS
      refine WL.done ?_
      refine W.region ?_
      refine WL.move rfl rfl ?_
      obtain ⟨o88, hv⟩ := hv
      refine WL.sub (r := (z31 - (1 : Int))) rfl rfl (wr o88) rfl ?_
      refine WL.assign rfl rfl ?_
      refine WL.done ?_
      change St _ _ _ _ [.row 3 1 A18 1 1 (is ([(1 : Int)] : List Int)), .row 3 1 A22 (((([] : List Int) ++ o) ++ ([(1 : Int)] : List Int)).length) k23 (is (si x41 z31 (0 : Int)))] at hS
      exact ⟨(si x41 z31 (0 : Int), (z31 - (1 : Int))), ⟨rfl, rfl, rfl, rfl, rfl, rfl, trivial⟩, hv.2, rfl, hv.1, hS⟩
  · have hv := hv.2 (of_decide_eq_false c35)
    refine W.exit ?_
    refine W.seq ?_
    refine W.seq ?_
    refine W.region ?_
    refine WL.assign rfl rfl ?_
    refine WL.done ?_
    refine W.block ?_
    obtain ⟨I93, μ94, hv, hk100⟩ := hv
    change St _ _ _ _ [.row 3 1 A18 1 1 (is ([(1 : Int)] : List Int)), .row 3 1 A22 (((([] : List Int) ++ o) ++ ([(1 : Int)] : List Int)).length) k23 (is x30)] at hS
    refine W.loop (σ := Int) (fun z92 w1 => I93 z92 ∧ St TT w none w1 [.row 3 1 A18 1 1 (is ([(1 : Int)] : List Int)), .row 3 1 A22 (((([] : List Int) ++ o) ++ ([(1 : Int)] : List Int)).length) k23 (is x30)]) (fun z92 => [(6, .bool false), (8, .slice A22 (((([] : List Int) ++ o) ++ ([(1 : Int)] : List Int)).length) k23), (12, .int .i64 z92)]) (fun z92 => μ94 z92) (0 : Int) ⟨hv, hS⟩ ⟨rfl, rfl, rfl, trivial⟩ ?_
    rintro z92 w95 ⟨hv, hS⟩
    have hv := hk100 z92 hv
    refine W.seq ?_
    refine W.seq ?_
    refine W.region ?_
    refine WL.move rfl rfl ?_
    refine WL.move rfl rfl ?_
    refine WL.len Try.underlying22 rfl rfl ?_
    refine WL.lssD rfl rfl rfl ?_
    refine WL.done ?_
    refine W.cond2 rfl (fun c96 => ?_) (fun c96 => ?_)
    · have hv := hv.1 (of_decide_eq_true c96)
      refine W.skip ?_
      refine W.seq ?_
      refine W.block ?_
      refine W.seq ?_
      refine W.region ?_
      refine WL.move rfl rfl ?_
      refine WL.move rfl rfl ?_
      obtain ⟨o97, hv⟩ := hv
      refine SL.index Try.underlying22 Try.el3 (hS.rd (i := 1) rfl) rfl rfl o97 rfl ?_
      refine WL.load Try.underlying3 rfl rfl (Rd.gi (hS.rd (i := 1) rfl) o97) rfl ?_
      refine WL.neqD rfl rfl rfl ?_
      refine WL.done ?_
      refine W.cond2 rfl (fun c98 => ?_) (fun c98 => ?_)
      · have hv := hv.1 (of_decide_eq_true c98)
        refine W.seq ?_
        refine W.region ?_
        refine WL.assign rfl rfl ?_
        refine WL.done ?_
        refine W.ret ?_
        refine ⟨_, rfl, Fin.nil ?_⟩
        exact ⟨_, hS.ext, (hS.pick [] rfl).rows, News.of (hS.pick [] rfl).rows rfl, ⟨false, rfl, rfl, hv⟩⟩
      · have hv := hv.2 (of_decide_eq_false c98)
        refine W.skip ?_
        refine W.region ?_
        refine WL.move rfl rfl ?_
        obtain ⟨o99, hv⟩ := hv
        refine WL.add (r := (z92 + (1 : Int))) rfl rfl (wr o99) rfl ?_
        refine WL.assign rfl rfl ?_
        refine WL.done ?_
        change St _ _ _ _ [.row 3 1 A18 1 1 (is ([(1 : Int)] : List Int)), .row 3 1 A22 (((([] : List Int) ++ o) ++ ([(1 : Int)] : List Int)).length) k23 (is x30)] at hS
        exact ⟨(z92 + (1 : Int)), ⟨rfl, rfl, rfl, trivial⟩, hv.2, rfl, hv.1, hS⟩
    · have hv := hv.2 (of_decide_eq_false c96)
      refine W.exit ?_
      refine W.seq ?_
      refine W.region ?_
      refine WL.assign rfl rfl ?_
      refine WL.done ?_
      refine W.ret ?_
      refine ⟨_, rfl, Fin.nil ?_⟩
      exact ⟨_, hS.ext, (hS.pick [] rfl).rows, News.of (hS.pick [] rfl).rows rfl, ⟨true, rfl, rfl, hv⟩⟩

def V_rirr (l : List Int) (p : Int) (Q : Bool → Prop) : Prop :=
  ∃ (I17 : Int → Int → Prop) (μ18 : Int → Int → Nat), I17 (1 : Int) (1 : Int) ∧ ∀ (z15 : Int) (z16 : Int), (I17 z15 z16 → ((I64 ((2 : Int) * z16)) ∧ (((((2 : Int) * z16) ≤ ((l.length : Nat) : Int)) → ((I64 (z15 * p)) ∧ (∃ (I26 : Int → Prop) (μ27 : Int → Nat), I26 (0 : Int) ∧ ∀ (z25 : Int), (I26 z25 → (((z25 < (z15 * p)) → (V_rdigits z25 p z16 (fun x31 => V_rdivides x31 l p (fun r36 => ((r36 = true) → Q false) ∧ (r36 = false → ((I64 (z25 + (1 : Int))) ∧ (I26 (z25 + (1 : Int)) ∧ μ27 (z25 + (1 : Int)) < μ27 z25))))))) ∧ (¬ (z25 < (z15 * p)) → ((I64 (z16 + (1 : Int))) ∧ (I17 (z15 * p) (z16 + (1 : Int)) ∧ μ18 (z15 * p) (z16 + (1 : Int)) < μ18 z15 z16)))))))) ∧ (¬ (((2 : Int) * z16) ≤ ((l.length : Nat) : Int)) → Q true))))
theorem ok_rirr {w : World} {Q : Bool → Prop} {l : List Int} {p : Int} {Bl : Nat} {Al : Option Addr} {nl kl : Nat} (hl : Rd Bl w 1 Al nl kl (is l)) (hv : V_rirr l p Q) :
    Calls Try.prog 65 #[.slice Al nl kl, .int .i64 p] w fun e w' => ∃ v Qr, e = .returned v ∧ w.grownBy w' none ∧ Rows w.heap.size none w' Qr ∧ News w.heap.size Qr ∧ ∃ (r0 : Bool), v = .bool r0 ∧ Qr = [] ∧ Q r0 := by
  have hnl := hl.ilen
  subst hnl
  refine calls_swap ?_
  refine calls_of_W (vs := [.slice Al l.length kl, .int .i64 p]) [4] Try.func65 rfl rfl rfl rfl ?_
  have hS := St.start w
  unfold V_rirr at hv
  refine W.seq ?_
  refine W.region ?_
  refine WL.assign rfl rfl ?_
  refine WL.done ?_
  refine W.seq ?_
  refine W.region ?_
  refine WL.assign rfl rfl ?_
  refine WL.done ?_
  refine W.seq ?_
  refine W.seq ?_
  refine W.region ?_
  refine WL.assign rfl rfl ?_
  refine WL.done ?_
  refine W.block ?_
  obtain ⟨I17, μ18, hv, hk41⟩ := hv
  change St _ _ _ _ [] at hS
  refine W.loop (σ := Int × Int) (fun q w1 => match q with | (z15, z16) => I17 z15 z16 ∧ St TT w none w1 []) (fun q => match q with | (z15, z16) => [(0, .slice Al l.length kl), (1, .int .i64 p), (4, .bool false), (5, .int .i64 z15), (6, .int .i64 z16)]) (fun q => match q with | (z15, z16) => μ18 z15 z16) ((1 : Int), (1 : Int)) ⟨hv, hS⟩ ⟨rfl, rfl, rfl, rfl, rfl, trivial⟩ ?_
  rintro ⟨z15, z16⟩ w19 ⟨hv, hS⟩
  have hv := hk41 z15 z16 hv
  refine W.seq ?_
  refine W.seq ?_
  refine W.region ?_
  refine WL.move rfl rfl ?_
  obtain ⟨o20, hv⟩ := hv
  refine WL.mul (r := ((2 : Int) * z16)) rfl rfl (wr o20) rfl ?_
  refine WL.move rfl rfl ?_
  refine WL.len Try.underlying22 rfl rfl ?_
  refine WL.leqD rfl rfl rfl ?_
  refine WL.done ?_
  refine W.cond2 rfl (fun c21 => ?_) (fun c21 => ?_)
  · have hv := hv.1 (of_decide_eq_true c21)
    refine W.skip ?_
    refine W.seq ?_
    refine W.block ?_
    refine W.seq ?_
    refine W.region ?_
    refine WL.move rfl rfl ?_
    refine WL.move rfl rfl ?_
    obtain ⟨o22, hv⟩ := hv
    refine WL.mul (r := (z15 * p)) rfl rfl (wr o22) rfl ?_
    refine WL.assign rfl rfl ?_
    refine WL.done ?_
    refine W.seq ?_
    refine W.region ?_
    refine WL.assign rfl rfl ?_
    refine WL.done ?_
    refine W.block ?_
    obtain ⟨I26, μ27, hv, hk40⟩ := hv
    change St _ _ _ _ [] at hS
    refine W.loop (σ := Int) (fun z25 w1 => I26 z25 ∧ St TT w none w1 []) (fun z25 => [(0, .slice Al l.length kl), (1, .int .i64 p), (4, .bool false), (5, .int .i64 (z15 * p)), (6, .int .i64 z16), (7, .int .i64 z25), (12, .bool (decide (((2 : Int) * z16) ≤ ((l.length : Nat) : Int))))]) (fun z25 => μ27 z25) (0 : Int) ⟨hv, hS⟩ ⟨rfl, rfl, rfl, rfl, rfl, rfl, rfl, trivial⟩ ?_
    rintro z25 w28 ⟨hv, hS⟩
    have hv := hk40 z25 hv
    refine W.seq ?_
    refine W.seq ?_
    refine W.region ?_
    refine WL.move rfl rfl ?_
    refine WL.move rfl rfl ?_
    refine WL.lssD rfl rfl rfl ?_
    refine WL.done ?_
    refine W.cond2 rfl (fun c29 => ?_) (fun c29 => ?_)
    · have hv := hv.1 (of_decide_eq_true c29)
      refine W.skip ?_
      refine W.seq ?_
      refine W.block ?_
      refine W.seq ?_
      refine W.region ?_
      refine WL.move rfl rfl ?_
      refine WL.move rfl rfl ?_
      refine WL.move rfl rfl ?_
      refine SL.call hS (ok_rdigits  hv) Try.func69 rfl Try.nm69 rfl rfl ?_
      rintro _ _ w30 ⟨x31, A32, k33, rfl, rfl, hv⟩ hGw30 hS
      change St _ _ _ _ [.row 3 1 A32 x31.length k33 (is x31)] at hS
      refine WL.move rfl rfl ?_
      refine WL.move rfl rfl ?_
      refine SL.call hS (ok_rdivides (hS.rd (i := 0) rfl) (hS.ro hl) hv) Try.func78 rfl Try.nm78 rfl rfl ?_
      rintro _ _ w35 ⟨r36, rfl, rfl, hv⟩ hGw35 hS
      change St _ _ _ _ [.row 3 1 A32 x31.length k33 (is x31)] at hS
      refine WL.done ?_
      refine W.cond2 rfl (fun c37 => ?_) (fun c37 => ?_)
      · have hv := hv.1 (c37)
        refine W.seq ?_
        refine W.region ?_
        refine WL.assign rfl rfl ?_
        refine WL.done ?_
        refine W.ret ?_
        refine ⟨_, rfl, Fin.nil ?_⟩
        exact ⟨_, hS.ext, (hS.pick [] rfl).rows, News.of (hS.pick [] rfl).rows rfl, ⟨false, rfl, rfl, hv⟩⟩
      · have hv := hv.2 (c37)
        refine W.skip ?_
        refine W.region ?_
        refine WL.move rfl rfl ?_
        obtain ⟨o38, hv⟩ := hv
        refine WL.add (r := (z25 + (1 : Int))) rfl rfl (wr o38) rfl ?_
        refine WL.assign rfl rfl ?_
        refine WL.done ?_
        have hS := hS.pick [] rfl
        change St _ _ _ _ [] at hS
        exact ⟨(z25 + (1 : Int)), ⟨rfl, rfl, rfl, rfl, rfl, rfl, rfl, trivial⟩, hv.2, rfl, hv.1, hS⟩
    · have hv := hv.2 (of_decide_eq_false c29)
      refine W.exit ?_
      refine W.region ?_
      refine WL.move rfl rfl ?_
      obtain ⟨o39, hv⟩ := hv
      refine WL.add (r := (z16 + (1 : Int))) rfl rfl (wr o39) rfl ?_
      refine WL.assign rfl rfl ?_
      refine WL.done ?_
      change St _ _ _ _ [] at hS
      exact ⟨((z15 * p), (z16 + (1 : Int))), ⟨rfl, rfl, rfl, rfl, rfl, trivial⟩, hv.2, rfl, hv.1, hS⟩
  · have hv := hv.2 (of_decide_eq_false c21)
    refine W.exit ?_
    refine W.seq ?_
    refine W.region ?_
    refine WL.assign rfl rfl ?_
    refine WL.done ?_
    refine W.ret ?_
    refine ⟨_, rfl, Fin.nil ?_⟩
    exact ⟨_, hS.ext, (hS.pick [] rfl).rows, News.of (hS.pick [] rfl).rows rfl, ⟨true, rfl, rfl, hv⟩⟩

def V_rCheck (Pf : Int) (Mf : Int) (mf : List Int) (Q : Int → Prop) : Prop :=
  V_rOrder Pf Mf mf (fun r14 => ((r14 = (0 : Int)) → (Q (1 : Int))) ∧ (¬ (r14 = (0 : Int)) → (V_rprime Pf (fun r17 => (((!r17) = true) → (Q (1 : Int))) ∧ ((!r17) = false → (((Mf = (1 : Int)) → (((((mf.length : Nat) : Int) ≠ (0 : Int)) → (Q (1 : Int))) ∧ (¬ (((mf.length : Nat) : Int) ≠ (0 : Int)) → (Q (0 : Int))))) ∧ (¬ (Mf = (1 : Int)) → (((((mf.length : Nat) : Int) ≠ Mf) → (Q (1 : Int))) ∧ (¬ (((mf.length : Nat) : Int) ≠ Mf) → (∃ (I25 : Int → Prop) (μ26 : Int → Nat), I25 (0 : Int) ∧ ∀ (z24 : Int), (I25 z24 → (((z24 < Mf) → ((((gi mf z24) < (0 : Int)) → ((0 ≤ z24 ∧ z24 < (mf.length : Nat)) ∧ (Q (1 : Int)))) ∧ (¬ ((gi mf z24) < (0 : Int)) → ((0 ≤ z24 ∧ z24 < (mf.length : Nat)) ∧ ((0 ≤ z24 ∧ z24 < (mf.length : Nat)) ∧ (((Pf ≤ (gi mf z24)) → (Q (1 : Int))) ∧ (¬ (Pf ≤ (gi mf z24)) → ((I64 (z24 + (1 : Int))) ∧ (I25 (z24 + (1 : Int)) ∧ μ26 (z24 + (1 : Int)) < μ26 z24))))))))) ∧ (¬ (z24 < Mf) → (V_rirr mf Pf (fun r70 => (((!r70) = true) → (Q (1 : Int))) ∧ ((!r70) = false → (Q (0 : Int))))))))))))))))))
theorem ok_rCheck {w : World} {Q : Int → Prop} {Pf : Int} {Mf : Int} {mf : List Int} {Bf : Nat} {Af : Option Addr} {nf kf : Nat} (hf : Rd Bf w 1 Af nf kf (is mf)) (hv : V_rCheck Pf Mf mf Q) :
    Calls Try.prog 39 #[.agg #[.int .i64 Pf, .int .i64 Mf, .slice Af nf kf]] w fun e w' => ∃ v Qr, e = .returned v ∧ w.grownBy w' none ∧ Rows w.heap.size none w' Qr ∧ News w.heap.size Qr ∧ ∃ (r0 : Int), v = .int .i64 r0 ∧ Qr = [] ∧ Q r0 := by
  have hnf := hf.ilen
  subst hnf
  refine calls_swap ?_
  refine calls_of_W (vs := [.agg #[.int .i64 Pf, .int .i64 Mf, .slice Af mf.length kf]]) [2] Try.func39 rfl rfl rfl rfl ?_
  have hS := St.start w
  unfold V_rCheck at hv
  refine W.seq ?_
  refine W.region ?_
  refine SL.box (z := 3) (cs := [.int .i64 Pf, .int .i64 Mf, .slice Af mf.length kf]) hS rfl rfl rfl rfl ?_
  intro g11 w12 hS
  refine WL.assign rfl rfl ?_
  refine WL.done ?_
  refine W.seq ?_
  refine W.seq ?_
  refine W.region ?_
  refine WL.loadV (cs := [.int .i64 Pf, .int .i64 Mf, .slice Af mf.length kf]) Try.el24 Try.agg24 rfl rfl (Own.vcells (hS.own (i := 0) rfl)) rfl ?_
  refine SL.call hS (ok_rOrder (hS.ro hf) hv) Try.func26 rfl Try.nm26 rfl rfl ?_
  rintro _ _ w13 ⟨r14, rfl, rfl, hv⟩ hGw13 hS
  change St _ _ _ _ [.row 24 3 (some ⟨g11, 0, none⟩) 1 1 [.int .i64 Pf, .int .i64 Mf, .slice Af mf.length kf]] at hS
  refine WL.eqlD rfl rfl rfl ?_
  refine WL.move rfl rfl ?_
  by_cases g15 : r14 = (0 : Int)
  · have hv := hv.1 g15
    rw [decide_eq_true g15]
    refine WL.pass rfl rfl rfl ?_
    refine WL.pass rfl rfl rfl ?_
    refine WL.pass rfl rfl rfl ?_
    refine WL.pass rfl rfl rfl ?_
    refine WL.pick rfl rfl rfl ?_
    refine WL.done ?_
    refine W.condT rfl ?_
    refine W.seq ?_
    refine W.region ?_
    refine WL.assign rfl rfl ?_
    refine WL.done ?_
    refine W.ret ?_
    refine ⟨_, rfl, Fin.nil ?_⟩
    exact ⟨_, hS.ext, (hS.pick [] rfl).rows, News.of (hS.pick [] rfl).rows rfl, ⟨(1 : Int), rfl, rfl, hv⟩⟩
  · have hv := hv.2 g15
    rw [decide_eq_false g15]
    refine WL.take rfl ?_
    refine WL.fieldA (off := 0) Try.fla24_0 rfl rfl ?_
    refine WL.take rfl ?_
    refine WL.load Try.underlying3 rfl rfl (Own.vcells (hS.own (i := 0) rfl) 0 _ rfl) rfl ?_
    refine WL.take rfl ?_
    refine SL.call hS (ok_rprime  hv) Try.func64 rfl Try.nm64 rfl rfl ?_
    rintro _ _ w16 ⟨r17, rfl, rfl, hv⟩ hGw16 hS
    change St _ _ _ _ [.row 24 3 (some ⟨g11, 0, none⟩) 1 1 [.int .i64 Pf, .int .i64 Mf, .slice Af mf.length kf]] at hS
    refine WL.take rfl ?_
    refine WL.not rfl rfl ?_
    refine WL.pick rfl rfl rfl ?_
    refine WL.done ?_
    refine W.cond2 rfl (fun c18 => ?_) (fun c18 => ?_)
    · have hv := hv.1 (c18)
      refine W.seq ?_
      refine W.region ?_
      refine WL.assign rfl rfl ?_
      refine WL.done ?_
      refine W.ret ?_
      refine ⟨_, rfl, Fin.nil ?_⟩
      exact ⟨_, hS.ext, (hS.pick [] rfl).rows, News.of (hS.pick [] rfl).rows rfl, ⟨(1 : Int), rfl, rfl, hv⟩⟩
    · have hv := hv.2 (c18)
      refine W.skip ?_
      refine W.seq ?_
      refine W.seq ?_
      refine W.region ?_
      refine WL.fieldA (off := 1) Try.fla24_1 rfl rfl ?_
      refine WL.load Try.underlying3 rfl rfl (Own.vcells (hS.own (i := 0) rfl) 1 _ rfl) rfl ?_
      refine WL.eqlD rfl rfl rfl ?_
      refine WL.done ?_
      refine W.cond2 rfl (fun c19 => ?_) (fun c19 => ?_)
      · have hv := hv.1 (of_decide_eq_true c19)
        refine W.seq ?_
        refine W.seq ?_
        refine W.region ?_
        refine WL.fieldA (off := 2) Try.fla24_2 rfl rfl ?_
        refine WL.load Try.underlying22 rfl rfl (Own.vcells (hS.own (i := 0) rfl) 2 _ rfl) rfl ?_
        refine WL.len Try.underlying22 rfl rfl ?_
        refine WL.neqD rfl rfl rfl ?_
        refine WL.done ?_
        refine W.cond2 rfl (fun c20 => ?_) (fun c20 => ?_)
        · have hv := hv.1 (of_decide_eq_true c20)
          refine W.seq ?_
          refine W.region ?_
          refine WL.assign rfl rfl ?_
          refine WL.done ?_
          refine W.ret ?_
          refine ⟨_, rfl, Fin.nil ?_⟩
          exact ⟨_, hS.ext, (hS.pick [] rfl).rows, News.of (hS.pick [] rfl).rows rfl, ⟨(1 : Int), rfl, rfl, hv⟩⟩
        · have hv := hv.2 (of_decide_eq_false c20)
          refine W.skip ?_
          refine W.seq ?_
          refine W.region ?_
          refine WL.assign rfl rfl ?_
          refine WL.done ?_
          refine W.ret ?_
          refine ⟨_, rfl, Fin.nil ?_⟩
          exact ⟨_, hS.ext, (hS.pick [] rfl).rows, News.of (hS.pick [] rfl).rows rfl, ⟨(0 : Int), rfl, rfl, hv⟩⟩
      · have hv := hv.2 (of_decide_eq_false c19)
        refine W.skip ?_
        refine W.seq ?_
        refine W.seq ?_
        refine W.region ?_
        refine WL.fieldA (off := 2) Try.fla24_2 rfl rfl ?_
        refine WL.load Try.underlying22 rfl rfl (Own.vcells (hS.own (i := 0) rfl) 2 _ rfl) rfl ?_
        refine WL.len Try.underlying22 rfl rfl ?_
        refine WL.fieldA (off := 1) Try.fla24_1 rfl rfl ?_
        refine WL.load Try.underlying3 rfl rfl (Own.vcells (hS.own (i := 0) rfl) 1 _ rfl) rfl ?_
        refine WL.neqD rfl rfl rfl ?_
        refine WL.done ?_
        refine W.cond2 rfl (fun c21 => ?_) (fun c21 => ?_)
        · have hv := hv.1 (of_decide_eq_true c21)
          refine W.seq ?_
          refine W.region ?_
          refine WL.assign rfl rfl ?_
          refine WL.done ?_
          refine W.ret ?_
          refine ⟨_, rfl, Fin.nil ?_⟩
          exact ⟨_, hS.ext, (hS.pick [] rfl).rows, News.of (hS.pick [] rfl).rows rfl, ⟨(1 : Int), rfl, rfl, hv⟩⟩
        · have hv := hv.2 (of_decide_eq_false c21)
          refine W.skip ?_
          refine W.seq ?_
          refine W.seq ?_
          refine W.region ?_
          refine WL.assign rfl rfl ?_
          refine WL.done ?_
          refine W.block ?_
          obtain ⟨I25, μ26, hv, hk72⟩ := hv
          change St _ _ _ _ [.row 24 3 (some ⟨g11, 0, none⟩) 1 1 [.int .i64 Pf, .int .i64 Mf, .slice Af mf.length kf]] at hS
          refine W.loop (σ := Int) (fun z24 w1 => I25 z24 ∧ St TT w none w1 [.row 24 3 (some ⟨g11, 0, none⟩) 1 1 [.int .i64 Pf, .int .i64 Mf, .slice Af mf.length kf]]) (fun z24 => [(1, .pointer (some ⟨g11, 0, none⟩)), (2, .int .i64 (0 : Int)), (3, .int .i64 z24)]) (fun z24 => μ26 z24) (0 : Int) ⟨hv, hS⟩ ⟨rfl, rfl, rfl, trivial⟩ ?_
          rintro z24 w27 ⟨hv, hS⟩
          have hv := hk72 z24 hv
          refine W.seq ?_
          refine W.seq ?_
          refine W.region ?_
          refine WL.move rfl rfl ?_
          refine WL.fieldA (off := 1) Try.fla24_1 rfl rfl ?_
          refine WL.load Try.underlying3 rfl rfl (Own.vcells (hS.own (i := 0) rfl) 1 _ rfl) rfl ?_
          refine WL.lssD rfl rfl rfl ?_
          refine WL.done ?_
          refine W.cond2 rfl (fun c28 => ?_) (fun c28 => ?_)
          · have hv := hv.1 (of_decide_eq_true c28)
            refine W.skip ?_
            refine W.seq ?_
            refine W.block ?_
            refine W.seq ?_
            by_cases g29 : (gi mf z24) < (0 : Int)
            · have hv := hv.1 g29
              obtain ⟨o34, hv⟩ := hv
              have hS0 := hS
              refine W.drawX 16 (fun _ => false) (fun _ => none) [⟨[], [1], true⟩, ⟨[0], [], false⟩, ⟨[], [3], true⟩, ⟨[1, 2], [], true⟩, ⟨[3], [], false⟩, ⟨[4], [], true⟩, ⟨[5], [], true⟩, ⟨[6], [1], true⟩, ⟨[6, 7], [], false⟩, ⟨[6], [3], true⟩, ⟨[6, 8, 9], [], true⟩, ⟨[6, 10], [], false⟩, ⟨[6], [1], true⟩, ⟨[6, 12], [], false⟩, ⟨[6, 11, 13], [], true⟩, ⟨[6, 14], [], true⟩] [[(1, .pointer (some ⟨g11, 0, none⟩))], [], [(3, .int .i64 z24)], [], [], [], [], [(1, .pointer (some ⟨g11, 0, none⟩))], [], [(3, .int .i64 z24)], [], [], [(1, .pointer (some ⟨g11, 0, none⟩))], [], [], []] (fun iQ => [fun v _ => v = .pointer (some ((⟨g11, 0, none⟩ : Addr).add 2)), fun v _ => v = .slice Af mf.length kf, fun v _ => v = .int .i64 z24, fun v _ => v = .pointer (some ((adOf Af).add z24.toNat)), fun v _ => v = .int .i64 (gi mf z24), fun v _ => v = .bool true, fun v _ => v = .bool true, fun v _ => v = undef, fun v _ => v = undef, fun v _ => v = undef, fun v _ => v = undef, fun v _ => v = undef, fun v _ => v = undef, fun v _ => v = undef, fun v _ => v = undef, fun v _ => v = .bool true].getD iQ (fun _ _ => True)) Try.mixed (by kernel_rfl) ?_ (by kernel_rfl) ?_ ?_
              · refine Vs_monoT _ ?_
                intro VQ hVQ vQ wQ1 wQ2 hQ1 hQ2
                simp only [List.mem_cons, List.not_mem_nil, or_false] at hVQ
                rcases hVQ with rfl | rfl | rfl | rfl | rfl | rfl | rfl | rfl | rfl | rfl | rfl | rfl | rfl | rfl | rfl | rfl
                · exact hQ1
                · exact hQ1
                · exact hQ1
                · exact hQ1
                · exact hQ1
                · exact hQ1
                · exact hQ1
                · exact hQ1
                · exact hQ1
                · exact hQ1
                · exact hQ1
                · exact hQ1
                · exact hQ1
                · exact hQ1
                · exact hQ1
                · exact hQ1
              · refine ⟨⟨rfl, ⟨rfl, trivial⟩, ?_⟩, ⟨rfl, trivial, ?_⟩, ⟨rfl, ⟨rfl, trivial⟩, ?_⟩, ⟨rfl, trivial, ?_⟩, ⟨rfl, trivial, ?_⟩, ⟨rfl, trivial, ?_⟩, ⟨rfl, trivial, ?_⟩, ⟨rfl, ⟨rfl, trivial⟩, ?_⟩, ⟨rfl, trivial, ?_⟩, ⟨rfl, ⟨rfl, trivial⟩, ?_⟩, ⟨rfl, trivial, ?_⟩, ⟨rfl, trivial, ?_⟩, ⟨rfl, ⟨rfl, trivial⟩, ?_⟩, ⟨rfl, trivial, ?_⟩, ⟨rfl, trivial, ?_⟩, ⟨rfl, trivial, ?_⟩, trivial⟩
                · intro w30 hE
                  intro RR
                  refine WL.fieldA (off := 2) Try.fla24_2 rfl rfl ?_
                  exact WL.done ⟨_, rfl, rfl, rfl, (fun h => absurd h (by decide)), (fun j h => by cases h)⟩
                · intro w31 hE
                  have hE := hE rfl
                  have hS := hS.grow hE
                  rintro _ rfl
                  intro RR
                  refine WL.load Try.underlying22 rfl rfl (Own.vcells (hS.own (i := 0) rfl) 2 _ rfl) rfl ?_
                  exact WL.done ⟨_, rfl, ext_refl _, rfl, (fun h => absurd h (by decide)), (fun j h => by cases h)⟩
                · intro w32 hE
                  intro RR
                  refine WL.move rfl rfl ?_
                  exact WL.done ⟨_, rfl, rfl, rfl, (fun h => absurd h (by decide)), (fun j h => by cases h)⟩
                · intro w33 hE
                  rintro _ rfl
                  rintro _ rfl
                  intro RR
                  refine SL.index Try.underlying22 Try.el3 (hS.ro hf) rfl rfl o34 rfl ?_
                  exact WL.done ⟨_, rfl, rfl, rfl, (fun h => absurd h (by decide)), (fun j h => by cases h)⟩
                · intro w35 hE
                  have hE := hE rfl
                  have hS := hS.grow hE
                  rintro _ rfl
                  intro RR
                  refine WL.load Try.underlying3 rfl rfl (Rd.gi (hS.ro hf) o34) rfl ?_
                  exact WL.done ⟨_, rfl, ext_refl _, rfl, (fun h => absurd h (by decide)), (fun j h => by cases h)⟩
                · intro w36 hE
                  rintro _ rfl
                  intro RR
                  refine WL.lssD rfl rfl rfl ?_; rw [decide_eq_true g29]
                  exact WL.done ⟨_, rfl, rfl, rfl, (fun h => absurd h (by decide)), (fun j h => by cases h)⟩
                · intro w37 hE
                  rintro _ rfl
                  intro RR
                  refine WL.move rfl rfl ?_
                  exact WL.done ⟨_, rfl, rfl, rfl, (fun h => absurd h (by decide)), (fun j h => by cases h)⟩
                · intro w38 hE
                  rintro _ rfl
                  intro RR
                  refine WL.pass rfl rfl rfl ?_
                  exact WL.done ⟨_, rfl, rfl, rfl, (fun h => absurd h (by decide)), (fun j h => by cases h)⟩
                · intro w39 hE
                  have hE := hE rfl
                  have hS := hS.grow hE
                  rintro _ rfl
                  rintro _ rfl
                  intro RR
                  refine WL.pass rfl rfl rfl ?_
                  exact WL.done ⟨_, rfl, ext_refl _, rfl, (fun h => absurd h (by decide)), (fun j h => by cases h)⟩
                · intro w40 hE
                  rintro _ rfl
                  intro RR
                  refine WL.pass rfl rfl rfl ?_
                  exact WL.done ⟨_, rfl, rfl, rfl, (fun h => absurd h (by decide)), (fun j h => by cases h)⟩
                · intro w41 hE
                  rintro _ rfl
                  rintro _ rfl
                  rintro _ rfl
                  intro RR
                  refine WL.pass rfl rfl rfl ?_
                  exact WL.done ⟨_, rfl, rfl, rfl, (fun h => absurd h (by decide)), (fun j h => by cases h)⟩
                · intro w42 hE
                  have hE := hE rfl
                  have hS := hS.grow hE
                  rintro _ rfl
                  rintro _ rfl
                  intro RR
                  refine WL.pass rfl rfl rfl ?_
                  exact WL.done ⟨_, rfl, ext_refl _, rfl, (fun h => absurd h (by decide)), (fun j h => by cases h)⟩
                · intro w43 hE
                  rintro _ rfl
                  intro RR
                  refine WL.pass rfl rfl rfl ?_
                  exact WL.done ⟨_, rfl, rfl, rfl, (fun h => absurd h (by decide)), (fun j h => by cases h)⟩
                · intro w44 hE
                  have hE := hE rfl
                  have hS := hS.grow hE
                  rintro _ rfl
                  rintro _ rfl
                  intro RR
                  refine WL.pass rfl rfl rfl ?_
                  exact WL.done ⟨_, rfl, ext_refl _, rfl, (fun h => absurd h (by decide)), (fun j h => by cases h)⟩
                · intro w45 hE
                  rintro _ rfl
                  rintro _ rfl
                  rintro _ rfl
                  intro RR
                  refine WL.pass rfl rfl rfl ?_
                  exact WL.done ⟨_, rfl, rfl, rfl, (fun h => absurd h (by decide)), (fun j h => by cases h)⟩
                · intro w46 hE
                  rintro _ rfl
                  rintro _ rfl
                  intro RR
                  refine WL.pick rfl rfl rfl ?_
                  exact WL.done ⟨_, rfl, rfl, rfl, (fun h => absurd h (by decide)), (fun j h => by cases h)⟩
              · intro vals w47 hT hVs hAp hCp
                have hS := hS.grow hT
                have hv0 : vals 0 = _ := hVs 0 (by decide)
                have hv1 : vals 1 = _ := hVs 1 (by decide)
                have hv2 : vals 2 = _ := hVs 2 (by decide)
                have hv3 : vals 3 = _ := hVs 3 (by decide)
                have hv4 : vals 4 = _ := hVs 4 (by decide)
                have hv5 : vals 5 = _ := hVs 5 (by decide)
                have hv6 : vals 6 = _ := hVs 6 (by decide)
                have hv7 : vals 7 = _ := hVs 7 (by decide)
                have hv8 : vals 8 = _ := hVs 8 (by decide)
                have hv9 : vals 9 = _ := hVs 9 (by decide)
                have hv10 : vals 10 = _ := hVs 10 (by decide)
                have hv11 : vals 11 = _ := hVs 11 (by decide)
                have hv12 : vals 12 = _ := hVs 12 (by decide)
                have hv13 : vals 13 = _ := hVs 13 (by decide)
                have hv14 : vals 14 = _ := hVs 14 (by decide)
                have hv15 : vals 15 = _ := hVs 15 (by decide)
                rw [show (List.filterMap (fun i => Option.map (fun t => (t, vals i)) (dstAt _ i)) (List.range _)) = [(32, .pointer (some ((⟨g11, 0, none⟩ : Addr).add 2))), (33, .slice Af mf.length kf), (34, .int .i64 z24), (35, .pointer (some ((adOf Af).add z24.toNat))), (36, .int .i64 (gi mf z24)), (37, .bool true), (38, .bool true), (39, undef), (40, undef), (41, undef), (42, undef), (43, undef), (44, undef), (45, undef), (46, undef), (47, .bool true)] from by
                  show [(32, vals 0), (33, vals 1), (34, vals 2), (35, vals 3), (36, vals 4), (37, vals 5), (38, vals 6), (39, vals 7), (40, vals 8), (41, vals 9), (42, vals 10), (43, vals 11), (44, vals 12), (45, vals 13), (46, vals 14), (47, vals 15)] = _
                  rw [hv0, hv1, hv2, hv3, hv4, hv5, hv6, hv7, hv8, hv9, hv10, hv11, hv12, hv13, hv14, hv15]]
                refine WA.done (by decide +kernel) ?_
                refine W.condT rfl ?_
                refine W.seq ?_
                refine W.region ?_
                refine WL.assign rfl rfl ?_
                refine WL.done ?_
                refine W.ret ?_
                refine ⟨_, rfl, Fin.nil ?_⟩
                exact ⟨_, hS.ext, (hS.pick [] rfl).rows, News.of (hS.pick [] rfl).rows rfl, ⟨(1 : Int), rfl, rfl, hv⟩⟩
            · have hv := hv.2 g29
              obtain ⟨o52, hv⟩ := hv
              obtain ⟨o60, hv⟩ := hv
              have hS0 := hS
              refine W.drawX 16 (fun _ => false) (fun _ => none) [⟨[], [1], true⟩, ⟨[0], [], false⟩, ⟨[], [3], true⟩, ⟨[1, 2], [], true⟩, ⟨[3], [], false⟩, ⟨[4], [], true⟩, ⟨[5], [], true⟩, ⟨[6], [1], true⟩, ⟨[6, 7], [], false⟩, ⟨[6], [3], true⟩, ⟨[6, 8, 9], [], true⟩, ⟨[6, 10], [], false⟩, ⟨[6], [1], true⟩, ⟨[6, 12], [], false⟩, ⟨[6, 11, 13], [], true⟩, ⟨[6, 14], [], true⟩] [[(1, .pointer (some ⟨g11, 0, none⟩))], [], [(3, .int .i64 z24)], [], [], [], [], [(1, .pointer (some ⟨g11, 0, none⟩))], [], [(3, .int .i64 z24)], [], [], [(1, .pointer (some ⟨g11, 0, none⟩))], [], [], []] (fun iQ => [fun v _ => v = .pointer (some ((⟨g11, 0, none⟩ : Addr).add 2)), fun v _ => v = .slice Af mf.length kf, fun v _ => v = .int .i64 z24, fun v _ => v = .pointer (some ((adOf Af).add z24.toNat)), fun v _ => v = .int .i64 (gi mf z24), fun v _ => v = .bool false, fun v _ => v = .bool false, fun v _ => v = .pointer (some ((⟨g11, 0, none⟩ : Addr).add 2)), fun v _ => v = .slice Af mf.length kf, fun v _ => v = .int .i64 z24, fun v _ => v = .pointer (some ((adOf Af).add z24.toNat)), fun v _ => v = .int .i64 (gi mf z24), fun v _ => v = .pointer (some ⟨g11, 0, none⟩), fun v _ => v = .int .i64 Pf, fun v _ => v = .bool (decide (Pf ≤ (gi mf z24))), fun v _ => v = .bool (decide (Pf ≤ (gi mf z24)))].getD iQ (fun _ _ => True)) Try.mixed (by kernel_rfl) ?_ (by kernel_rfl) ?_ ?_
              · refine Vs_monoT _ ?_
                intro VQ hVQ vQ wQ1 wQ2 hQ1 hQ2
                simp only [List.mem_cons, List.not_mem_nil, or_false] at hVQ
                rcases hVQ with rfl | rfl | rfl | rfl | rfl | rfl | rfl | rfl | rfl | rfl | rfl | rfl | rfl | rfl | rfl | rfl
                · exact hQ1
                · exact hQ1
                · exact hQ1
                · exact hQ1
                · exact hQ1
                · exact hQ1
                · exact hQ1
                · exact hQ1
                · exact hQ1
                · exact hQ1
                · exact hQ1
                · exact hQ1
                · exact hQ1
                · exact hQ1
                · exact hQ1
                · exact hQ1
              · refine ⟨⟨rfl, ⟨rfl, trivial⟩, ?_⟩, ⟨rfl, trivial, ?_⟩, ⟨rfl, ⟨rfl, trivial⟩, ?_⟩, ⟨rfl, trivial, ?_⟩, ⟨rfl, trivial, ?_⟩, ⟨rfl, trivial, ?_⟩, ⟨rfl, trivial, ?_⟩, ⟨rfl, ⟨rfl, trivial⟩, ?_⟩, ⟨rfl, trivial, ?_⟩, ⟨rfl, ⟨rfl, trivial⟩, ?_⟩, ⟨rfl, trivial, ?_⟩, ⟨rfl, trivial, ?_⟩, ⟨rfl, ⟨rfl, trivial⟩, ?_⟩, ⟨rfl, trivial, ?_⟩, ⟨rfl, trivial, ?_⟩, ⟨rfl, trivial, ?_⟩, trivial⟩
                · intro w48 hE
                  intro RR
                  refine WL.fieldA (off := 2) Try.fla24_2 rfl rfl ?_
                  exact WL.done ⟨_, rfl, rfl, rfl, (fun h => absurd h (by decide)), (fun j h => by cases h)⟩
                · intro w49 hE
                  have hE := hE rfl
                  have hS := hS.grow hE
                  rintro _ rfl
                  intro RR
                  refine WL.load Try.underlying22 rfl rfl (Own.vcells (hS.own (i := 0) rfl) 2 _ rfl) rfl ?_
                  exact WL.done ⟨_, rfl, ext_refl _, rfl, (fun h => absurd h (by decide)), (fun j h => by cases h)⟩
                · intro w50 hE
                  intro RR
                  refine WL.move rfl rfl ?_
                  exact WL.done ⟨_, rfl, rfl, rfl, (fun h => absurd h (by decide)), (fun j h => by cases h)⟩
                · intro w51 hE
                  rintro _ rfl
                  rintro _ rfl
                  intro RR
                  refine SL.index Try.underlying22 Try.el3 (hS.ro hf) rfl rfl o52 rfl ?_
                  exact WL.done ⟨_, rfl, rfl, rfl, (fun h => absurd h (by decide)), (fun j h => by cases h)⟩
                · intro w53 hE
                  have hE := hE rfl
                  have hS := hS.grow hE
                  rintro _ rfl
                  intro RR
                  refine WL.load Try.underlying3 rfl rfl (Rd.gi (hS.ro hf) o52) rfl ?_
                  exact WL.done ⟨_, rfl, ext_refl _, rfl, (fun h => absurd h (by decide)), (fun j h => by cases h)⟩
                · intro w54 hE
                  rintro _ rfl
                  intro RR
                  refine WL.lssD rfl rfl rfl ?_; rw [decide_eq_false g29]
                  exact WL.done ⟨_, rfl, rfl, rfl, (fun h => absurd h (by decide)), (fun j h => by cases h)⟩
                · intro w55 hE
                  rintro _ rfl
                  intro RR
                  refine WL.move rfl rfl ?_
                  exact WL.done ⟨_, rfl, rfl, rfl, (fun h => absurd h (by decide)), (fun j h => by cases h)⟩
                · intro w56 hE
                  rintro _ rfl
                  intro RR
                  refine WL.take rfl ?_
                  refine WL.fieldA (off := 2) Try.fla24_2 rfl rfl ?_
                  exact WL.done ⟨_, rfl, rfl, rfl, (fun h => absurd h (by decide)), (fun j h => by cases h)⟩
                · intro w57 hE
                  have hE := hE rfl
                  have hS := hS.grow hE
                  rintro _ rfl
                  rintro _ rfl
                  intro RR
                  refine WL.take rfl ?_
                  refine WL.load Try.underlying22 rfl rfl (Own.vcells (hS.own (i := 0) rfl) 2 _ rfl) rfl ?_
                  exact WL.done ⟨_, rfl, ext_refl _, rfl, (fun h => absurd h (by decide)), (fun j h => by cases h)⟩
                · intro w58 hE
                  rintro _ rfl
                  intro RR
                  refine WL.take rfl ?_
                  refine WL.move rfl rfl ?_
                  exact WL.done ⟨_, rfl, rfl, rfl, (fun h => absurd h (by decide)), (fun j h => by cases h)⟩
                · intro w59 hE
                  rintro _ rfl
                  rintro _ rfl
                  rintro _ rfl
                  intro RR
                  refine WL.take rfl ?_
                  refine SL.index Try.underlying22 Try.el3 (hS.ro hf) rfl rfl o60 rfl ?_
                  exact WL.done ⟨_, rfl, rfl, rfl, (fun h => absurd h (by decide)), (fun j h => by cases h)⟩
                · intro w61 hE
                  have hE := hE rfl
                  have hS := hS.grow hE
                  rintro _ rfl
                  rintro _ rfl
                  intro RR
                  refine WL.take rfl ?_
                  refine WL.load Try.underlying3 rfl rfl (Rd.gi (hS.ro hf) o60) rfl ?_
                  exact WL.done ⟨_, rfl, ext_refl _, rfl, (fun h => absurd h (by decide)), (fun j h => by cases h)⟩
                · intro w62 hE
                  rintro _ rfl
                  intro RR
                  refine WL.take rfl ?_
                  refine WL.fieldA (off := 0) Try.fla24_0 rfl rfl ?_
                  exact WL.done ⟨_, rfl, rfl, rfl, (fun h => absurd h (by decide)), (fun j h => by cases h)⟩
                · intro w63 hE
                  have hE := hE rfl
                  have hS := hS.grow hE
                  rintro _ rfl
                  rintro _ rfl
                  intro RR
                  refine WL.take rfl ?_
                  refine WL.load Try.underlying3 rfl rfl (Own.vcells (hS.own (i := 0) rfl) 0 _ rfl) rfl ?_
                  exact WL.done ⟨_, rfl, ext_refl _, rfl, (fun h => absurd h (by decide)), (fun j h => by cases h)⟩
                · intro w64 hE
                  rintro _ rfl
                  rintro _ rfl
                  rintro _ rfl
                  intro RR
                  refine WL.take rfl ?_
                  refine WL.geqD rfl rfl rfl ?_
                  exact WL.done ⟨_, rfl, rfl, rfl, (fun h => absurd h (by decide)), (fun j h => by cases h)⟩
                · intro w65 hE
                  rintro _ rfl
                  rintro _ rfl
                  intro RR
                  refine WL.pick rfl rfl rfl ?_
                  exact WL.done ⟨_, rfl, rfl, rfl, (fun h => absurd h (by decide)), (fun j h => by cases h)⟩
              · intro vals w66 hT hVs hAp hCp
                have hS := hS.grow hT
                have hv0 : vals 0 = _ := hVs 0 (by decide)
                have hv1 : vals 1 = _ := hVs 1 (by decide)
                have hv2 : vals 2 = _ := hVs 2 (by decide)
                have hv3 : vals 3 = _ := hVs 3 (by decide)
                have hv4 : vals 4 = _ := hVs 4 (by decide)
                have hv5 : vals 5 = _ := hVs 5 (by decide)
                have hv6 : vals 6 = _ := hVs 6 (by decide)
                have hv7 : vals 7 = _ := hVs 7 (by decide)
                have hv8 : vals 8 = _ := hVs 8 (by decide)
                have hv9 : vals 9 = _ := hVs 9 (by decide)
                have hv10 : vals 10 = _ := hVs 10 (by decide)
                have hv11 : vals 11 = _ := hVs 11 (by decide)
                have hv12 : vals 12 = _ := hVs 12 (by decide)
                have hv13 : vals 13 = _ := hVs 13 (by decide)
                have hv14 : vals 14 = _ := hVs 14 (by decide)
                have hv15 : vals 15 = _ := hVs 15 (by decide)
                rw [show (List.filterMap (fun i => Option.map (fun t => (t, vals i)) (dstAt _ i)) (List.range _)) = [(32, .pointer (some ((⟨g11, 0, none⟩ : Addr).add 2))), (33, .slice Af mf.length kf), (34, .int .i64 z24), (35, .pointer (some ((adOf Af).add z24.toNat))), (36, .int .i64 (gi mf z24)), (37, .bool false), (38, .bool false), (39, .pointer (some ((⟨g11, 0, none⟩ : Addr).add 2))), (40, .slice Af mf.length kf), (41, .int .i64 z24), (42, .pointer (some ((adOf Af).add z24.toNat))), (43, .int .i64 (gi mf z24)), (44, .pointer (some ⟨g11, 0, none⟩)), (45, .int .i64 Pf), (46, .bool (decide (Pf ≤ (gi mf z24)))), (47, .bool (decide (Pf ≤ (gi mf z24))))] from by
                  show [(32, vals 0), (33, vals 1), (34, vals 2), (35, vals 3), (36, vals 4), (37, vals 5), (38, vals 6), (39, vals 7), (40, vals 8), (41, vals 9), (42, vals 10), (43, vals 11), (44, vals 12), (45, vals 13), (46, vals 14), (47, vals 15)] = _
                  rw [hv0, hv1, hv2, hv3, hv4, hv5, hv6, hv7, hv8, hv9, hv10, hv11, hv12, hv13, hv14, hv15]]
                refine WA.done (by decide +kernel) ?_
                refine W.cond2 rfl (fun c67 => ?_) (fun c67 => ?_)
                · have hv := hv.1 (of_decide_eq_true c67)
                  refine W.seq ?_
                  refine W.region ?_
                  refine WL.assign rfl rfl ?_
                  refine WL.done ?_
                  refine W.ret ?_
                  refine ⟨_, rfl, Fin.nil ?_⟩
                  exact ⟨_, hS.ext, (hS.pick [] rfl).rows, News.of (hS.pick [] rfl).rows rfl, ⟨(1 : Int), rfl, rfl, hv⟩⟩
                · have hv := hv.2 (of_decide_eq_false c67)
                  refine W.skip ?_
                  refine W.region ?_
                  refine WL.move rfl rfl ?_
                  obtain ⟨o68, hv⟩ := hv
                  refine WL.add (r := (z24 + (1 : Int))) rfl rfl (wr o68) rfl ?_
                  refine WL.assign rfl rfl ?_
                  refine WL.done ?_
                  change St _ _ _ _ [.row 24 3 (some ⟨g11, 0, none⟩) 1 1 [.int .i64 Pf, .int .i64 Mf, .slice Af mf.length kf]] at hS
                  exact ⟨(z24 + (1 : Int)), ⟨rfl, rfl, rfl, trivial⟩, hv.2, rfl, hv.1, hS⟩
          · have hv := hv.2 (of_decide_eq_false c28)
            refine W.exit ?_
            refine W.seq ?_
            refine W.seq ?_
            refine W.region ?_
            refine WL.fieldA (off := 2) Try.fla24_2 rfl rfl ?_
            refine WL.load Try.underlying22 rfl rfl (Own.vcells (hS.own (i := 0) rfl) 2 _ rfl) rfl ?_
            refine WL.fieldA (off := 0) Try.fla24_0 rfl rfl ?_
            refine WL.load Try.underlying3 rfl rfl (Own.vcells (hS.own (i := 0) rfl) 0 _ rfl) rfl ?_
            refine SL.call hS (ok_rirr (hS.ro hf) hv) Try.func65 rfl Try.nm65 rfl rfl ?_
            rintro _ _ w69 ⟨r70, rfl, rfl, hv⟩ hGw69 hS
            change St _ _ _ _ [.row 24 3 (some ⟨g11, 0, none⟩) 1 1 [.int .i64 Pf, .int .i64 Mf, .slice Af mf.length kf]] at hS
            refine WL.not rfl rfl ?_
            refine WL.done ?_
            refine W.cond2 rfl (fun c71 => ?_) (fun c71 => ?_)
            · have hv := hv.1 (c71)
              refine W.seq ?_
              refine W.region ?_
              refine WL.assign rfl rfl ?_
              refine WL.done ?_
              refine W.ret ?_
              refine ⟨_, rfl, Fin.nil ?_⟩
              exact ⟨_, hS.ext, (hS.pick [] rfl).rows, News.of (hS.pick [] rfl).rows rfl, ⟨(1 : Int), rfl, rfl, hv⟩⟩
            · have hv := hv.2 (c71)
              refine W.skip ?_
              refine W.seq ?_
              refine W.region ?_
              refine WL.assign rfl rfl ?_
              refine WL.done ?_
              refine W.ret ?_
              refine ⟨_, rfl, Fin.nil ?_⟩
              exact ⟨_, hS.ext, (hS.pick [] rfl).rows, News.of (hS.pick [] rfl).rows rfl, ⟨(0 : Int), rfl, rfl, hv⟩⟩

def V_rIs (Pf : Int) (Mf : Int) (mf : List Int) (x : Int) (Q : Bool → Prop) : Prop :=
  (((0 : Int) ≤ x) → (V_rOrder Pf Mf mf (fun r15 => Q (decide (x < r15))))) ∧ (¬ ((0 : Int) ≤ x) → Q false)
theorem ok_rIs {w : World} {Q : Bool → Prop} {Pf : Int} {Mf : Int} {mf : List Int} {x : Int} {Bf : Nat} {Af : Option Addr} {nf kf : Nat} (hf : Rd Bf w 1 Af nf kf (is mf)) (hv : V_rIs Pf Mf mf x Q) :
    Calls Try.prog 49 #[.agg #[.int .i64 Pf, .int .i64 Mf, .slice Af nf kf], .int .i64 x] w fun e w' => ∃ v Qr, e = .returned v ∧ w.grownBy w' none ∧ Rows w.heap.size none w' Qr ∧ News w.heap.size Qr ∧ ∃ (r0 : Bool), v = .bool r0 ∧ Qr = [] ∧ Q r0 := by
  have hnf := hf.ilen
  subst hnf
  refine calls_swap ?_
  refine calls_of_W (vs := [.agg #[.int .i64 Pf, .int .i64 Mf, .slice Af mf.length kf], .int .i64 x]) [4] Try.func49 rfl rfl rfl rfl ?_
  have hS := St.start w
  unfold V_rIs at hv
  refine W.seq ?_
  refine W.region ?_
  refine SL.box (z := 3) (cs := [.int .i64 Pf, .int .i64 Mf, .slice Af mf.length kf]) hS rfl rfl rfl rfl ?_
  intro g11 w12 hS
  refine WL.assign rfl rfl ?_
  refine WL.done ?_
  refine W.seq ?_
  refine W.region ?_
  refine WL.move rfl rfl ?_
  refine WL.geqD rfl rfl rfl ?_
  refine WL.move rfl rfl ?_
  by_cases g13 : (0 : Int) ≤ x
  · have hv := hv.1 g13
    rw [decide_eq_true g13]
    refine WL.take rfl ?_
    refine WL.move rfl rfl ?_
    refine WL.take rfl ?_
    refine WL.loadV (cs := [.int .i64 Pf, .int .i64 Mf, .slice Af mf.length kf]) Try.el24 Try.agg24 rfl rfl (Own.vcells (hS.own (i := 0) rfl)) rfl ?_
    refine WL.take rfl ?_
    refine SL.call hS (ok_rOrder (hS.ro hf) hv) Try.func26 rfl Try.nm26 rfl rfl ?_
    rintro _ _ w14 ⟨r15, rfl, rfl, hv⟩ hGw14 hS
    change St _ _ _ _ [.row 24 3 (some ⟨g11, 0, none⟩) 1 1 [.int .i64 Pf, .int .i64 Mf, .slice Af mf.length kf]] at hS
    refine WL.take rfl ?_
    refine WL.lssD rfl rfl rfl ?_
    refine WL.pick rfl rfl rfl ?_
    refine WL.assign rfl rfl ?_
    refine WL.done ?_
    refine W.ret ?_
    refine ⟨_, rfl, Fin.nil ?_⟩
    exact ⟨_, hS.ext, (hS.pick [] rfl).rows, News.of (hS.pick [] rfl).rows rfl, ⟨(decide (x < r15)), rfl, rfl, hv⟩⟩
  · have hv := hv.2 g13
    rw [decide_eq_false g13]
    refine WL.pass rfl rfl rfl ?_
    refine WL.pass rfl rfl rfl ?_
    refine WL.pass rfl rfl rfl ?_
    refine WL.pass rfl rfl rfl ?_
    refine WL.pick rfl rfl rfl ?_
    refine WL.assign rfl rfl ?_
    refine WL.done ?_
    refine W.ret ?_
    refine ⟨_, rfl, Fin.nil ?_⟩
    exact ⟨_, hS.ext, (hS.pick [] rfl).rows, News.of (hS.pick [] rfl).rows rfl, ⟨false, rfl, rfl, hv⟩⟩

def V_rIn (Pf : Int) (Mf : Int) (mf : List Int) (x : Int) (Q : Int → Prop) : Prop :=
  V_rIs Pf Mf mf x (fun r14 => ((r14 = true) → Q x) ∧ (r14 = false → (Q (0 : Int))))
theorem ok_rIn {w : World} {Q : Int → Prop} {Pf : Int} {Mf : Int} {mf : List Int} {x : Int} {Bf : Nat} {Af : Option Addr} {nf kf : Nat} (hf : Rd Bf w 1 Af nf kf (is mf)) (hv : V_rIn Pf Mf mf x Q) :
    Calls Try.prog 24 #[.agg #[.int .i64 Pf, .int .i64 Mf, .slice Af nf kf], .int .i64 x] w fun e w' => ∃ v Qr, e = .returned v ∧ w.grownBy w' none ∧ Rows w.heap.size none w' Qr ∧ News w.heap.size Qr ∧ ∃ (r0 : Int), v = .int .i64 r0 ∧ Qr = [] ∧ Q r0 := by
  have hnf := hf.ilen
  subst hnf
  refine calls_swap ?_
  refine calls_of_W (vs := [.agg #[.int .i64 Pf, .int .i64 Mf, .slice Af mf.length kf], .int .i64 x]) [4] Try.func24 rfl rfl rfl rfl ?_
  have hS := St.start w
  unfold V_rIn at hv
  refine W.seq ?_
  refine W.region ?_
  refine SL.box (z := 3) (cs := [.int .i64 Pf, .int .i64 Mf, .slice Af mf.length kf]) hS rfl rfl rfl rfl ?_
  intro g11 w12 hS
  refine WL.assign rfl rfl ?_
  refine WL.done ?_
  refine W.seq ?_
  refine W.seq ?_
  refine W.region ?_
  refine WL.loadV (cs := [.int .i64 Pf, .int .i64 Mf, .slice Af mf.length kf]) Try.el24 Try.agg24 rfl rfl (Own.vcells (hS.own (i := 0) rfl)) rfl ?_
  refine WL.move rfl rfl ?_
  refine SL.call hS (ok_rIs (hS.ro hf) hv) Try.func49 rfl Try.nm49 rfl rfl ?_
  rintro _ _ w13 ⟨r14, rfl, rfl, hv⟩ hGw13 hS
  change St _ _ _ _ [.row 24 3 (some ⟨g11, 0, none⟩) 1 1 [.int .i64 Pf, .int .i64 Mf, .slice Af mf.length kf]] at hS
  refine WL.done ?_
  refine W.cond2 rfl (fun c15 => ?_) (fun c15 => ?_)
  · have hv := hv.1 (c15)
    refine W.seq ?_
    refine W.region ?_
    refine WL.move rfl rfl ?_
    refine WL.assign rfl rfl ?_
    refine WL.done ?_
    refine W.ret ?_
    refine ⟨_, rfl, Fin.nil ?_⟩
    exact ⟨_, hS.ext, (hS.pick [] rfl).rows, News.of (hS.pick [] rfl).rows rfl, ⟨x, rfl, rfl, hv⟩⟩
  · have hv := hv.2 (c15)
    refine W.skip ?_
    refine W.seq ?_
    refine W.region ?_
    refine WL.assign rfl rfl ?_
    refine WL.done ?_
    refine W.ret ?_
    refine ⟨_, rfl, Fin.nil ?_⟩
    exact ⟨_, hS.ext, (hS.pick [] rfl).rows, News.of (hS.pick [] rfl).rows rfl, ⟨(0 : Int), rfl, rfl, hv⟩⟩

def V_rDigits (Pf : Int) (Mf : Int) (mf : List Int) (x : Int) (Q : List Int → Prop) : Prop :=
  ∃ (r16 : Int), V_rIn Pf Mf mf x (fun q => q = r16) ∧ (∃ (x24 : List Int), V_rdigits r16 Pf Mf (fun q => q = x24) ∧ Q x24)
theorem ok_rDigits {w : World} {Q : List Int → Prop} {Pf : Int} {Mf : Int} {mf : List Int} {x : Int} {Bf : Nat} {Af : Option Addr} {nf kf : Nat} (hf : Rd Bf w 1 Af nf kf (is mf)) (hv : V_rDigits Pf Mf mf x Q) :
    Calls Try.prog 57 #[.agg #[.int .i64 Pf, .int .i64 Mf, .slice Af nf kf], .int .i64 x] w fun e w' => ∃ v Qr, e = .returned v ∧ w.grownBy w' none ∧ Rows w.heap.size none w' Qr ∧ News w.heap.size Qr ∧ ∃ (x : List Int)  (A : Option Addr) (c : Nat), v = .slice A x.length c ∧ Qr = [.row 3 1 A x.length c (is x)] ∧ Q x := by
  have hnf := hf.ilen
  subst hnf
  refine calls_swap ?_
  refine calls_of_W (vs := [.agg #[.int .i64 Pf, .int .i64 Mf, .slice Af mf.length kf], .int .i64 x]) [4] Try.func57 rfl rfl rfl rfl ?_
  have hS := St.start w
  unfold V_rDigits at hv
  refine W.seq ?_
  refine W.region ?_
  refine SL.box (z := 3) (cs := [.int .i64 Pf, .int .i64 Mf, .slice Af mf.length kf]) hS rfl rfl rfl rfl ?_
  intro g11 w12 hS
  refine WL.assign rfl rfl ?_
  refine WL.done ?_
  refine W.seq ?_
  obtain ⟨r16, o18, hv⟩ := hv
  obtain ⟨x24, o31, hv⟩ := hv
  have hS0 := hS
  refine W.drawX 9 (fun iA => [false, false, false, false, false, false, false, true, false].getD iA false) (fun iC => match iC with | 8 => some 7 | _ => none) [⟨[], [2], false⟩, ⟨[], [1], true⟩, ⟨[0, 1], [], false⟩, ⟨[], [2], true⟩, ⟨[3], [], false⟩, ⟨[], [2], true⟩, ⟨[5], [], false⟩, ⟨[2, 4, 6], [], false⟩, ⟨[7], [], true⟩] [[(2, .pointer (some ⟨g11, 0, none⟩))], [(1, .int .i64 x)], [], [(2, .pointer (some ⟨g11, 0, none⟩))], [], [(2, .pointer (some ⟨g11, 0, none⟩))], [], [], []] (fun iQ => [fun v _ => v = .agg #[.int .i64 Pf, .int .i64 Mf, .slice Af mf.length kf], fun v _ => v = .int .i64 x, fun v _ => v = .int .i64 r16, fun v _ => v = .pointer (some ⟨g11, 0, none⟩), fun v _ => v = .int .i64 Pf, fun v _ => v = .pointer (some ((⟨g11, 0, none⟩ : Addr).add 1)), fun v _ => v = .int .i64 Mf, fun v wQ => ∃ A25_7 k26_7, v = .slice A25_7 x24.length k26_7 ∧ Own 0 wQ 3 1 A25_7 x24.length k26_7 (is x24) ∧ (∀ g, bl A25_7 = some g → w12.heap.size ≤ g), fun v wQ => ∃ A25_7_8 k26_7_8, v = .slice A25_7_8 x24.length k26_7_8 ∧ Own 0 wQ 3 1 A25_7_8 x24.length k26_7_8 (is x24) ∧ (∀ g, bl A25_7_8 = some g → w12.heap.size ≤ g)].getD iQ (fun _ _ => True)) Try.mixed (by kernel_rfl) ?_ (by kernel_rfl) ?_ ?_
  · refine Vs_monoT _ ?_
    intro VQ hVQ vQ wQ1 wQ2 hQ1 hQ2
    simp only [List.mem_cons, List.not_mem_nil, or_false] at hVQ
    rcases hVQ with rfl | rfl | rfl | rfl | rfl | rfl | rfl | rfl | rfl
    · exact hQ1
    · exact hQ1
    · exact hQ1
    · exact hQ1
    · exact hQ1
    · exact hQ1
    · exact hQ1
    · obtain ⟨A25_7, k26_7, hQe, hO29_7, hN30_7⟩ := hQ1
      exact ⟨A25_7, k26_7, hQe, hO29_7.ext hQ2, hN30_7⟩
    · obtain ⟨A25_7_8, k26_7_8, hQe, hO29_7_8, hN30_7_8⟩ := hQ1
      exact ⟨A25_7_8, k26_7_8, hQe, hO29_7_8.ext hQ2, hN30_7_8⟩
  · refine ⟨⟨rfl, ⟨rfl, trivial⟩, ?_⟩, ⟨rfl, ⟨rfl, trivial⟩, ?_⟩, ⟨rfl, trivial, ?_⟩, ⟨rfl, ⟨rfl, trivial⟩, ?_⟩, ⟨rfl, trivial, ?_⟩, ⟨rfl, ⟨rfl, trivial⟩, ?_⟩, ⟨rfl, trivial, ?_⟩, ⟨rfl, trivial, ?_⟩, ⟨rfl, trivial, ?_⟩, trivial⟩
    · intro w13 hE
      have hE := hE rfl
      have hS := hS.grow hE
      intro RR
      refine WL.loadV (cs := [.int .i64 Pf, .int .i64 Mf, .slice Af mf.length kf]) Try.el24 Try.agg24 rfl rfl (Own.vcells (hS.own (i := 0) rfl)) rfl ?_
      exact WL.done ⟨_, rfl, ext_refl _, rfl, (fun h => absurd h (by decide)), (fun j h => by cases h)⟩
    · intro w14 hE
      intro RR
      refine WL.move rfl rfl ?_
      exact WL.done ⟨_, rfl, rfl, rfl, (fun h => absurd h (by decide)), (fun j h => by cases h)⟩
    · intro w15 hE
      have hE := hE rfl
      have hS := hS.grow hE
      rintro _ rfl
      rintro _ rfl
      intro RR
      refine WL.call Try.func24 rfl Try.nm24 rfl rfl (calls_un (ok_rIn (hS.ro hf) o18)) ?_
      rintro _ w17 ⟨_, hGw17, hRww17, hNww17, r16q, rfl, rfl, he⟩
      subst he
      exact WL.done ⟨_, rfl, hGw17, rfl, (fun h => absurd h (by decide)), (fun j h => by cases h)⟩
    · intro w19 hE
      intro RR
      refine WL.fieldA (off := 0) Try.fla24_0 rfl rfl ?_
      exact WL.done ⟨_, rfl, rfl, rfl, (fun h => absurd h (by decide)), (fun j h => by cases h)⟩
    · intro w20 hE
      have hE := hE rfl
      have hS := hS.grow hE
      rintro _ rfl
      intro RR
      refine WL.load Try.underlying3 rfl rfl (Own.vcells (hS.own (i := 0) rfl) 0 _ rfl) rfl ?_
      exact WL.done ⟨_, rfl, ext_refl _, rfl, (fun h => absurd h (by decide)), (fun j h => by cases h)⟩
    · intro w21 hE
      intro RR
      refine WL.fieldA (off := 1) Try.fla24_1 rfl rfl ?_
      exact WL.done ⟨_, rfl, rfl, rfl, (fun h => absurd h (by decide)), (fun j h => by cases h)⟩
    · intro w22 hE
      have hE := hE rfl
      have hS := hS.grow hE
      rintro _ rfl
      intro RR
      refine WL.load Try.underlying3 rfl rfl (Own.vcells (hS.own (i := 0) rfl) 1 _ rfl) rfl ?_
      exact WL.done ⟨_, rfl, ext_refl _, rfl, (fun h => absurd h (by decide)), (fun j h => by cases h)⟩
    · intro w23 hE
      have hE := hE rfl
      have hS := hS.grow hE
      rintro _ rfl
      rintro _ rfl
      rintro _ rfl
      intro RR
      refine WL.call Try.func69 rfl Try.nm69 rfl rfl (calls_un (ok_rdigits  o31)) ?_
      rintro _ w28 ⟨_, hGw28, hRww28, hNww28, x24q, A25, k26, rfl, rfl, he⟩
      subst he
      have hO29 := (hRww28.get (i := 0) rfl).1
      have hN30 : ∀ g, bl A25 = some g → _ ≤ g := fun g hg => Nat.le_trans hE.size (hNww28.1 g hg)
      exact WL.done ⟨_, rfl, hGw28, ⟨A25, k26, rfl, hO29, hN30⟩, (fun _ => fun g hg => ⟨hNww28.1 g hg, (hO29.bl_ge g hg).2⟩), (fun j h => by cases h)⟩
    · intro w32 hE
      rintro _ ⟨A25_7, k26_7, rfl, hO29_7, hN30_7⟩
      intro RR
      refine WL.assign rfl rfl ?_
      exact WL.done ⟨_, rfl, rfl, ⟨A25_7, k26_7, rfl, hO29_7, hN30_7⟩, (fun h => absurd h (by decide)), (fun j h => by cases h; rfl)⟩
  · intro vals w33 hT hVs hAp hCp
    have hS := hS.grow hT
    have hv0 : vals 0 = _ := hVs 0 (by decide)
    have hv1 : vals 1 = _ := hVs 1 (by decide)
    have hv2 : vals 2 = _ := hVs 2 (by decide)
    have hv3 : vals 3 = _ := hVs 3 (by decide)
    have hv4 : vals 4 = _ := hVs 4 (by decide)
    have hv5 : vals 5 = _ := hVs 5 (by decide)
    have hv6 : vals 6 = _ := hVs 6 (by decide)
    obtain ⟨A25_7, k26_7, hv7, hO29_7, hN30_7⟩ := hVs 7 (by decide)
    have hv8 : vals 8 = .slice A25_7 x24.length k26_7 := (hCp 8 7 (by decide) rfl).trans hv7
    have hS := St.addOwn [] hS0 hS hO29_7 hN30_7 (fun s hs => by cases hs)
    change St _ _ _ _ [.row 3 1 A25_7 x24.length k26_7 (is x24), .row 24 3 (some ⟨g11, 0, none⟩) 1 1 [.int .i64 Pf, .int .i64 Mf, .slice Af mf.length kf]] at hS
    rw [show (List.filterMap (fun i => Option.map (fun t => (t, vals i)) (dstAt _ i)) (List.range _)) = [(5, .agg #[.int .i64 Pf, .int .i64 Mf, .slice Af mf.length kf]), (6, .int .i64 x), (7, .int .i64 r16), (8, .pointer (some ⟨g11, 0, none⟩)), (9, .int .i64 Pf), (10, .pointer (some ((⟨g11, 0, none⟩ : Addr).add 1))), (11, .int .i64 Mf), (12, .slice A25_7 x24.length k26_7), (4, .slice A25_7 x24.length k26_7)] from by
      show [(5, vals 0), (6, vals 1), (7, vals 2), (8, vals 3), (9, vals 4), (10, vals 5), (11, vals 6), (12, vals 7), (4, vals 8)] = _
      rw [hv0, hv1, hv2, hv3, hv4, hv5, hv6, hv7, hv8]]
    refine WA.done (by decide +kernel) ?_
    refine W.ret ?_
    refine ⟨_, rfl, Fin.nil ?_⟩
    exact ⟨_, hS.ext, (hS.pick [0] rfl).rows, News.of (hS.pick [0] rfl).rows rfl, ⟨x24, A25_7, k26_7, rfl, rfl, hv⟩⟩

def V_rValue (Pf : Int) (Mf : Int) (mf : List Int) (l : List Int) (Q : Int → Prop) : Prop :=
  (I64 (((l.length : Nat) : Int) - (1 : Int))) ∧ (∃ (I20 : Int → Int → Prop) (μ21 : Int → Int → Nat), I20 (0 : Int) (((l.length : Nat) : Int) - (1 : Int)) ∧ ∀ (z18 : Int) (z19 : Int), (I20 z18 z19 → ((((0 : Int) ≤ z19) → ((I64 (z18 * Pf)) ∧ ((0 ≤ z19 ∧ z19 < (l.length : Nat)) ∧ ((I64 ((z18 * Pf) + (gi l z19))) ∧ ((I64 (z19 - (1 : Int))) ∧ (I20 ((z18 * Pf) + (gi l z19)) (z19 - (1 : Int)) ∧ μ21 ((z18 * Pf) + (gi l z19)) (z19 - (1 : Int)) < μ21 z18 z19)))))) ∧ (¬ ((0 : Int) ≤ z19) → Q z18))))
theorem ok_rValue {w : World} {Q : Int → Prop} {Pf : Int} {Mf : Int} {mf : List Int} {l : List Int} {Bf : Nat} {Af : Option Addr} {nf kf : Nat} (hf : Rd Bf w 1 Af nf kf (is mf)) {Bl : Nat} {Al : Option Addr} {nl kl : Nat} (hl : Rd Bl w 1 Al nl kl (is l)) (hv : V_rValue Pf Mf mf l Q) :
    Calls Try.prog 58 #[.agg #[.int .i64 Pf, .int .i64 Mf, .slice Af nf kf], .slice Al nl kl] w fun e w' => ∃ v Qr, e = .returned v ∧ w.grownBy w' none ∧ Rows w.heap.size none w' Qr ∧ News w.heap.size Qr ∧ ∃ (r0 : Int), v = .int .i64 r0 ∧ Qr = [] ∧ Q r0 := by
  have hnf := hf.ilen
  subst hnf
  have hnl := hl.ilen
  subst hnl
  refine calls_swap ?_
  refine calls_of_W (vs := [.agg #[.int .i64 Pf, .int .i64 Mf, .slice Af mf.length kf], .slice Al l.length kl]) [4] Try.func58 rfl rfl rfl rfl ?_
  have hS := St.start w
  unfold V_rValue at hv
  refine W.seq ?_
  refine W.region ?_
  refine SL.box (z := 3) (cs := [.int .i64 Pf, .int .i64 Mf, .slice Af mf.length kf]) hS rfl rfl rfl rfl ?_
  intro g11 w12 hS
  refine WL.assign rfl rfl ?_
  refine WL.done ?_
  refine W.seq ?_
  refine W.region ?_
  refine WL.assign rfl rfl ?_
  refine WL.done ?_
  refine W.seq ?_
  refine W.seq ?_
  refine W.region ?_
  refine WL.move rfl rfl ?_
  refine WL.len Try.underlying22 rfl rfl ?_
  obtain ⟨o13, hv⟩ := hv
  refine WL.sub (r := (((l.length : Nat) : Int) - (1 : Int))) rfl rfl (wr o13) rfl ?_
  refine WL.assign rfl rfl ?_
  refine WL.done ?_
  refine W.block ?_
  obtain ⟨I20, μ21, hv, hk39⟩ := hv
  change St _ _ _ _ [.row 24 3 (some ⟨g11, 0, none⟩) 1 1 [.int .i64 Pf, .int .i64 Mf, .slice Af mf.length kf]] at hS
  refine W.loop (σ := Int × Int) (fun q w1 => match q with | (z18, z19) => I20 z18 z19 ∧ St TT w none w1 [.row 24 3 (some ⟨g11, 0, none⟩) 1 1 [.int .i64 Pf, .int .i64 Mf, .slice Af mf.length kf]]) (fun q => match q with | (z18, z19) => [(1, .slice Al l.length kl), (2, .pointer (some ⟨g11, 0, none⟩)), (4, .int .i64 (0 : Int)), (5, .int .i64 z18), (6, .int .i64 z19)]) (fun q => match q with | (z18, z19) => μ21 z18 z19) ((0 : Int), (((l.length : Nat) : Int) - (1 : Int))) ⟨hv, hS⟩ ⟨rfl, rfl, rfl, rfl, rfl, trivial⟩ ?_
  rintro ⟨z18, z19⟩ w22 ⟨hv, hS⟩
  have hv := hk39 z18 z19 hv
  refine W.seq ?_
  refine W.seq ?_
  refine W.region ?_
  refine WL.move rfl rfl ?_
  refine WL.geqD rfl rfl rfl ?_
  refine WL.done ?_
  refine W.cond2 rfl (fun c23 => ?_) (fun c23 => ?_)
  · have hv := hv.1 (of_decide_eq_true c23)
    refine W.skip ?_
    refine W.seq ?_
    refine W.block ?_
    obtain ⟨o28, hv⟩ := hv
    obtain ⟨o32, hv⟩ := hv
    obtain ⟨o35, hv⟩ := hv
    have hS0 := hS
    refine W.drawX 10 (fun _ => false) (fun _ => none) [⟨[], [5], true⟩, ⟨[], [2], true⟩, ⟨[1], [], false⟩, ⟨[0, 2], [], true⟩, ⟨[], [1], true⟩, ⟨[], [6], true⟩, ⟨[4, 5], [], true⟩, ⟨[6], [], false⟩, ⟨[3, 7], [], true⟩, ⟨[8], [], true⟩] [[(5, .int .i64 z18)], [(2, .pointer (some ⟨g11, 0, none⟩))], [], [], [(1, .slice Al l.length kl)], [(6, .int .i64 z19)], [], [], [], []] (fun iQ => [fun v _ => v = .int .i64 z18, fun v _ => v = .pointer (some ⟨g11, 0, none⟩), fun v _ => v = .int .i64 Pf, fun v _ => v = .int .i64 (z18 * Pf), fun v _ => v = .slice Al l.length kl, fun v _ => v = .int .i64 z19, fun v _ => v = .pointer (some ((adOf Al).add z19.toNat)), fun v _ => v = .int .i64 (gi l z19), fun v _ => v = .int .i64 ((z18 * Pf) + (gi l z19)), fun v _ => v = .int .i64 ((z18 * Pf) + (gi l z19))].getD iQ (fun _ _ => True)) Try.mixed (by kernel_rfl) ?_ (by kernel_rfl) ?_ ?_
    · refine Vs_monoT _ ?_
      intro VQ hVQ vQ wQ1 wQ2 hQ1 hQ2
      simp only [List.mem_cons, List.not_mem_nil, or_false] at hVQ
      rcases hVQ with rfl | rfl | rfl | rfl | rfl | rfl | rfl | rfl | rfl | rfl
      · exact hQ1
      · exact hQ1
      · exact hQ1
      · exact hQ1
      · exact hQ1
      · exact hQ1
      · exact hQ1
      · exact hQ1
      · exact hQ1
      · exact hQ1
    · refine ⟨⟨rfl, ⟨rfl, trivial⟩, ?_⟩, ⟨rfl, ⟨rfl, trivial⟩, ?_⟩, ⟨rfl, trivial, ?_⟩, ⟨rfl, trivial, ?_⟩, ⟨rfl, ⟨rfl, trivial⟩, ?_⟩, ⟨rfl, ⟨rfl, trivial⟩, ?_⟩, ⟨rfl, trivial, ?_⟩, ⟨rfl, trivial, ?_⟩, ⟨rfl, trivial, ?_⟩, ⟨rfl, trivial, ?_⟩, trivial⟩
      · intro w24 hE
        intro RR
        refine WL.move rfl rfl ?_
        exact WL.done ⟨_, rfl, rfl, rfl, (fun h => absurd h (by decide)), (fun j h => by cases h)⟩
      · intro w25 hE
        intro RR
        refine WL.fieldA (off := 0) Try.fla24_0 rfl rfl ?_
        exact WL.done ⟨_, rfl, rfl, rfl, (fun h => absurd h (by decide)), (fun j h => by cases h)⟩
      · intro w26 hE
        have hE := hE rfl
        have hS := hS.grow hE
        rintro _ rfl
        intro RR
        refine WL.load Try.underlying3 rfl rfl (Own.vcells (hS.own (i := 0) rfl) 0 _ rfl) rfl ?_
        exact WL.done ⟨_, rfl, ext_refl _, rfl, (fun h => absurd h (by decide)), (fun j h => by cases h)⟩
      · intro w27 hE
        rintro _ rfl
        rintro _ rfl
        intro RR
        refine WL.mul (r := (z18 * Pf)) rfl rfl (wr o28) rfl ?_
        exact WL.done ⟨_, rfl, rfl, rfl, (fun h => absurd h (by decide)), (fun j h => by cases h)⟩
      · intro w29 hE
        intro RR
        refine WL.move rfl rfl ?_
        exact WL.done ⟨_, rfl, rfl, rfl, (fun h => absurd h (by decide)), (fun j h => by cases h)⟩
      · intro w30 hE
        intro RR
        refine WL.move rfl rfl ?_
        exact WL.done ⟨_, rfl, rfl, rfl, (fun h => absurd h (by decide)), (fun j h => by cases h)⟩
      · intro w31 hE
        rintro _ rfl
        rintro _ rfl
        intro RR
        refine SL.index Try.underlying22 Try.el3 (hS.ro hl) rfl rfl o32 rfl ?_
        exact WL.done ⟨_, rfl, rfl, rfl, (fun h => absurd h (by decide)), (fun j h => by cases h)⟩
      · intro w33 hE
        have hE := hE rfl
        have hS := hS.grow hE
        rintro _ rfl
        intro RR
        refine WL.load Try.underlying3 rfl rfl (Rd.gi (hS.ro hl) o32) rfl ?_
        exact WL.done ⟨_, rfl, ext_refl _, rfl, (fun h => absurd h (by decide)), (fun j h => by cases h)⟩
      · intro w34 hE
        rintro _ rfl
        rintro _ rfl
        intro RR
        refine WL.add (r := ((z18 * Pf) + (gi l z19))) rfl rfl (wr o35) rfl ?_
        exact WL.done ⟨_, rfl, rfl, rfl, (fun h => absurd h (by decide)), (fun j h => by cases h)⟩
      · intro w36 hE
        rintro _ rfl
        intro RR
        refine WL.assign rfl rfl ?_
        exact WL.done ⟨_, rfl, rfl, rfl, (fun h => absurd h (by decide)), (fun j h => by cases h)⟩
    · intro vals w37 hT hVs hAp hCp
      have hS := hS.grow hT
      have hv0 : vals 0 = _ := hVs 0 (by decide)
      have hv1 : vals 1 = _ := hVs 1 (by decide)
      have hv2 : vals 2 = _ := hVs 2 (by decide)
      have hv3 : vals 3 = _ := hVs 3 (by decide)
      have hv4 : vals 4 = _ := hVs 4 (by decide)
      have hv5 : vals 5 = _ := hVs 5 (by decide)
      have hv6 : vals 6 = _ := hVs 6 (by decide)
      have hv7 : vals 7 = _ := hVs 7 (by decide)
      have hv8 : vals 8 = _ := hVs 8 (by decide)
      have hv9 : vals 9 = _ := hVs 9 (by decide)
      rw [show (List.filterMap (fun i => Option.map (fun t => (t, vals i)) (dstAt _ i)) (List.range _)) = [(14, .int .i64 z18), (15, .pointer (some ⟨g11, 0, none⟩)), (16, .int .i64 Pf), (17, .int .i64 (z18 * Pf)), (18, .slice Al l.length kl), (19, .int .i64 z19), (20, .pointer (some ((adOf Al).add z19.toNat))), (21, .int .i64 (gi l z19)), (22, .int .i64 ((z18 * Pf) + (gi l z19))), (5, .int .i64 ((z18 * Pf) + (gi l z19)))] from by
        show [(14, vals 0), (15, vals 1), (16, vals 2), (17, vals 3), (18, vals 4), (19, vals 5), (20, vals 6), (21, vals 7), (22, vals 8), (5, vals 9)] = _
        rw [hv0, hv1, hv2, hv3, hv4, hv5, hv6, hv7, hv8, hv9]]
      refine WA.done (by decide +kernel) ?_
      refine W.region ?_
      refine WL.move rfl rfl ?_
      obtain ⟨o38, hv⟩ := hv
      refine WL.sub (r := (z19 - (1 : Int))) rfl rfl (wr o38) rfl ?_
      refine WL.assign rfl rfl ?_
      refine WL.done ?_
      change St _ _ _ _ [.row 24 3 (some ⟨g11, 0, none⟩) 1 1 [.int .i64 Pf, .int .i64 Mf, .slice Af mf.length kf]] at hS
      exact ⟨(((z18 * Pf) + (gi l z19)), (z19 - (1 : Int))), ⟨rfl, rfl, rfl, rfl, rfl, trivial⟩, hv.2, rfl, hv.1, hS⟩
  · have hv := hv.2 (of_decide_eq_false c23)
    refine W.exit ?_
    refine W.seq ?_
    refine W.region ?_
    refine WL.move rfl rfl ?_
    refine WL.assign rfl rfl ?_
    refine WL.done ?_
    refine W.ret ?_
    refine ⟨_, rfl, Fin.nil ?_⟩
    exact ⟨_, hS.ext, (hS.pick [] rfl).rows, News.of (hS.pick [] rfl).rows rfl, ⟨z18, rfl, rfl, hv⟩⟩

def V_rMul (Pf : Int) (Mf : Int) (mf : List Int) (x : Int) (y : Int) (Q : Int → Prop) : Prop :=
  V_rDigits Pf Mf mf x (fun x14 => V_rDigits Pf Mf mf y (fun x19 => (I64 ((2 : Int) * Mf)) ∧ ((I64 (((2 : Int) * Mf) - (1 : Int))) ∧ ((0 ≤ (((2 : Int) * Mf) - (1 : Int)) ∧ (((2 : Int) * Mf) - (1 : Int)) * 8 ≤ 281474976710656 ∧ (((2 : Int) * Mf) - (1 : Int)) ≤ 281474976710656) ∧ (∃ (I35 : List Int → Int → Prop) (μ36 : List Int → Int → Nat), I35 (List.replicate (((2 : Int) * Mf) - (1 : Int)).toNat (0 : Int)) (0 : Int) ∧ ∀ (x33 : List Int) (z34 : Int), (I35 x33 z34 → (((z34 < Mf) → (∃ (I45 : List Int → Int → Prop) (μ46 : List Int → Int → Nat), I45 x33 (0 : Int) ∧ ∀ (x43 : List Int) (z44 : Int), (I45 x43 z44 → (((z44 < Mf) → ((I64 (z34 + z44)) ∧ ((I64 (z34 + z44)) ∧ ((0 ≤ (z34 + z44) ∧ (z34 + z44) < ((((2 : Int) * Mf) - (1 : Int)).toNat : Nat)) ∧ ((0 ≤ z34 ∧ z34 < (x14.length : Nat)) ∧ ((0 ≤ z44 ∧ z44 < (x19.length : Nat)) ∧ ((I64 ((gi x14 z34) * (gi x19 z44))) ∧ ((I64 ((gi x43 (z34 + z44)) + ((gi x14 z34) * (gi x19 z44)))) ∧ ((Pf ≠ 0) ∧ ((0 ≤ (z34 + z44) ∧ (z34 + z44) < ((((2 : Int) * Mf) - (1 : Int)).toNat : Nat)) ∧ ((I64 (z44 + (1 : Int))) ∧ (I45 (si x43 (z34 + z44) (((gi x43 (z34 + z44)) + ((gi x14 z34) * (gi x19 z44))).tmod Pf)) (z44 + (1 : Int)) ∧ μ46 (si x43 (z34 + z44) (((gi x43 (z34 + z44)) + ((gi x14 z34) * (gi x19 z44))).tmod Pf)) (z44 + (1 : Int)) < μ46 x43 z44)))))))))))) ∧ (¬ (z44 < Mf) → ((I64 (z34 + (1 : Int))) ∧ (I35 x43 (z34 + (1 : Int)) ∧ μ36 x43 (z34 + (1 : Int)) < μ36 x33 z34))))))) ∧ (¬ (z34 < Mf) → ((I64 ((2 : Int) * Mf)) ∧ ((I64 (((2 : Int) * Mf) - (2 : Int))) ∧ (∃ (I94 : List Int → Int → Prop) (μ95 : List Int → Int → Nat), I94 x33 (((2 : Int) * Mf) - (2 : Int)) ∧ ∀ (x92 : List Int) (z93 : Int), (I94 x92 z93 → (((Mf ≤ z93) → (∃ (I104 : List Int → Int → Prop) (μ105 : List Int → Int → Nat), I104 x92 (0 : Int) ∧ ∀ (x102 : List Int) (z103 : Int), (I104 x102 z103 → (((z103 < Mf) → ((I64 (z93 - Mf)) ∧ ((I64 ((z93 - Mf) + z103)) ∧ ((I64 (z93 - Mf)) ∧ ((I64 ((z93 - Mf) + z103)) ∧ ((0 ≤ ((z93 - Mf) + z103) ∧ ((z93 - Mf) + z103) < ((((2 : Int) * Mf) - (1 : Int)).toNat : Nat)) ∧ ((0 ≤ z93 ∧ z93 < ((((2 : Int) * Mf) - (1 : Int)).toNat : Nat)) ∧ ((I64 (Pf - (gi x102 z93))) ∧ ((0 ≤ z103 ∧ z103 < (mf.length : Nat)) ∧ ((I64 ((Pf - (gi x102 z93)) * (gi mf z103))) ∧ ((I64 ((gi x102 ((z93 - Mf) + z103)) + ((Pf - (gi x102 z93)) * (gi mf z103)))) ∧ ((Pf ≠ 0) ∧ ((0 ≤ ((z93 - Mf) + z103) ∧ ((z93 - Mf) + z103) < ((((2 : Int) * Mf) - (1 : Int)).toNat : Nat)) ∧ ((I64 (z103 + (1 : Int))) ∧ (I104 (si x102 ((z93 - Mf) + z103) (((gi x102 ((z93 - Mf) + z103)) + ((Pf - (gi x102 z93)) * (gi mf z103))).tmod Pf)) (z103 + (1 : Int)) ∧ μ105 (si x102 ((z93 - Mf) + z103) (((gi x102 ((z93 - Mf) + z103)) + ((Pf - (gi x102 z93)) * (gi mf z103))).tmod Pf)) (z103 + (1 : Int)) < μ105 x102 z103))))))))))))))) ∧ (¬ (z103 < Mf) → ((I64 (z93 - (1 : Int))) ∧ (I94 x102 (z93 - (1 : Int)) ∧ μ95 x102 (z93 - (1 : Int)) < μ95 x92 z93))))))) ∧ (¬ (Mf ≤ z93) → ((0 ≤ Mf ∧ Mf ≤ ((((2 : Int) * Mf) - (1 : Int)).toNat : Nat)) ∧ (∃ (r165 : Int), V_rValue Pf Mf mf (x92.take Mf.toNat) (fun q => q = r165) ∧ Q r165))))))))))))))))
theorem ok_rMul {w : World} {Q : Int → Prop} {Pf : Int} {Mf : Int} {mf : List Int} {x : Int} {y : Int} {Bf : Nat} {Af : Option Addr} {nf kf : Nat} (hf : Rd Bf w 1 Af nf kf (is mf)) (hv : V_rMul Pf Mf mf x y Q) :
    Calls Try.prog 33 #[.agg #[.int .i64 Pf, .int .i64 Mf, .slice Af nf kf], .int .i64 x, .int .i64 y] w fun e w' => ∃ v Qr, e = .returned v ∧ w.grownBy w' none ∧ Rows w.heap.size none w' Qr ∧ News w.heap.size Qr ∧ ∃ (r0 : Int), v = .int .i64 r0 ∧ Qr = [] ∧ Q r0 := by
  have hnf := hf.ilen
  subst hnf
  refine calls_swap ?_
  refine calls_of_W (vs := [.agg #[.int .i64 Pf, .int .i64 Mf, .slice Af mf.length kf], .int .i64 x, .int .i64 y]) [6] Try.func33 rfl rfl rfl rfl ?_
  have hS := St.start w
  unfold V_rMul at hv
  refine W.seq ?_
  refine W.region ?_
  refine SL.box (z := 3) (cs := [.int .i64 Pf, .int .i64 Mf, .slice Af mf.length kf]) hS rfl rfl rfl rfl ?_
  intro g11 w12 hS
  refine WL.assign rfl rfl ?_
  refine WL.done ?_
  refine W.seq ?_
  refine W.region ?_
  refine WL.loadV (cs := [.int .i64 Pf, .int .i64 Mf, .slice Af mf.length kf]) Try.el24 Try.agg24 rfl rfl (Own.vcells (hS.own (i := 0) rfl)) rfl ?_
  refine WL.move rfl rfl ?_
  refine SL.call hS (ok_rDigits (hS.ro hf) hv) Try.func57 rfl Try.nm57 rfl rfl ?_
  rintro _ _ w13 ⟨x14, A15, k16, rfl, rfl, hv⟩ hGw13 hS
  change St _ _ _ _ [.row 3 1 A15 x14.length k16 (is x14), .row 24 3 (some ⟨g11, 0, none⟩) 1 1 [.int .i64 Pf, .int .i64 Mf, .slice Af mf.length kf]] at hS
  refine WL.assign rfl rfl ?_
  refine WL.done ?_
  refine W.seq ?_
  refine W.region ?_
  refine WL.loadV (cs := [.int .i64 Pf, .int .i64 Mf, .slice Af mf.length kf]) Try.el24 Try.agg24 rfl rfl (Own.vcells (hS.own (i := 1) rfl)) rfl ?_
  refine WL.move rfl rfl ?_
  refine SL.call hS (ok_rDigits (hS.ro hf) hv) Try.func57 rfl Try.nm57 rfl rfl ?_
  rintro _ _ w18 ⟨x19, A20, k21, rfl, rfl, hv⟩ hGw18 hS
  change St _ _ _ _ [.row 3 1 A20 x19.length k21 (is x19), .row 3 1 A15 x14.length k16 (is x14), .row 24 3 (some ⟨g11, 0, none⟩) 1 1 [.int .i64 Pf, .int .i64 Mf, .slice Af mf.length kf]] at hS
  refine WL.assign rfl rfl ?_
  refine WL.done ?_
  refine W.seq ?_
  refine W.region ?_
  refine WL.fieldA (off := 1) Try.fla24_1 rfl rfl ?_
  refine WL.load Try.underlying3 rfl rfl (Own.vcells (hS.own (i := 2) rfl) 1 _ rfl) rfl ?_
  obtain ⟨o23, hv⟩ := hv
  refine WL.mul (r := ((2 : Int) * Mf)) rfl rfl (wr o23) rfl ?_
  obtain ⟨o24, hv⟩ := hv
  refine WL.sub (r := (((2 : Int) * Mf) - (1 : Int))) rfl rfl (wr o24) rfl ?_
  obtain ⟨o25, hv⟩ := hv
  refine SL.make (J := (((2 : Int) * Mf) - (1 : Int))) hS Try.underlying22 Try.el3 rfl rfl o25 (made_is _) rfl ?_
  intro A26 w27 hS
  refine WL.assign rfl rfl ?_
  refine WL.done ?_
  refine W.seq ?_
  refine W.seq ?_
  refine W.region ?_
  refine WL.assign rfl rfl ?_
  refine WL.done ?_
  refine W.block ?_
  obtain ⟨I35, μ36, hv, hk171⟩ := hv
  change St _ _ _ _ [.row 3 1 A26 ((((2 : Int) * Mf) - (1 : Int)).toNat) ((((2 : Int) * Mf) - (1 : Int)).toNat) (is (List.replicate (((2 : Int) * Mf) - (1 : Int)).toNat (0 : Int))), .row 3 1 A20 x19.length k21 (is x19), .row 3 1 A15 x14.length k16 (is x14), .row 24 3 (some ⟨g11, 0, none⟩) 1 1 [.int .i64 Pf, .int .i64 Mf, .slice Af mf.length kf]] at hS
  refine W.loop (σ := List Int × Int) (fun q w1 => match q with | (x33, z34) => I35 x33 z34 ∧ St TT w none w1 [.row 3 1 A26 ((((2 : Int) * Mf) - (1 : Int)).toNat) ((((2 : Int) * Mf) - (1 : Int)).toNat) (is x33), .row 3 1 A20 x19.length k21 (is x19), .row 3 1 A15 x14.length k16 (is x14), .row 24 3 (some ⟨g11, 0, none⟩) 1 1 [.int .i64 Pf, .int .i64 Mf, .slice Af mf.length kf]]) (fun q => match q with | (x33, z34) => [(3, .pointer (some ⟨g11, 0, none⟩)), (6, .int .i64 (0 : Int)), (7, .slice A15 x14.length k16), (8, .slice A20 x19.length k21), (9, .slice A26 ((((2 : Int) * Mf) - (1 : Int)).toNat) ((((2 : Int) * Mf) - (1 : Int)).toNat)), (10, .int .i64 z34)]) (fun q => match q with | (x33, z34) => μ36 x33 z34) (List.replicate (((2 : Int) * Mf) - (1 : Int)).toNat (0 : Int), (0 : Int)) ⟨hv, hS⟩ ⟨rfl, rfl, rfl, rfl, rfl, rfl, trivial⟩ ?_
  rintro ⟨x33, z34⟩ w37 ⟨hv, hS⟩
  have hv := hk171 x33 z34 hv
  refine W.seq ?_
  refine W.seq ?_
  refine W.region ?_
  refine WL.move rfl rfl ?_
  refine WL.fieldA (off := 1) Try.fla24_1 rfl rfl ?_
  refine WL.load Try.underlying3 rfl rfl (Own.vcells (hS.own (i := 3) rfl) 1 _ rfl) rfl ?_
  refine WL.lssD rfl rfl rfl ?_
  refine WL.done ?_
  refine W.cond2 rfl (fun c38 => ?_) (fun c38 => ?_)
  · have hv := hv.1 (of_decide_eq_true c38)
    refine W.skip ?_
    refine W.seq ?_
    refine W.block ?_
    refine W.seq ?_
    refine W.region ?_
    refine WL.assign rfl rfl ?_
    refine WL.done ?_
    refine W.block ?_
    obtain ⟨I45, μ46, hv, hk85⟩ := hv
    change St _ _ _ _ [.row 3 1 A26 ((((2 : Int) * Mf) - (1 : Int)).toNat) ((((2 : Int) * Mf) - (1 : Int)).toNat) (is x33), .row 3 1 A20 x19.length k21 (is x19), .row 3 1 A15 x14.length k16 (is x14), .row 24 3 (some ⟨g11, 0, none⟩) 1 1 [.int .i64 Pf, .int .i64 Mf, .slice Af mf.length kf]] at hS
    refine W.loop (σ := List Int × Int) (fun q w1 => match q with | (x43, z44) => I45 x43 z44 ∧ St TT w none w1 [.row 3 1 A26 ((((2 : Int) * Mf) - (1 : Int)).toNat) ((((2 : Int) * Mf) - (1 : Int)).toNat) (is x43), .row 3 1 A20 x19.length k21 (is x19), .row 3 1 A15 x14.length k16 (is x14), .row 24 3 (some ⟨g11, 0, none⟩) 1 1 [.int .i64 Pf, .int .i64 Mf, .slice Af mf.length kf]]) (fun q => match q with | (x43, z44) => [(3, .pointer (some ⟨g11, 0, none⟩)), (6, .int .i64 (0 : Int)), (7, .slice A15 x14.length k16), (8, .slice A20 x19.length k21), (9, .slice A26 ((((2 : Int) * Mf) - (1 : Int)).toNat) ((((2 : Int) * Mf) - (1 : Int)).toNat)), (10, .int .i64 z34), (11, .int .i64 z44), (28, .bool (decide (z34 < Mf)))]) (fun q => match q with | (x43, z44) => μ46 x43 z44) (x33, (0 : Int)) ⟨hv, hS⟩ ⟨rfl, rfl, rfl, rfl, rfl, rfl, rfl, rfl, trivial⟩ ?_
    rintro ⟨x43, z44⟩ w47 ⟨hv, hS⟩
    have hv := hk85 x43 z44 hv
    refine W.seq ?_
    refine W.seq ?_
    refine W.region ?_
    refine WL.move rfl rfl ?_
    refine WL.fieldA (off := 1) Try.fla24_1 rfl rfl ?_
    refine WL.load Try.underlying3 rfl rfl (Own.vcells (hS.own (i := 3) rfl) 1 _ rfl) rfl ?_
    refine WL.lssD rfl rfl rfl ?_
    refine WL.done ?_
    refine W.cond2 rfl (fun c48 => ?_) (fun c48 => ?_)
    · have hv := hv.1 (of_decide_eq_true c48)
      refine W.skip ?_
      refine W.seq ?_
      refine W.block ?_
      obtain ⟨o53, hv⟩ := hv
      obtain ⟨o58, hv⟩ := hv
      obtain ⟨o60, hv⟩ := hv
      obtain ⟨o65, hv⟩ := hv
      obtain ⟨o70, hv⟩ := hv
      obtain ⟨o73, hv⟩ := hv
      obtain ⟨o75, hv⟩ := hv
      obtain ⟨o79, hv⟩ := hv
      have hS0 := hS
      refine W.drawX 23 (fun _ => false) (fun _ => none) [⟨[], [9], true⟩, ⟨[], [10], true⟩, ⟨[], [11], true⟩, ⟨[1, 2], [], true⟩, ⟨[], [9], true⟩, ⟨[], [10], true⟩, ⟨[], [11], true⟩, ⟨[5, 6], [], true⟩, ⟨[4, 7], [], true⟩, ⟨[8], [], false⟩, ⟨[], [7], true⟩, ⟨[], [10], true⟩, ⟨[10, 11], [], true⟩, ⟨[12], [], false⟩, ⟨[], [8], true⟩, ⟨[], [11], true⟩, ⟨[14, 15], [], true⟩, ⟨[16], [], false⟩, ⟨[13, 17], [], true⟩, ⟨[9, 18], [], true⟩, ⟨[], [3], true⟩, ⟨[20], [], false⟩, ⟨[19, 21], [], true⟩] [[(9, .slice A26 ((((2 : Int) * Mf) - (1 : Int)).toNat) ((((2 : Int) * Mf) - (1 : Int)).toNat))], [(10, .int .i64 z34)], [(11, .int .i64 z44)], [], [(9, .slice A26 ((((2 : Int) * Mf) - (1 : Int)).toNat) ((((2 : Int) * Mf) - (1 : Int)).toNat))], [(10, .int .i64 z34)], [(11, .int .i64 z44)], [], [], [], [(7, .slice A15 x14.length k16)], [(10, .int .i64 z34)], [], [], [(8, .slice A20 x19.length k21)], [(11, .int .i64 z44)], [], [], [], [], [(3, .pointer (some ⟨g11, 0, none⟩))], [], []] (fun iQ => [fun v _ => v = .slice A26 ((((2 : Int) * Mf) - (1 : Int)).toNat) ((((2 : Int) * Mf) - (1 : Int)).toNat), fun v _ => v = .int .i64 z34, fun v _ => v = .int .i64 z44, fun v _ => v = .int .i64 (z34 + z44), fun v _ => v = .slice A26 ((((2 : Int) * Mf) - (1 : Int)).toNat) ((((2 : Int) * Mf) - (1 : Int)).toNat), fun v _ => v = .int .i64 z34, fun v _ => v = .int .i64 z44, fun v _ => v = .int .i64 (z34 + z44), fun v _ => v = .pointer (some ((adOf A26).add ((z34 + z44).toNat))), fun v _ => v = .int .i64 (gi x43 (z34 + z44)), fun v _ => v = .slice A15 x14.length k16, fun v _ => v = .int .i64 z34, fun v _ => v = .pointer (some ((adOf A15).add z34.toNat)), fun v _ => v = .int .i64 (gi x14 z34), fun v _ => v = .slice A20 x19.length k21, fun v _ => v = .int .i64 z44, fun v _ => v = .pointer (some ((adOf A20).add z44.toNat)), fun v _ => v = .int .i64 (gi x19 z44), fun v _ => v = .int .i64 ((gi x14 z34) * (gi x19 z44)), fun v _ => v = .int .i64 ((gi x43 (z34 + z44)) + ((gi x14 z34) * (gi x19 z44))), fun v _ => v = .pointer (some ⟨g11, 0, none⟩), fun v _ => v = .int .i64 Pf, fun v _ => v = .int .i64 (((gi x43 (z34 + z44)) + ((gi x14 z34) * (gi x19 z44))).tmod Pf)].getD iQ (fun _ _ => True)) Try.mixed (by kernel_rfl) ?_ (by kernel_rfl) ?_ ?_
      · refine Vs_monoT _ ?_
        intro VQ hVQ vQ wQ1 wQ2 hQ1 hQ2
        simp only [List.mem_cons, List.not_mem_nil, or_false] at hVQ
        rcases hVQ with rfl | rfl | rfl | rfl | rfl | rfl | rfl | rfl | rfl | rfl | rfl | rfl | rfl | rfl | rfl | rfl | rfl | rfl | rfl | rfl | rfl | rfl | rfl
        · exact hQ1
        · exact hQ1
        · exact hQ1
        · exact hQ1
        · exact hQ1
        · exact hQ1
        · exact hQ1
        · exact hQ1
        · exact hQ1
        · exact hQ1
        · exact hQ1
        · exact hQ1
        · exact hQ1
        · exact hQ1
        · exact hQ1
        · exact hQ1
        · exact hQ1
        · exact hQ1
        · exact hQ1
        · exact hQ1
        · exact hQ1
        · exact hQ1
        · exact hQ1
      · refine ⟨⟨rfl, ⟨rfl, trivial⟩, ?_⟩, ⟨rfl, ⟨rfl, trivial⟩, ?_⟩, ⟨rfl, ⟨rfl, trivial⟩, ?_⟩, ⟨rfl, trivial, ?_⟩, ⟨rfl, ⟨rfl, trivial⟩, ?_⟩, ⟨rfl, ⟨rfl, trivial⟩, ?_⟩, ⟨rfl, ⟨rfl, trivial⟩, ?_⟩, ⟨rfl, trivial, ?_⟩, ⟨rfl, trivial, ?_⟩, ⟨rfl, trivial, ?_⟩, ⟨rfl, ⟨rfl, trivial⟩, ?_⟩, ⟨rfl, ⟨rfl, trivial⟩, ?_⟩, ⟨rfl, trivial, ?_⟩, ⟨rfl, trivial, ?_⟩, ⟨rfl, ⟨rfl, trivial⟩, ?_⟩, ⟨rfl, ⟨rfl, trivial⟩, ?_⟩, ⟨rfl, trivial, ?_⟩, ⟨rfl, trivial, ?_⟩, ⟨rfl, trivial, ?_⟩, ⟨rfl, trivial, ?_⟩, ⟨rfl, ⟨rfl, trivial⟩, ?_⟩, ⟨rfl, trivial, ?_⟩, ⟨rfl, trivial, ?_⟩, trivial⟩
        · intro w49 hE
          intro RR
          refine WL.move rfl rfl ?_
          exact WL.done ⟨_, rfl, rfl, rfl, (fun h => absurd h (by decide)), (fun j h => by cases h)⟩
        · intro w50 hE
          intro RR
          refine WL.move rfl rfl ?_
          exact WL.done ⟨_, rfl, rfl, rfl, (fun h => absurd h (by decide)), (fun j h => by cases h)⟩
        · intro w51 hE
          intro RR
          refine WL.move rfl rfl ?_
          exact WL.done ⟨_, rfl, rfl, rfl, (fun h => absurd h (by decide)), (fun j h => by cases h)⟩
        · intro w52 hE
          rintro _ rfl
          rintro _ rfl
          intro RR
          refine WL.add (r := (z34 + z44)) rfl rfl (wr o53) rfl ?_
          exact WL.done ⟨_, rfl, rfl, rfl, (fun h => absurd h (by decide)), (fun j h => by cases h)⟩
        · intro w54 hE
          intro RR
          refine WL.move rfl rfl ?_
          exact WL.done ⟨_, rfl, rfl, rfl, (fun h => absurd h (by decide)), (fun j h => by cases h)⟩
        · intro w55 hE
          intro RR
          refine WL.move rfl rfl ?_
          exact WL.done ⟨_, rfl, rfl, rfl, (fun h => absurd h (by decide)), (fun j h => by cases h)⟩
        · intro w56 hE
          intro RR
          refine WL.move rfl rfl ?_
          exact WL.done ⟨_, rfl, rfl, rfl, (fun h => absurd h (by decide)), (fun j h => by cases h)⟩
        · intro w57 hE
          rintro _ rfl
          rintro _ rfl
          intro RR
          refine WL.add (r := (z34 + z44)) rfl rfl (wr o58) rfl ?_
          exact WL.done ⟨_, rfl, rfl, rfl, (fun h => absurd h (by decide)), (fun j h => by cases h)⟩
        · intro w59 hE
          rintro _ rfl
          rintro _ rfl
          intro RR
          refine SL.index Try.underlying22 Try.el3 (hS.rd (i := 0) rfl) rfl rfl o60 rfl ?_
          exact WL.done ⟨_, rfl, rfl, rfl, (fun h => absurd h (by decide)), (fun j h => by cases h)⟩
        · intro w61 hE
          have hE := hE rfl
          have hS := hS.grow hE
          rintro _ rfl
          intro RR
          refine WL.load Try.underlying3 rfl rfl (Rd.gi (hS.rd (i := 0) rfl) o60) rfl ?_
          exact WL.done ⟨_, rfl, ext_refl _, rfl, (fun h => absurd h (by decide)), (fun j h => by cases h)⟩
        · intro w62 hE
          intro RR
          refine WL.move rfl rfl ?_
          exact WL.done ⟨_, rfl, rfl, rfl, (fun h => absurd h (by decide)), (fun j h => by cases h)⟩
        · intro w63 hE
          intro RR
          refine WL.move rfl rfl ?_
          exact WL.done ⟨_, rfl, rfl, rfl, (fun h => absurd h (by decide)), (fun j h => by cases h)⟩
        · intro w64 hE
          rintro _ rfl
          rintro _ rfl
          intro RR
          refine SL.index Try.underlying22 Try.el3 (hS.rd (i := 2) rfl) rfl rfl o65 rfl ?_
          exact WL.done ⟨_, rfl, rfl, rfl, (fun h => absurd h (by decide)), (fun j h => by cases h)⟩
        · intro w66 hE
          have hE := hE rfl
          have hS := hS.grow hE
          rintro _ rfl
          intro RR
          refine WL.load Try.underlying3 rfl rfl (Rd.gi (hS.rd (i := 2) rfl) o65) rfl ?_
          exact WL.done ⟨_, rfl, ext_refl _, rfl, (fun h => absurd h (by decide)), (fun j h => by cases h)⟩
        · intro w67 hE
          intro RR
          refine WL.move rfl rfl ?_
          exact WL.done ⟨_, rfl, rfl, rfl, (fun h => absurd h (by decide)), (fun j h => by cases h)⟩
        · intro w68 hE
          intro RR
          refine WL.move rfl rfl ?_
          exact WL.done ⟨_, rfl, rfl, rfl, (fun h => absurd h (by decide)), (fun j h => by cases h)⟩
        · intro w69 hE
          rintro _ rfl
          rintro _ rfl
          intro RR
          refine SL.index Try.underlying22 Try.el3 (hS.rd (i := 1) rfl) rfl rfl o70 rfl ?_
          exact WL.done ⟨_, rfl, rfl, rfl, (fun h => absurd h (by decide)), (fun j h => by cases h)⟩
        · intro w71 hE
          have hE := hE rfl
          have hS := hS.grow hE
          rintro _ rfl
          intro RR
          refine WL.load Try.underlying3 rfl rfl (Rd.gi (hS.rd (i := 1) rfl) o70) rfl ?_
          exact WL.done ⟨_, rfl, ext_refl _, rfl, (fun h => absurd h (by decide)), (fun j h => by cases h)⟩
        · intro w72 hE
          rintro _ rfl
          rintro _ rfl
          intro RR
          refine WL.mul (r := ((gi x14 z34) * (gi x19 z44))) rfl rfl (wr o73) rfl ?_
          exact WL.done ⟨_, rfl, rfl, rfl, (fun h => absurd h (by decide)), (fun j h => by cases h)⟩
        · intro w74 hE
          rintro _ rfl
          rintro _ rfl
          intro RR
          refine WL.add (r := ((gi x43 (z34 + z44)) + ((gi x14 z34) * (gi x19 z44)))) rfl rfl (wr o75) rfl ?_
          exact WL.done ⟨_, rfl, rfl, rfl, (fun h => absurd h (by decide)), (fun j h => by cases h)⟩
        · intro w76 hE
          intro RR
          refine WL.fieldA (off := 0) Try.fla24_0 rfl rfl ?_
          exact WL.done ⟨_, rfl, rfl, rfl, (fun h => absurd h (by decide)), (fun j h => by cases h)⟩
        · intro w77 hE
          have hE := hE rfl
          have hS := hS.grow hE
          rintro _ rfl
          intro RR
          refine WL.load Try.underlying3 rfl rfl (Own.vcells (hS.own (i := 3) rfl) 0 _ rfl) rfl ?_
          exact WL.done ⟨_, rfl, ext_refl _, rfl, (fun h => absurd h (by decide)), (fun j h => by cases h)⟩
        · intro w78 hE
          rintro _ rfl
          rintro _ rfl
          intro RR
          refine WL.rem (r := (((gi x43 (z34 + z44)) + ((gi x14 z34) * (gi x19 z44))).tmod Pf)) rfl rfl o79 rfl rfl ?_
          exact WL.done ⟨_, rfl, rfl, rfl, (fun h => absurd h (by decide)), (fun j h => by cases h)⟩
      · intro vals w80 hT hVs hAp hCp
        have hS := hS.grow hT
        have hv0 : vals 0 = _ := hVs 0 (by decide)
        have hv1 : vals 1 = _ := hVs 1 (by decide)
        have hv2 : vals 2 = _ := hVs 2 (by decide)
        have hv3 : vals 3 = _ := hVs 3 (by decide)
        have hv4 : vals 4 = _ := hVs 4 (by decide)
        have hv5 : vals 5 = _ := hVs 5 (by decide)
        have hv6 : vals 6 = _ := hVs 6 (by decide)
        have hv7 : vals 7 = _ := hVs 7 (by decide)
        have hv8 : vals 8 = _ := hVs 8 (by decide)
        have hv9 : vals 9 = _ := hVs 9 (by decide)
        have hv10 : vals 10 = _ := hVs 10 (by decide)
        have hv11 : vals 11 = _ := hVs 11 (by decide)
        have hv12 : vals 12 = _ := hVs 12 (by decide)
        have hv13 : vals 13 = _ := hVs 13 (by decide)
        have hv14 : vals 14 = _ := hVs 14 (by decide)
        have hv15 : vals 15 = _ := hVs 15 (by decide)
        have hv16 : vals 16 = _ := hVs 16 (by decide)
        have hv17 : vals 17 = _ := hVs 17 (by decide)
        have hv18 : vals 18 = _ := hVs 18 (by decide)
        have hv19 : vals 19 = _ := hVs 19 (by decide)
        have hv20 : vals 20 = _ := hVs 20 (by decide)
        have hv21 : vals 21 = _ := hVs 21 (by decide)
        have hv22 : vals 22 = _ := hVs 22 (by decide)
        rw [show (List.filterMap (fun i => Option.map (fun t => (t, vals i)) (dstAt _ i)) (List.range _)) = [(37, .slice A26 ((((2 : Int) * Mf) - (1 : Int)).toNat) ((((2 : Int) * Mf) - (1 : Int)).toNat)), (38, .int .i64 z34), (39, .int .i64 z44), (40, .int .i64 (z34 + z44)), (41, .slice A26 ((((2 : Int) * Mf) - (1 : Int)).toNat) ((((2 : Int) * Mf) - (1 : Int)).toNat)), (42, .int .i64 z34), (43, .int .i64 z44), (44, .int .i64 (z34 + z44)), (45, .pointer (some ((adOf A26).add ((z34 + z44).toNat)))), (46, .int .i64 (gi x43 (z34 + z44))), (47, .slice A15 x14.length k16), (48, .int .i64 z34), (49, .pointer (some ((adOf A15).add z34.toNat))), (50, .int .i64 (gi x14 z34)), (51, .slice A20 x19.length k21), (52, .int .i64 z44), (53, .pointer (some ((adOf A20).add z44.toNat))), (54, .int .i64 (gi x19 z44)), (55, .int .i64 ((gi x14 z34) * (gi x19 z44))), (56, .int .i64 ((gi x43 (z34 + z44)) + ((gi x14 z34) * (gi x19 z44)))), (57, .pointer (some ⟨g11, 0, none⟩)), (58, .int .i64 Pf), (59, .int .i64 (((gi x43 (z34 + z44)) + ((gi x14 z34) * (gi x19 z44))).tmod Pf))] from by
          show [(37, vals 0), (38, vals 1), (39, vals 2), (40, vals 3), (41, vals 4), (42, vals 5), (43, vals 6), (44, vals 7), (45, vals 8), (46, vals 9), (47, vals 10), (48, vals 11), (49, vals 12), (50, vals 13), (51, vals 14), (52, vals 15), (53, vals 16), (54, vals 17), (55, vals 18), (56, vals 19), (57, vals 20), (58, vals 21), (59, vals 22)] = _
          rw [hv0, hv1, hv2, hv3, hv4, hv5, hv6, hv7, hv8, hv9, hv10, hv11, hv12, hv13, hv14, hv15, hv16, hv17, hv18, hv19, hv20, hv21, hv22]]
        refine WA.step [23] (by decide +kernel) rfl ?_
        intro iQ hQ
        simp only [List.mem_cons, List.not_mem_nil, or_false] at hQ
        obtain rfl := hQ
        refine ⟨_, rfl, ?_⟩
        obtain ⟨o81, hv⟩ := hv
        refine SL.index Try.underlying22 Try.el3 (hS.rd (i := 0) rfl) rfl rfl o81 rfl ?_
        refine WL.done ?_
        refine WA.step [24] (by decide +kernel) rfl ?_
        intro iQ hQ
        simp only [List.mem_cons, List.not_mem_nil, or_false] at hQ
        obtain rfl := hQ
        refine ⟨_, rfl, ?_⟩
        refine SL.store (cs' := is (si x43 (z34 + z44) (((gi x43 (z34 + z44)) + ((gi x14 z34) * (gi x19 z44))).tmod Pf))) 0 (z34 + z44).toNat hS rfl Try.el3 rfl rfl rfl (is_lt (hS.rd (i := 0) rfl) o81) (is_set _ _ _) ?_
        intro w82 hS
        refine WL.done ?_
        refine WA.done (by decide +kernel) ?_
        refine W.region ?_
        refine WL.move rfl rfl ?_
        obtain ⟨o83, hv⟩ := hv
        refine WL.add (r := (z44 + (1 : Int))) rfl rfl (wr o83) rfl ?_
        refine WL.assign rfl rfl ?_
        refine WL.done ?_
        change St _ _ _ _ [.row 3 1 A26 ((((2 : Int) * Mf) - (1 : Int)).toNat) ((((2 : Int) * Mf) - (1 : Int)).toNat) (is (si x43 (z34 + z44) (((gi x43 (z34 + z44)) + ((gi x14 z34) * (gi x19 z44))).tmod Pf))), .row 3 1 A20 x19.length k21 (is x19), .row 3 1 A15 x14.length k16 (is x14), .row 24 3 (some ⟨g11, 0, none⟩) 1 1 [.int .i64 Pf, .int .i64 Mf, .slice Af mf.length kf]] at hS
        exact ⟨(si x43 (z34 + z44) (((gi x43 (z34 + z44)) + ((gi x14 z34) * (gi x19 z44))).tmod Pf), (z44 + (1 : Int))), ⟨rfl, rfl, rfl, rfl, rfl, rfl, rfl, rfl, trivial⟩, hv.2, rfl, hv.1, hS⟩
    · have hv := hv.2 (of_decide_eq_false c48)
      refine W.exit ?_
      refine W.region ?_
      refine WL.move rfl rfl ?_
      obtain ⟨o84, hv⟩ := hv
      refine WL.add (r := (z34 + (1 : Int))) rfl rfl (wr o84) rfl ?_
      refine WL.assign rfl rfl ?_
      refine WL.done ?_
      change St _ _ _ _ [.row 3 1 A26 ((((2 : Int) * Mf) - (1 : Int)).toNat) ((((2 : Int) * Mf) - (1 : Int)).toNat) (is x43), .row 3 1 A20 x19.length k21 (is x19), .row 3 1 A15 x14.length k16 (is x14), .row 24 3 (some ⟨g11, 0, none⟩) 1 1 [.int .i64 Pf, .int .i64 Mf, .slice Af mf.length kf]] at hS
      exact ⟨(x43, (z34 + (1 : Int))), ⟨rfl, rfl, rfl, rfl, rfl, rfl, trivial⟩, hv.2, rfl, hv.1, hS⟩
  · have hv := hv.2 (of_decide_eq_false c38)
    refine W.exit ?_
    refine W.seq ?_
    refine W.seq ?_
    refine W.region ?_
    refine WL.fieldA (off := 1) Try.fla24_1 rfl rfl ?_
    refine WL.load Try.underlying3 rfl rfl (Own.vcells (hS.own (i := 3) rfl) 1 _ rfl) rfl ?_
    obtain ⟨o86, hv⟩ := hv
    refine WL.mul (r := ((2 : Int) * Mf)) rfl rfl (wr o86) rfl ?_
    obtain ⟨o87, hv⟩ := hv
    refine WL.sub (r := (((2 : Int) * Mf) - (2 : Int))) rfl rfl (wr o87) rfl ?_
    refine WL.assign rfl rfl ?_
    refine WL.done ?_
    refine W.block ?_
    obtain ⟨I94, μ95, hv, hk170⟩ := hv
    change St _ _ _ _ [.row 3 1 A26 ((((2 : Int) * Mf) - (1 : Int)).toNat) ((((2 : Int) * Mf) - (1 : Int)).toNat) (is x33), .row 3 1 A20 x19.length k21 (is x19), .row 3 1 A15 x14.length k16 (is x14), .row 24 3 (some ⟨g11, 0, none⟩) 1 1 [.int .i64 Pf, .int .i64 Mf, .slice Af mf.length kf]] at hS
    refine W.loop (σ := List Int × Int) (fun q w1 => match q with | (x92, z93) => I94 x92 z93 ∧ St TT w none w1 [.row 3 1 A26 ((((2 : Int) * Mf) - (1 : Int)).toNat) ((((2 : Int) * Mf) - (1 : Int)).toNat) (is x92), .row 3 1 A20 x19.length k21 (is x19), .row 3 1 A15 x14.length k16 (is x14), .row 24 3 (some ⟨g11, 0, none⟩) 1 1 [.int .i64 Pf, .int .i64 Mf, .slice Af mf.length kf]]) (fun q => match q with | (x92, z93) => [(3, .pointer (some ⟨g11, 0, none⟩)), (6, .int .i64 (0 : Int)), (9, .slice A26 ((((2 : Int) * Mf) - (1 : Int)).toNat) ((((2 : Int) * Mf) - (1 : Int)).toNat)), (12, .int .i64 z93)]) (fun q => match q with | (x92, z93) => μ95 x92 z93) (x33, (((2 : Int) * Mf) - (2 : Int))) ⟨hv, hS⟩ ⟨rfl, rfl, rfl, rfl, trivial⟩ ?_
    rintro ⟨x92, z93⟩ w96 ⟨hv, hS⟩
    have hv := hk170 x92 z93 hv
    refine W.seq ?_
    refine W.seq ?_
    refine W.region ?_
    refine WL.move rfl rfl ?_
    refine WL.fieldA (off := 1) Try.fla24_1 rfl rfl ?_
    refine WL.load Try.underlying3 rfl rfl (Own.vcells (hS.own (i := 3) rfl) 1 _ rfl) rfl ?_
    refine WL.geqD rfl rfl rfl ?_
    refine WL.done ?_
    refine W.cond2 rfl (fun c97 => ?_) (fun c97 => ?_)
    · have hv := hv.1 (of_decide_eq_true c97)
      refine W.skip ?_
      refine W.seq ?_
      refine W.block ?_
      refine W.seq ?_
      refine W.region ?_
      refine WL.assign rfl rfl ?_
      refine WL.done ?_
      refine W.block ?_
      obtain ⟨I104, μ105, hv, hk157⟩ := hv
      change St _ _ _ _ [.row 3 1 A26 ((((2 : Int) * Mf) - (1 : Int)).toNat) ((((2 : Int) * Mf) - (1 : Int)).toNat) (is x92), .row 3 1 A20 x19.length k21 (is x19), .row 3 1 A15 x14.length k16 (is x14), .row 24 3 (some ⟨g11, 0, none⟩) 1 1 [.int .i64 Pf, .int .i64 Mf, .slice Af mf.length kf]] at hS
      refine W.loop (σ := List Int × Int) (fun q w1 => match q with | (x102, z103) => I104 x102 z103 ∧ St TT w none w1 [.row 3 1 A26 ((((2 : Int) * Mf) - (1 : Int)).toNat) ((((2 : Int) * Mf) - (1 : Int)).toNat) (is x102), .row 3 1 A20 x19.length k21 (is x19), .row 3 1 A15 x14.length k16 (is x14), .row 24 3 (some ⟨g11, 0, none⟩) 1 1 [.int .i64 Pf, .int .i64 Mf, .slice Af mf.length kf]]) (fun q => match q with | (x102, z103) => [(3, .pointer (some ⟨g11, 0, none⟩)), (6, .int .i64 (0 : Int)), (9, .slice A26 ((((2 : Int) * Mf) - (1 : Int)).toNat) ((((2 : Int) * Mf) - (1 : Int)).toNat)), (12, .int .i64 z93), (13, .int .i64 z103), (68, .bool (decide (Mf ≤ z93)))]) (fun q => match q with | (x102, z103) => μ105 x102 z103) (x92, (0 : Int)) ⟨hv, hS⟩ ⟨rfl, rfl, rfl, rfl, rfl, rfl, trivial⟩ ?_
      rintro ⟨x102, z103⟩ w106 ⟨hv, hS⟩
      have hv := hk157 x102 z103 hv
      refine W.seq ?_
      refine W.seq ?_
      refine W.region ?_
      refine WL.move rfl rfl ?_
      refine WL.fieldA (off := 1) Try.fla24_1 rfl rfl ?_
      refine WL.load Try.underlying3 rfl rfl (Own.vcells (hS.own (i := 3) rfl) 1 _ rfl) rfl ?_
      refine WL.lssD rfl rfl rfl ?_
      refine WL.done ?_
      refine W.cond2 rfl (fun c107 => ?_) (fun c107 => ?_)
      · have hv := hv.1 (of_decide_eq_true c107)
        refine W.skip ?_
        refine W.seq ?_
        refine W.block ?_
        obtain ⟨o113, hv⟩ := hv
        obtain ⟨o116, hv⟩ := hv
        obtain ⟨o122, hv⟩ := hv
        obtain ⟨o125, hv⟩ := hv
        obtain ⟨o127, hv⟩ := hv
        obtain ⟨o134, hv⟩ := hv
        obtain ⟨o137, hv⟩ := hv
        obtain ⟨o142, hv⟩ := hv
        obtain ⟨o145, hv⟩ := hv
        obtain ⟨o147, hv⟩ := hv
        obtain ⟨o151, hv⟩ := hv
        have hS0 := hS
        refine W.drawX 33 (fun _ => false) (fun _ => none) [⟨[], [9], true⟩, ⟨[], [12], true⟩, ⟨[], [3], true⟩, ⟨[2], [], false⟩, ⟨[1, 3], [], true⟩, ⟨[], [13], true⟩, ⟨[4, 5], [], true⟩, ⟨[], [9], true⟩, ⟨[], [12], true⟩, ⟨[], [3], true⟩, ⟨[9], [], false⟩, ⟨[8, 10], [], true⟩, ⟨[], [13], true⟩, ⟨[11, 12], [], true⟩, ⟨[7, 13], [], true⟩, ⟨[14], [], false⟩, ⟨[], [3], true⟩, ⟨[16], [], false⟩, ⟨[], [9], true⟩, ⟨[], [12], true⟩, ⟨[18, 19], [], true⟩, ⟨[20], [], false⟩, ⟨[17, 21], [], true⟩, ⟨[], [3], true⟩, ⟨[23], [], false⟩, ⟨[], [13], true⟩, ⟨[24, 25], [], true⟩, ⟨[26], [], false⟩, ⟨[22, 27], [], true⟩, ⟨[15, 28], [], true⟩, ⟨[], [3], true⟩, ⟨[30], [], false⟩, ⟨[29, 31], [], true⟩] [[(9, .slice A26 ((((2 : Int) * Mf) - (1 : Int)).toNat) ((((2 : Int) * Mf) - (1 : Int)).toNat))], [(12, .int .i64 z93)], [(3, .pointer (some ⟨g11, 0, none⟩))], [], [], [(13, .int .i64 z103)], [], [(9, .slice A26 ((((2 : Int) * Mf) - (1 : Int)).toNat) ((((2 : Int) * Mf) - (1 : Int)).toNat))], [(12, .int .i64 z93)], [(3, .pointer (some ⟨g11, 0, none⟩))], [], [], [(13, .int .i64 z103)], [], [], [], [(3, .pointer (some ⟨g11, 0, none⟩))], [], [(9, .slice A26 ((((2 : Int) * Mf) - (1 : Int)).toNat) ((((2 : Int) * Mf) - (1 : Int)).toNat))], [(12, .int .i64 z93)], [], [], [], [(3, .pointer (some ⟨g11, 0, none⟩))], [], [(13, .int .i64 z103)], [], [], [], [], [(3, .pointer (some ⟨g11, 0, none⟩))], [], []] (fun iQ => [fun v _ => v = .slice A26 ((((2 : Int) * Mf) - (1 : Int)).toNat) ((((2 : Int) * Mf) - (1 : Int)).toNat), fun v _ => v = .int .i64 z93, fun v _ => v = .pointer (some ((⟨g11, 0, none⟩ : Addr).add 1)), fun v _ => v = .int .i64 Mf, fun v _ => v = .int .i64 (z93 - Mf), fun v _ => v = .int .i64 z103, fun v _ => v = .int .i64 ((z93 - Mf) + z103), fun v _ => v = .slice A26 ((((2 : Int) * Mf) - (1 : Int)).toNat) ((((2 : Int) * Mf) - (1 : Int)).toNat), fun v _ => v = .int .i64 z93, fun v _ => v = .pointer (some ((⟨g11, 0, none⟩ : Addr).add 1)), fun v _ => v = .int .i64 Mf, fun v _ => v = .int .i64 (z93 - Mf), fun v _ => v = .int .i64 z103, fun v _ => v = .int .i64 ((z93 - Mf) + z103), fun v _ => v = .pointer (some ((adOf A26).add (((z93 - Mf) + z103).toNat))), fun v _ => v = .int .i64 (gi x102 ((z93 - Mf) + z103)), fun v _ => v = .pointer (some ⟨g11, 0, none⟩), fun v _ => v = .int .i64 Pf, fun v _ => v = .slice A26 ((((2 : Int) * Mf) - (1 : Int)).toNat) ((((2 : Int) * Mf) - (1 : Int)).toNat), fun v _ => v = .int .i64 z93, fun v _ => v = .pointer (some ((adOf A26).add z93.toNat)), fun v _ => v = .int .i64 (gi x102 z93), fun v _ => v = .int .i64 (Pf - (gi x102 z93)), fun v _ => v = .pointer (some ((⟨g11, 0, none⟩ : Addr).add 2)), fun v _ => v = .slice Af mf.length kf, fun v _ => v = .int .i64 z103, fun v _ => v = .pointer (some ((adOf Af).add z103.toNat)), fun v _ => v = .int .i64 (gi mf z103), fun v _ => v = .int .i64 ((Pf - (gi x102 z93)) * (gi mf z103)), fun v _ => v = .int .i64 ((gi x102 ((z93 - Mf) + z103)) + ((Pf - (gi x102 z93)) * (gi mf z103))), fun v _ => v = .pointer (some ⟨g11, 0, none⟩), fun v _ => v = .int .i64 Pf, fun v _ => v = .int .i64 (((gi x102 ((z93 - Mf) + z103)) + ((Pf - (gi x102 z93)) * (gi mf z103))).tmod Pf)].getD iQ (fun _ _ => True)) Try.mixed (by kernel_rfl) ?_ (by kernel_rfl) ?_ ?_
        · refine Vs_monoT _ ?_
          intro VQ hVQ vQ wQ1 wQ2 hQ1 hQ2
          simp only [List.mem_cons, List.not_mem_nil, or_false] at hVQ
          rcases hVQ with rfl | rfl | rfl | rfl | rfl | rfl | rfl | rfl | rfl | rfl | rfl | rfl | rfl | rfl | rfl | rfl | rfl | rfl | rfl | rfl | rfl | rfl | rfl | rfl | rfl | rfl | rfl | rfl | rfl | rfl | rfl | rfl | rfl
          · exact hQ1
          · exact hQ1
          · exact hQ1
          · exact hQ1
          · exact hQ1
          · exact hQ1
          · exact hQ1
          · exact hQ1
          · exact hQ1
          · exact hQ1
          · exact hQ1
          · exact hQ1
          · exact hQ1
          · exact hQ1
          · exact hQ1
          · exact hQ1
          · exact hQ1
          · exact hQ1
          · exact hQ1
          · exact hQ1
          · exact hQ1
          · exact hQ1
          · exact hQ1
          · exact hQ1
          · exact hQ1
          · exact hQ1
          · exact hQ1
          · exact hQ1
          · exact hQ1
          · exact hQ1
          · exact hQ1
          · exact hQ1
          · exact hQ1
        · refine ⟨⟨rfl, ⟨rfl, trivial⟩, ?_⟩, ⟨rfl, ⟨rfl, trivial⟩, ?_⟩, ⟨rfl, ⟨rfl, trivial⟩, ?_⟩, ⟨rfl, trivial, ?_⟩, ⟨rfl, trivial, ?_⟩, ⟨rfl, ⟨rfl, trivial⟩, ?_⟩, ⟨rfl, trivial, ?_⟩, ⟨rfl, ⟨rfl, trivial⟩, ?_⟩, ⟨rfl, ⟨rfl, trivial⟩, ?_⟩, ⟨rfl, ⟨rfl, trivial⟩, ?_⟩, ⟨rfl, trivial, ?_⟩, ⟨rfl, trivial, ?_⟩, ⟨rfl, ⟨rfl, trivial⟩, ?_⟩, ⟨rfl, trivial, ?_⟩, ⟨rfl, trivial, ?_⟩, ⟨rfl, trivial, ?_⟩, ⟨rfl, ⟨rfl, trivial⟩, ?_⟩, ⟨rfl, trivial, ?_⟩, ⟨rfl, ⟨rfl, trivial⟩, ?_⟩, ⟨rfl, ⟨rfl, trivial⟩, ?_⟩, ⟨rfl, trivial, ?_⟩, ⟨rfl, trivial, ?_⟩, ⟨rfl, trivial, ?_⟩, ⟨rfl, ⟨rfl, trivial⟩, ?_⟩, ⟨rfl, trivial, ?_⟩, ⟨rfl, ⟨rfl, trivial⟩, ?_⟩, ⟨rfl, trivial, ?_⟩, ⟨rfl, trivial, ?_⟩, ⟨rfl, trivial, ?_⟩, ⟨rfl, trivial, ?_⟩, ⟨rfl, ⟨rfl, trivial⟩, ?_⟩, ⟨rfl, trivial, ?_⟩, ⟨rfl, trivial, ?_⟩, trivial⟩
          · intro w108 hE
            intro RR
            refine WL.move rfl rfl ?_
            exact WL.done ⟨_, rfl, rfl, rfl, (fun h => absurd h (by decide)), (fun j h => by cases h)⟩
          · intro w109 hE
            intro RR
            refine WL.move rfl rfl ?_
            exact WL.done ⟨_, rfl, rfl, rfl, (fun h => absurd h (by decide)), (fun j h => by cases h)⟩
          · intro w110 hE
            intro RR
            refine WL.fieldA (off := 1) Try.fla24_1 rfl rfl ?_
            exact WL.done ⟨_, rfl, rfl, rfl, (fun h => absurd h (by decide)), (fun j h => by cases h)⟩
          · intro w111 hE
            have hE := hE rfl
            have hS := hS.grow hE
            rintro _ rfl
            intro RR
            refine WL.load Try.underlying3 rfl rfl (Own.vcells (hS.own (i := 3) rfl) 1 _ rfl) rfl ?_
            exact WL.done ⟨_, rfl, ext_refl _, rfl, (fun h => absurd h (by decide)), (fun j h => by cases h)⟩
          · intro w112 hE
            rintro _ rfl
            rintro _ rfl
            intro RR
            refine WL.sub (r := (z93 - Mf)) rfl rfl (wr o113) rfl ?_
            exact WL.done ⟨_, rfl, rfl, rfl, (fun h => absurd h (by decide)), (fun j h => by cases h)⟩
          · intro w114 hE
            intro RR
            refine WL.move rfl rfl ?_
            exact WL.done ⟨_, rfl, rfl, rfl, (fun h => absurd h (by decide)), (fun j h => by cases h)⟩
          · intro w115 hE
            rintro _ rfl
            rintro _ rfl
            intro RR
            refine WL.add (r := ((z93 - Mf) + z103)) rfl rfl (wr o116) rfl ?_
            exact WL.done ⟨_, rfl, rfl, rfl, (fun h => absurd h (by decide)), (fun j h => by cases h)⟩
          · intro w117 hE
            intro RR
            refine WL.move rfl rfl ?_
            exact WL.done ⟨_, rfl, rfl, rfl, (fun h => absurd h (by decide)), (fun j h => by cases h)⟩
          · intro w118 hE
            intro RR
            refine WL.move rfl rfl ?_
            exact WL.done ⟨_, rfl, rfl, rfl, (fun h => absurd h (by decide)), (fun j h => by cases h)⟩
          · intro w119 hE
            intro RR
            refine WL.fieldA (off := 1) Try.fla24_1 rfl rfl ?_
            exact WL.done ⟨_, rfl, rfl, rfl, (fun h => absurd h (by decide)), (fun j h => by cases h)⟩
          · intro w120 hE
            have hE := hE rfl
            have hS := hS.grow hE
            rintro _ rfl
            intro RR
            refine WL.load Try.underlying3 rfl rfl (Own.vcells (hS.own (i := 3) rfl) 1 _ rfl) rfl ?_
            exact WL.done ⟨_, rfl, ext_refl _, rfl, (fun h => absurd h (by decide)), (fun j h => by cases h)⟩
          · intro w121 hE
            rintro _ rfl
            rintro _ rfl
            intro RR
            refine WL.sub (r := (z93 - Mf)) rfl rfl (wr o122) rfl ?_
            exact WL.done ⟨_, rfl, rfl, rfl, (fun h => absurd h (by decide)), (fun j h => by cases h)⟩
          · intro w123 hE
            intro RR
            refine WL.move rfl rfl ?_
            exact WL.done ⟨_, rfl, rfl, rfl, (fun h => absurd h (by decide)), (fun j h => by cases h)⟩
          · intro w124 hE
            rintro _ rfl
            rintro _ rfl
            intro RR
            refine WL.add (r := ((z93 - Mf) + z103)) rfl rfl (wr o125) rfl ?_
            exact WL.done ⟨_, rfl, rfl, rfl, (fun h => absurd h (by decide)), (fun j h => by cases h)⟩
          · intro w126 hE
            rintro _ rfl
            rintro _ rfl
            intro RR
            refine SL.index Try.underlying22 Try.el3 (hS.rd (i := 0) rfl) rfl rfl o127 rfl ?_
            exact WL.done ⟨_, rfl, rfl, rfl, (fun h => absurd h (by decide)), (fun j h => by cases h)⟩
          · intro w128 hE
            have hE := hE rfl
            have hS := hS.grow hE
            rintro _ rfl
            intro RR
            refine WL.load Try.underlying3 rfl rfl (Rd.gi (hS.rd (i := 0) rfl) o127) rfl ?_
            exact WL.done ⟨_, rfl, ext_refl _, rfl, (fun h => absurd h (by decide)), (fun j h => by cases h)⟩
          · intro w129 hE
            intro RR
            refine WL.fieldA (off := 0) Try.fla24_0 rfl rfl ?_
            exact WL.done ⟨_, rfl, rfl, rfl, (fun h => absurd h (by decide)), (fun j h => by cases h)⟩
          · intro w130 hE
            have hE := hE rfl
            have hS := hS.grow hE
            rintro _ rfl
            intro RR
            refine WL.load Try.underlying3 rfl rfl (Own.vcells (hS.own (i := 3) rfl) 0 _ rfl) rfl ?_
            exact WL.done ⟨_, rfl, ext_refl _, rfl, (fun h => absurd h (by decide)), (fun j h => by cases h)⟩
          · intro w131 hE
            intro RR
            refine WL.move rfl rfl ?_
            exact WL.done ⟨_, rfl, rfl, rfl, (fun h => absurd h (by decide)), (fun j h => by cases h)⟩
          · intro w132 hE
            intro RR
            refine WL.move rfl rfl ?_
            exact WL.done ⟨_, rfl, rfl, rfl, (fun h => absurd h (by decide)), (fun j h => by cases h)⟩
          · intro w133 hE
            rintro _ rfl
            rintro _ rfl
            intro RR
            refine SL.index Try.underlying22 Try.el3 (hS.rd (i := 0) rfl) rfl rfl o134 rfl ?_
            exact WL.done ⟨_, rfl, rfl, rfl, (fun h => absurd h (by decide)), (fun j h => by cases h)⟩
          · intro w135 hE
            have hE := hE rfl
            have hS := hS.grow hE
            rintro _ rfl
            intro RR
            refine WL.load Try.underlying3 rfl rfl (Rd.gi (hS.rd (i := 0) rfl) o134) rfl ?_
            exact WL.done ⟨_, rfl, ext_refl _, rfl, (fun h => absurd h (by decide)), (fun j h => by cases h)⟩
          · intro w136 hE
            rintro _ rfl
            rintro _ rfl
            intro RR
            refine WL.sub (r := (Pf - (gi x102 z93))) rfl rfl (wr o137) rfl ?_
            exact WL.done ⟨_, rfl, rfl, rfl, (fun h => absurd h (by decide)), (fun j h => by cases h)⟩
          · intro w138 hE
            intro RR
            refine WL.fieldA (off := 2) Try.fla24_2 rfl rfl ?_
            exact WL.done ⟨_, rfl, rfl, rfl, (fun h => absurd h (by decide)), (fun j h => by cases h)⟩
          · intro w139 hE
            have hE := hE rfl
            have hS := hS.grow hE
            rintro _ rfl
            intro RR
            refine WL.load Try.underlying22 rfl rfl (Own.vcells (hS.own (i := 3) rfl) 2 _ rfl) rfl ?_
            exact WL.done ⟨_, rfl, ext_refl _, rfl, (fun h => absurd h (by decide)), (fun j h => by cases h)⟩
          · intro w140 hE
            intro RR
            refine WL.move rfl rfl ?_
            exact WL.done ⟨_, rfl, rfl, rfl, (fun h => absurd h (by decide)), (fun j h => by cases h)⟩
          · intro w141 hE
            rintro _ rfl
            rintro _ rfl
            intro RR
            refine SL.index Try.underlying22 Try.el3 (hS.ro hf) rfl rfl o142 rfl ?_
            exact WL.done ⟨_, rfl, rfl, rfl, (fun h => absurd h (by decide)), (fun j h => by cases h)⟩
          · intro w143 hE
            have hE := hE rfl
            have hS := hS.grow hE
            rintro _ rfl
            intro RR
            refine WL.load Try.underlying3 rfl rfl (Rd.gi (hS.ro hf) o142) rfl ?_
            exact WL.done ⟨_, rfl, ext_refl _, rfl, (fun h => absurd h (by decide)), (fun j h => by cases h)⟩
          · intro w144 hE
            rintro _ rfl
            rintro _ rfl
            intro RR
            refine WL.mul (r := ((Pf - (gi x102 z93)) * (gi mf z103))) rfl rfl (wr o145) rfl ?_
            exact WL.done ⟨_, rfl, rfl, rfl, (fun h => absurd h (by decide)), (fun j h => by cases h)⟩
          · intro w146 hE
            rintro _ rfl
            rintro _ rfl
            intro RR
            refine WL.add (r := ((gi x102 ((z93 - Mf) + z103)) + ((Pf - (gi x102 z93)) * (gi mf z103)))) rfl rfl (wr o147) rfl ?_
            exact WL.done ⟨_, rfl, rfl, rfl, (fun h => absurd h (by decide)), (fun j h => by cases h)⟩
          · intro w148 hE
            intro RR
            refine WL.fieldA (off := 0) Try.fla24_0 rfl rfl ?_
            exact WL.done ⟨_, rfl, rfl, rfl, (fun h => absurd h (by decide)), (fun j h => by cases h)⟩
          · intro w149 hE
            have hE := hE rfl
            have hS := hS.grow hE
            rintro _ rfl
            intro RR
            refine WL.load Try.underlying3 rfl rfl (Own.vcells (hS.own (i := 3) rfl) 0 _ rfl) rfl ?_
            exact WL.done ⟨_, rfl, ext_refl _, rfl, (fun h => absurd h (by decide)), (fun j h => by cases h)⟩
          · intro w150 hE
            rintro _ rfl
            rintro _ rfl
            intro RR
            refine WL.rem (r := (((gi x102 ((z93 - Mf) + z103)) + ((Pf - (gi x102 z93)) * (gi mf z103))).tmod Pf)) rfl rfl o151 rfl rfl ?_
            exact WL.done ⟨_, rfl, rfl, rfl, (fun h => absurd h (by decide)), (fun j h => by cases h)⟩
        · intro vals w152 hT hVs hAp hCp
          have hS := hS.grow hT
          have hv0 : vals 0 = _ := hVs 0 (by decide)
          have hv1 : vals 1 = _ := hVs 1 (by decide)
          have hv2 : vals 2 = _ := hVs 2 (by decide)
          have hv3 : vals 3 = _ := hVs 3 (by decide)
          have hv4 : vals 4 = _ := hVs 4 (by decide)
          have hv5 : vals 5 = _ := hVs 5 (by decide)
          have hv6 : vals 6 = _ := hVs 6 (by decide)
          have hv7 : vals 7 = _ := hVs 7 (by decide)
          have hv8 : vals 8 = _ := hVs 8 (by decide)
          have hv9 : vals 9 = _ := hVs 9 (by decide)
          have hv10 : vals 10 = _ := hVs 10 (by decide)
          have hv11 : vals 11 = _ := hVs 11 (by decide)
          have hv12 : vals 12 = _ := hVs 12 (by decide)
          have hv13 : vals 13 = _ := hVs 13 (by decide)
          have hv14 : vals 14 = _ := hVs 14 (by decide)
          have hv15 : vals 15 = _ := hVs 15 (by decide)
          have hv16 : vals 16 = _ := hVs 16 (by decide)
          have hv17 : vals 17 = _ := hVs 17 (by decide)
          have hv18 : vals 18 = _ := hVs 18 (by decide)
          have hv19 : vals 19 = _ := hVs 19 (by decide)
          have hv20 : vals 20 = _ := hVs 20 (by decide)
          have hv21 : vals 21 = _ := hVs 21 (by decide)
          have hv22 : vals 22 = _ := hVs 22 (by decide)
          have hv23 : vals 23 = _ := hVs 23 (by decide)
          have hv24 : vals 24 = _ := hVs 24 (by decide)
          have hv25 : vals 25 = _ := hVs 25 (by decide)
          have hv26 : vals 26 = _ := hVs 26 (by decide)
          have hv27 : vals 27 = _ := hVs 27 (by decide)
          have hv28 : vals 28 = _ := hVs 28 (by decide)
          have hv29 : vals 29 = _ := hVs 29 (by decide)
          have hv30 : vals 30 = _ := hVs 30 (by decide)
          have hv31 : vals 31 = _ := hVs 31 (by decide)
          have hv32 : vals 32 = _ := hVs 32 (by decide)
          rw [show (List.filterMap (fun i => Option.map (fun t => (t, vals i)) (dstAt _ i)) (List.range _)) = [(77, .slice A26 ((((2 : Int) * Mf) - (1 : Int)).toNat) ((((2 : Int) * Mf) - (1 : Int)).toNat)), (78, .int .i64 z93), (79, .pointer (some ((⟨g11, 0, none⟩ : Addr).add 1))), (80, .int .i64 Mf), (81, .int .i64 (z93 - Mf)), (82, .int .i64 z103), (83, .int .i64 ((z93 - Mf) + z103)), (84, .slice A26 ((((2 : Int) * Mf) - (1 : Int)).toNat) ((((2 : Int) * Mf) - (1 : Int)).toNat)), (85, .int .i64 z93), (86, .pointer (some ((⟨g11, 0, none⟩ : Addr).add 1))), (87, .int .i64 Mf), (88, .int .i64 (z93 - Mf)), (89, .int .i64 z103), (90, .int .i64 ((z93 - Mf) + z103)), (91, .pointer (some ((adOf A26).add (((z93 - Mf) + z103).toNat)))), (92, .int .i64 (gi x102 ((z93 - Mf) + z103))), (93, .pointer (some ⟨g11, 0, none⟩)), (94, .int .i64 Pf), (95, .slice A26 ((((2 : Int) * Mf) - (1 : Int)).toNat) ((((2 : Int) * Mf) - (1 : Int)).toNat)), (96, .int .i64 z93), (97, .pointer (some ((adOf A26).add z93.toNat))), (98, .int .i64 (gi x102 z93)), (99, .int .i64 (Pf - (gi x102 z93))), (100, .pointer (some ((⟨g11, 0, none⟩ : Addr).add 2))), (101, .slice Af mf.length kf), (102, .int .i64 z103), (103, .pointer (some ((adOf Af).add z103.toNat))), (104, .int .i64 (gi mf z103)), (105, .int .i64 ((Pf - (gi x102 z93)) * (gi mf z103))), (106, .int .i64 ((gi x102 ((z93 - Mf) + z103)) + ((Pf - (gi x102 z93)) * (gi mf z103)))), (107, .pointer (some ⟨g11, 0, none⟩)), (108, .int .i64 Pf), (109, .int .i64 (((gi x102 ((z93 - Mf) + z103)) + ((Pf - (gi x102 z93)) * (gi mf z103))).tmod Pf))] from by
            show [(77, vals 0), (78, vals 1), (79, vals 2), (80, vals 3), (81, vals 4), (82, vals 5), (83, vals 6), (84, vals 7), (85, vals 8), (86, vals 9), (87, vals 10), (88, vals 11), (89, vals 12), (90, vals 13), (91, vals 14), (92, vals 15), (93, vals 16), (94, vals 17), (95, vals 18), (96, vals 19), (97, vals 20), (98, vals 21), (99, vals 22), (100, vals 23), (101, vals 24), (102, vals 25), (103, vals 26), (104, vals 27), (105, vals 28), (106, vals 29), (107, vals 30), (108, vals 31), (109, vals 32)] = _
            rw [hv0, hv1, hv2, hv3, hv4, hv5, hv6, hv7, hv8, hv9, hv10, hv11, hv12, hv13, hv14, hv15, hv16, hv17, hv18, hv19, hv20, hv21, hv22, hv23, hv24, hv25, hv26, hv27, hv28, hv29, hv30, hv31, hv32]]
          refine WA.step [33] (by decide +kernel) rfl ?_
          intro iQ hQ
          simp only [List.mem_cons, List.not_mem_nil, or_false] at hQ
          obtain rfl := hQ
          refine ⟨_, rfl, ?_⟩
          obtain ⟨o153, hv⟩ := hv
          refine SL.index Try.underlying22 Try.el3 (hS.rd (i := 0) rfl) rfl rfl o153 rfl ?_
          refine WL.done ?_
          refine WA.step [34] (by decide +kernel) rfl ?_
          intro iQ hQ
          simp only [List.mem_cons, List.not_mem_nil, or_false] at hQ
          obtain rfl := hQ
          refine ⟨_, rfl, ?_⟩
          refine SL.store (cs' := is (si x102 ((z93 - Mf) + z103) (((gi x102 ((z93 - Mf) + z103)) + ((Pf - (gi x102 z93)) * (gi mf z103))).tmod Pf))) 0 ((z93 - Mf) + z103).toNat hS rfl Try.el3 rfl rfl rfl (is_lt (hS.rd (i := 0) rfl) o153) (is_set _ _ _) ?_
          intro w154 hS
          refine WL.done ?_
          refine WA.done (by decide +kernel) ?_
          refine W.region ?_
          refine WL.move rfl rfl ?_
          obtain ⟨o155, hv⟩ := hv
          refine WL.add (r := (z103 + (1 : Int))) rfl rfl (wr o155) rfl ?_
          refine WL.assign rfl rfl ?_
          refine WL.done ?_
          change St _ _ _ _ [.row 3 1 A26 ((((2 : Int) * Mf) - (1 : Int)).toNat) ((((2 : Int) * Mf) - (1 : Int)).toNat) (is (si x102 ((z93 - Mf) + z103) (((gi x102 ((z93 - Mf) + z103)) + ((Pf - (gi x102 z93)) * (gi mf z103))).tmod Pf))), .row 3 1 A20 x19.length k21 (is x19), .row 3 1 A15 x14.length k16 (is x14), .row 24 3 (some ⟨g11, 0, none⟩) 1 1 [.int .i64 Pf, .int .i64 Mf, .slice Af mf.length kf]] at hS
          exact ⟨(si x102 ((z93 - Mf) + z103) (((gi x102 ((z93 - Mf) + z103)) + ((Pf - (gi x102 z93)) * (gi mf z103))).tmod Pf), (z103 + (1 : Int))), ⟨rfl, rfl, rfl, rfl, rfl, rfl, trivial⟩, hv.2, rfl, hv.1, hS⟩
      · have hv := hv.2 (of_decide_eq_false c107)
        refine W.exit ?_
        refine W.region ?_
        refine WL.move rfl rfl ?_
        obtain ⟨o156, hv⟩ := hv
        refine WL.sub (r := (z93 - (1 : Int))) rfl rfl (wr o156) rfl ?_
        refine WL.assign rfl rfl ?_
        refine WL.done ?_
        change St _ _ _ _ [.row 3 1 A26 ((((2 : Int) * Mf) - (1 : Int)).toNat) ((((2 : Int) * Mf) - (1 : Int)).toNat) (is x102), .row 3 1 A20 x19.length k21 (is x19), .row 3 1 A15 x14.length k16 (is x14), .row 24 3 (some ⟨g11, 0, none⟩) 1 1 [.int .i64 Pf, .int .i64 Mf, .slice Af mf.length kf]] at hS
        exact ⟨(x102, (z93 - (1 : Int))), ⟨rfl, rfl, rfl, rfl, trivial⟩, hv.2, rfl, hv.1, hS⟩
    · have hv := hv.2 (of_decide_eq_false c97)
      refine W.exit ?_
      refine W.seq ?_
      obtain ⟨o163, hv⟩ := hv
      obtain ⟨r165, o167, hv⟩ := hv
      have hS0 := hS
      refine W.drawX 7 (fun _ => false) (fun _ => none) [⟨[], [3], false⟩, ⟨[], [9], true⟩, ⟨[], [3], true⟩, ⟨[2], [], false⟩, ⟨[1, 3], [], true⟩, ⟨[0, 4], [], false⟩, ⟨[5], [], true⟩] [[(3, .pointer (some ⟨g11, 0, none⟩))], [(9, .slice A26 ((((2 : Int) * Mf) - (1 : Int)).toNat) ((((2 : Int) * Mf) - (1 : Int)).toNat))], [(3, .pointer (some ⟨g11, 0, none⟩))], [], [], [], []] (fun iQ => [fun v _ => v = .agg #[.int .i64 Pf, .int .i64 Mf, .slice Af mf.length kf], fun v _ => v = .slice A26 ((((2 : Int) * Mf) - (1 : Int)).toNat) ((((2 : Int) * Mf) - (1 : Int)).toNat), fun v _ => v = .pointer (some ((⟨g11, 0, none⟩ : Addr).add 1)), fun v _ => v = .int .i64 Mf, fun v _ => v = .slice A26 ((x92.take Mf.toNat).length) ((((2 : Int) * Mf) - (1 : Int)).toNat), fun v _ => v = .int .i64 r165, fun v _ => v = .int .i64 r165].getD iQ (fun _ _ => True)) Try.mixed (by kernel_rfl) ?_ (by kernel_rfl) ?_ ?_
      · refine Vs_monoT _ ?_
        intro VQ hVQ vQ wQ1 wQ2 hQ1 hQ2
        simp only [List.mem_cons, List.not_mem_nil, or_false] at hVQ
        rcases hVQ with rfl | rfl | rfl | rfl | rfl | rfl | rfl
        · exact hQ1
        · exact hQ1
        · exact hQ1
        · exact hQ1
        · exact hQ1
        · exact hQ1
        · exact hQ1
      · refine ⟨⟨rfl, ⟨rfl, trivial⟩, ?_⟩, ⟨rfl, ⟨rfl, trivial⟩, ?_⟩, ⟨rfl, ⟨rfl, trivial⟩, ?_⟩, ⟨rfl, trivial, ?_⟩, ⟨rfl, trivial, ?_⟩, ⟨rfl, trivial, ?_⟩, ⟨rfl, trivial, ?_⟩, trivial⟩
        · intro w158 hE
          have hE := hE rfl
          have hS := hS.grow hE
          intro RR
          refine WL.loadV (cs := [.int .i64 Pf, .int .i64 Mf, .slice Af mf.length kf]) Try.el24 Try.agg24 rfl rfl (Own.vcells (hS.own (i := 3) rfl)) rfl ?_
          exact WL.done ⟨_, rfl, ext_refl _, rfl, (fun h => absurd h (by decide)), (fun j h => by cases h)⟩
        · intro w159 hE
          intro RR
          refine WL.move rfl rfl ?_
          exact WL.done ⟨_, rfl, rfl, rfl, (fun h => absurd h (by decide)), (fun j h => by cases h)⟩
        · intro w160 hE
          intro RR
          refine WL.fieldA (off := 1) Try.fla24_1 rfl rfl ?_
          exact WL.done ⟨_, rfl, rfl, rfl, (fun h => absurd h (by decide)), (fun j h => by cases h)⟩
        · intro w161 hE
          have hE := hE rfl
          have hS := hS.grow hE
          rintro _ rfl
          intro RR
          refine WL.load Try.underlying3 rfl rfl (Own.vcells (hS.own (i := 3) rfl) 1 _ rfl) rfl ?_
          exact WL.done ⟨_, rfl, ext_refl _, rfl, (fun h => absurd h (by decide)), (fun j h => by cases h)⟩
        · intro w162 hE
          rintro _ rfl
          rintro _ rfl
          intro RR
          refine SL.slTo Try.underlying22 Try.el3 (hS.rd (i := 0) rfl) rfl rfl o163 rfl (x92.take Mf.toNat).length (pre_len (hS.rd (i := 0) rfl) o163) ?_
          exact WL.done ⟨_, rfl, rfl, rfl, (fun h => absurd h (by decide)), (fun j h => by cases h)⟩
        · intro w164 hE
          have hE := hE rfl
          have hS := hS.grow hE
          rintro _ rfl
          rintro _ rfl
          intro RR
          refine WL.call Try.func58 rfl Try.nm58 rfl rfl (calls_un (ok_rValue (hS.ro hf) (Rd.pre (hS.rd (i := 0) rfl) o163) o167)) ?_
          rintro _ w166 ⟨_, hGw166, hRww166, hNww166, r165q, rfl, rfl, he⟩
          subst he
          exact WL.done ⟨_, rfl, hGw166, rfl, (fun h => absurd h (by decide)), (fun j h => by cases h)⟩
        · intro w168 hE
          rintro _ rfl
          intro RR
          refine WL.assign rfl rfl ?_
          exact WL.done ⟨_, rfl, rfl, rfl, (fun h => absurd h (by decide)), (fun j h => by cases h)⟩
      · intro vals w169 hT hVs hAp hCp
        have hS := hS.grow hT
        have hv0 : vals 0 = _ := hVs 0 (by decide)
        have hv1 : vals 1 = _ := hVs 1 (by decide)
        have hv2 : vals 2 = _ := hVs 2 (by decide)
        have hv3 : vals 3 = _ := hVs 3 (by decide)
        have hv4 : vals 4 = _ := hVs 4 (by decide)
        have hv5 : vals 5 = _ := hVs 5 (by decide)
        have hv6 : vals 6 = _ := hVs 6 (by decide)
        rw [show (List.filterMap (fun i => Option.map (fun t => (t, vals i)) (dstAt _ i)) (List.range _)) = [(111, .agg #[.int .i64 Pf, .int .i64 Mf, .slice Af mf.length kf]), (112, .slice A26 ((((2 : Int) * Mf) - (1 : Int)).toNat) ((((2 : Int) * Mf) - (1 : Int)).toNat)), (113, .pointer (some ((⟨g11, 0, none⟩ : Addr).add 1))), (114, .int .i64 Mf), (115, .slice A26 ((x92.take Mf.toNat).length) ((((2 : Int) * Mf) - (1 : Int)).toNat)), (116, .int .i64 r165), (6, .int .i64 r165)] from by
          show [(111, vals 0), (112, vals 1), (113, vals 2), (114, vals 3), (115, vals 4), (116, vals 5), (6, vals 6)] = _
          rw [hv0, hv1, hv2, hv3, hv4, hv5, hv6]]
        refine WA.done (by decide +kernel) ?_
        refine W.ret ?_
        refine ⟨_, rfl, Fin.nil ?_⟩
        exact ⟨_, hS.ext, (hS.pick [] rfl).rows, News.of (hS.pick [] rfl).rows rfl, ⟨r165, rfl, rfl, hv⟩⟩
end Go.Proofs.Ytlibahphimfmjaa
set_option linter.unusedSimpArgs false
set_option linter.unusedVariables false
namespace Go.Proofs.Ytlibahphimfmjaa
open Go.RowKit
end Go.Proofs.Ytlibahphimfmjaa
set_option linter.unusedSimpArgs false
set_option linter.unusedVariables false
namespace Go.Proofs.Ytlibahphimfmjaa
open Go.RowKit
end Go.Proofs.Ytlibahphimfmjaa
set_option linter.unusedSimpArgs false
set_option linter.unusedVariables false
namespace Go.Proofs.Ytlibahphimfmjaa
open Go.RowKit
end Go.Proofs.Ytlibahphimfmjaa
