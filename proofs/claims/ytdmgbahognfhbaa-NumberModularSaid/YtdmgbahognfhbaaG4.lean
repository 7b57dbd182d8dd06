/- Contracts of functions of the program, and what they lean on: N3, N4, N5, N6. -/
import Derived.Test.YtdmgbahognfhbaaG3
set_option linter.unusedSimpArgs false
set_option linter.unusedVariables false
namespace Go.Proofs.Ytdmgbahognfhbaa
open Go.RowKit
theorem PrimePower_out {w : World} {X : Int} (hX : -9223372036854775808 ≤ X ∧ X ≤ 9223372036854775807) (hXo : ¬ (1 ≤ X ∧ X ≤ 2147483647)) :
    Calls Try.prog 18 #[.int .i64 X] w fun e w2 => ∃ v, e = .returned v ∧ (fun v w2 => v = .tuple #[.int .i64 0, .int .i64 0, .int .i64 6] ∧ w.grownBy w2 none) v w2 := by
  have hB := ext_refl w
  refine calls_of_W (vs := [.int .i64 X]) [2, 3, 4] Try.func18 rfl rfl rfl rfl ?_
  refine W.seq ?_
  refine W.region ?_
  refine WL.assign rfl rfl ?_
  refine WL.assign rfl rfl ?_
  refine WL.assign rfl rfl ?_
  refine WL.done ?_
  refine W.seq ?_
  refine W.region ?_
  refine WL.move rfl rfl ?_
  refine WL.call Try.func16 rfl Try.nm16 rfl rfl (Factor_out (by omega) (by omega)) ?_
  rintro _ w11 ⟨rfl, hGw11⟩
  have hB := ext_trans hB hGw11
  refine WL.move rfl rfl ?_
  refine WL.extract rfl rfl rfl ?_
  refine WL.extract rfl rfl rfl ?_
  refine WL.assign rfl rfl ?_
  refine WL.assign rfl rfl ?_
  refine WL.done ?_
  refine W.seq ?_
  refine W.seq ?_
  refine W.region ?_
  refine WL.move rfl rfl ?_
  refine WL.neq rfl rfl rfl (fun c12 => ?_) (fun c12 => ?_)
  · refine WL.done ?_
    refine W.condT rfl ?_
    refine W.seq ?_
    refine W.region ?_
    refine WL.move rfl rfl ?_
    refine WL.assign rfl rfl ?_
    refine WL.assign rfl rfl ?_
    refine WL.assign rfl rfl ?_
    refine WL.done ?_
    refine W.ret ?_
    refine ⟨_, rfl, ?_⟩
    exact ⟨rfl, hB⟩
  · exfalso
    omega

theorem PrimePower_ok {w : World} (n : Nat) {X : Int} (hX : X = n) (L : List (Nat × Nat)) (hF : IsFac n L) (hn1 : 1 ≤ n) (hn : n < 2147483648) :
    Calls Try.prog 18 #[.int .i64 X] w fun e w2 => ∃ v, e = .returned v ∧ (fun v w2 => v = .tuple #[.int .i64 (((ppS L).1 : Nat) : Int), .int .i64 (((ppS L).2.1 : Nat) : Int), .int .i64 (((ppS L).2.2 : Nat) : Int)] ∧ w.grownBy w2 none) v w2 := by
  have hLl := hF.len_lt hn
  have hbd := hF.bd hn
  have hB := ext_refl w
  refine calls_of_W (vs := [.int .i64 X]) [2, 3, 4] Try.func18 rfl rfl rfl rfl ?_
  refine W.seq ?_
  refine W.region ?_
  refine WL.assign rfl rfl ?_
  refine WL.assign rfl rfl ?_
  refine WL.assign rfl rfl ?_
  refine WL.done ?_
  refine W.seq ?_
  refine W.region ?_
  refine WL.move rfl rfl ?_
  refine WL.call Try.func16 rfl Try.nm16 rfl rfl (Factor_ok n (by omega) L hF (by omega) (by omega)) ?_
  rintro _ w11 ⟨A12, m13, c14, rfl, hGw11, hf⟩
  have hf := hf.low (b' := w.heap.size) hB.size
  have hB := ext_trans hB hGw11
  have hf_l := hf.rd.plen
  refine WL.move rfl rfl ?_
  refine WL.extract rfl rfl rfl ?_
  refine WL.extract rfl rfl rfl ?_
  refine WL.assign rfl rfl ?_
  refine WL.assign rfl rfl ?_
  refine WL.done ?_
  refine W.seq ?_
  refine W.seq ?_
  refine W.region ?_
  refine WL.move rfl rfl ?_
  refine WL.neq rfl rfl rfl (fun c15 => ?_) (fun c15 => ?_)
  · exfalso
    omega
  · refine WL.done ?_
    refine W.condF rfl ?_
    refine W.skip ?_
    refine W.seq ?_
    refine W.seq ?_
    refine W.region ?_
    refine WL.move rfl rfl ?_
    refine WL.len Try.underlying23 rfl rfl ?_
    refine WL.neq rfl rfl rfl (fun c16 => ?_) (fun c16 => ?_)
    · refine WL.done ?_
      refine W.condT rfl ?_
      refine W.seq ?_
      refine W.region ?_
      refine WL.assign rfl rfl ?_
      refine WL.assign rfl rfl ?_
      refine WL.assign rfl rfl ?_
      refine WL.done ?_
      refine W.ret ?_
      refine ⟨_, rfl, ?_⟩
      first
      | (rw [ppS_ne (by omega)]; exact ⟨rfl, hB⟩)
      | (rw [ppS_one (by omega)]; exact ⟨rfl, hB⟩)
    · refine WL.done ?_
      refine W.condF rfl ?_
      refine W.skip ?_
      refine W.seq ?_
      refine W.drawT 9 [⟨[], [5], true⟩, ⟨[0], [], true⟩, ⟨[1], [], true⟩, ⟨[2], [], false⟩, ⟨[], [5], true⟩, ⟨[4], [], true⟩, ⟨[5], [], true⟩, ⟨[6], [], false⟩, ⟨[3], [], true⟩] [[(5, .slice A12 m13 c14)], [], [], [], [(5, .slice A12 m13 c14)], [], [], [], []] (fun iQ => [fun v wQ => v = .slice A12 m13 c14, fun v wQ => v = .pointer (some ((adOf A12).add (0 * 2))), fun v wQ => v = .pointer (some (((adOf A12).add (0 * 2)).add 0)), fun v wQ => v = .int .i64 (((L.getD 0 (0, 0)).1 : Nat) : Int), fun v wQ => v = .slice A12 m13 c14, fun v wQ => v = .pointer (some ((adOf A12).add (0 * 2))), fun v wQ => v = .pointer (some (((adOf A12).add (0 * 2)).add 1)), fun v wQ => v = .int .i64 (((L.getD 0 (0, 0)).2 : Nat) : Int), fun v wQ => v = .int .i64 (((L.getD 0 (0, 0)).1 : Nat) : Int)].getD iQ (fun _ _ => True)) Try.mixed (by kernel_rfl) ?_ ?_ ?_
      · refine Vs_monoT _ ?_
        intro VQ hVQ vQ wQ1 wQ2 hQ1 hQ2
        simp only [List.mem_cons, List.not_mem_nil, or_false] at hVQ
        rcases hVQ with rfl | rfl | rfl | rfl | rfl | rfl | rfl | rfl | rfl
        · exact hQ1
        · exact hQ1
        · exact hQ1
        · exact hQ1
        · exact hQ1
        · exact hQ1
        · exact hQ1
        · exact hQ1
        · exact hQ1
      · refine ⟨⟨rfl, ⟨rfl, trivial⟩, ?_⟩, ⟨rfl, trivial, ?_⟩, ⟨rfl, trivial, ?_⟩, ⟨rfl, trivial, ?_⟩, ⟨rfl, ⟨rfl, trivial⟩, ?_⟩, ⟨rfl, trivial, ?_⟩, ⟨rfl, trivial, ?_⟩, ⟨rfl, trivial, ?_⟩, ⟨rfl, trivial, ?_⟩, trivial⟩
        · intro w17 hE
          intro R
          refine WL.move rfl rfl ?_
          exact WL.done ⟨_, rfl, rfl, rfl⟩
        · intro w18 hE
          rintro _ rfl
          intro R
          refine WL.index (0) Try.underlying23 Try.el37 rfl rfl (by omega) (by omega) hf.rd rfl ?_
          exact WL.done ⟨_, rfl, rfl, rfl⟩
        · intro w19 hE
          rintro _ rfl
          intro R
          refine WL.fieldA (off := 0) Try.fla37_0 rfl rfl ?_
          exact WL.done ⟨_, rfl, rfl, rfl⟩
        · intro w20 hE
          have hE := hE rfl
          have hB := ext_trans hB hE
          have hf := hf.ext hE
          rintro _ rfl
          intro R
          refine WL.load Try.underlying3 rfl rfl (by rw [add_add]; exact Rd.at_ hf.rd (pc_at (by first | omega | decide)).1) rfl ?_
          exact WL.done ⟨_, rfl, ext_refl _, rfl⟩
        · intro w21 hE
          intro R
          refine WL.move rfl rfl ?_
          exact WL.done ⟨_, rfl, rfl, rfl⟩
        · intro w22 hE
          rintro _ rfl
          intro R
          refine WL.index (0) Try.underlying23 Try.el37 rfl rfl (by omega) (by omega) hf.rd rfl ?_
          exact WL.done ⟨_, rfl, rfl, rfl⟩
        · intro w23 hE
          rintro _ rfl
          intro R
          refine WL.fieldA (off := 1) Try.fla37_1 rfl rfl ?_
          exact WL.done ⟨_, rfl, rfl, rfl⟩
        · intro w24 hE
          have hE := hE rfl
          have hB := ext_trans hB hE
          have hf := hf.ext hE
          rintro _ rfl
          intro R
          refine WL.load Try.underlying3 rfl rfl (by rw [add_add]; exact Rd.at_ hf.rd (pc_at (by first | omega | decide)).2) rfl ?_
          exact WL.done ⟨_, rfl, ext_refl _, rfl⟩
        · intro w25 hE
          rintro _ rfl
          intro R
          refine WL.assign rfl rfl ?_
          exact WL.done ⟨_, rfl, rfl, rfl⟩
      · intro vals w26 hT hVs
        have hB := ext_trans hB hT
        have hv0 : vals 0 = _ := hVs 0 (by decide)
        have hv1 : vals 1 = _ := hVs 1 (by decide)
        have hv2 : vals 2 = _ := hVs 2 (by decide)
        have hv3 : vals 3 = _ := hVs 3 (by decide)
        have hv4 : vals 4 = _ := hVs 4 (by decide)
        have hv5 : vals 5 = _ := hVs 5 (by decide)
        have hv6 : vals 6 = _ := hVs 6 (by decide)
        have hv7 : vals 7 = _ := hVs 7 (by decide)
        have hv8 : vals 8 = _ := hVs 8 (by decide)
        rw [show (List.filterMap (fun i => Option.map (fun t => (t, vals i)) (dstAt _ i)) (List.range _)) = [(18, .slice A12 m13 c14), (19, .pointer (some ((adOf A12).add (0 * 2)))), (20, .pointer (some (((adOf A12).add (0 * 2)).add 0))), (21, .int .i64 (((L.getD 0 (0, 0)).1 : Nat) : Int)), (22, .slice A12 m13 c14), (23, .pointer (some ((adOf A12).add (0 * 2)))), (24, .pointer (some (((adOf A12).add (0 * 2)).add 1))), (25, .int .i64 (((L.getD 0 (0, 0)).2 : Nat) : Int)), (2, .int .i64 (((L.getD 0 (0, 0)).1 : Nat) : Int))] from by
          show [(18, vals 0), (19, vals 1), (20, vals 2), (21, vals 3), (22, vals 4), (23, vals 5), (24, vals 6), (25, vals 7), (2, vals 8)] = _
          rw [hv0, hv1, hv2, hv3, hv4, hv5, hv6, hv7, hv8]]
        refine WA.step [9] (by decide +kernel) rfl ?_
        intro iQ hQ
        simp only [List.mem_cons, List.not_mem_nil, or_false] at hQ
        obtain rfl := hQ
        · refine ⟨_, rfl, ?_⟩
          refine WL.assign rfl rfl ?_
          refine WL.done ?_
          refine WA.step [10] (by decide +kernel) rfl ?_
          intro iQ hQ
          simp only [List.mem_cons, List.not_mem_nil, or_false] at hQ
          obtain rfl := hQ
          · refine ⟨_, rfl, ?_⟩
            refine WL.assign rfl rfl ?_
            refine WL.done ?_
            refine WA.done (by decide +kernel) ?_
            refine W.ret ?_
            refine ⟨_, rfl, ?_⟩
            first
            | (rw [ppS_ne (by omega)]; exact ⟨rfl, hB⟩)
            | (rw [ppS_one (by omega)]; exact ⟨rfl, hB⟩)

theorem rPrimePower_out {w : World} {X : Int} (hX : -9223372036854775808 ≤ X ∧ X ≤ 9223372036854775807) (hXo : ¬ (1 ≤ X ∧ X ≤ 2147483647)) :
    Calls Try.prog 19 #[.int .i64 X] w fun e w2 => ∃ v, e = .returned v ∧ (fun v w2 => v = .tuple #[.int .i64 0, .int .i64 0, .int .i64 6] ∧ w.grownBy w2 none) v w2 := by
  have hB := ext_refl w
  refine calls_of_W (vs := [.int .i64 X]) [2, 3, 4] Try.func19 rfl rfl rfl rfl ?_
  refine W.seq ?_
  refine W.region ?_
  refine WL.assign rfl rfl ?_
  refine WL.assign rfl rfl ?_
  refine WL.assign rfl rfl ?_
  refine WL.done ?_
  refine W.seq ?_
  refine W.region ?_
  refine WL.move rfl rfl ?_
  refine WL.call Try.func17 rfl Try.nm17 rfl rfl (rFactor_out (by omega) (by omega)) ?_
  rintro _ w11 ⟨rfl, hGw11⟩
  have hB := ext_trans hB hGw11
  refine WL.move rfl rfl ?_
  refine WL.extract rfl rfl rfl ?_
  refine WL.extract rfl rfl rfl ?_
  refine WL.assign rfl rfl ?_
  refine WL.assign rfl rfl ?_
  refine WL.done ?_
  refine W.seq ?_
  refine W.seq ?_
  refine W.region ?_
  refine WL.move rfl rfl ?_
  refine WL.neq rfl rfl rfl (fun c12 => ?_) (fun c12 => ?_)
  · refine WL.done ?_
    refine W.condT rfl ?_
    refine W.seq ?_
    refine W.region ?_
    refine WL.move rfl rfl ?_
    refine WL.assign rfl rfl ?_
    refine WL.assign rfl rfl ?_
    refine WL.assign rfl rfl ?_
    refine WL.done ?_
    refine W.ret ?_
    refine ⟨_, rfl, ?_⟩
    exact ⟨rfl, hB⟩
  · exfalso
    omega

theorem rPrimePower_ok {w : World} (n : Nat) {X : Int} (hX : X = n) (L : List (Nat × Nat)) (hF : IsFac n L) (hn1 : 1 ≤ n) (hn : n < 2147483648) :
    Calls Try.prog 19 #[.int .i64 X] w fun e w2 => ∃ v, e = .returned v ∧ (fun v w2 => v = .tuple #[.int .i64 (((ppS L).1 : Nat) : Int), .int .i64 (((ppS L).2.1 : Nat) : Int), .int .i64 (((ppS L).2.2 : Nat) : Int)] ∧ w.grownBy w2 none) v w2 := by
  have hLl := hF.len_lt hn
  have hbd := hF.bd hn
  have hB := ext_refl w
  refine calls_of_W (vs := [.int .i64 X]) [2, 3, 4] Try.func19 rfl rfl rfl rfl ?_
  refine W.seq ?_
  refine W.region ?_
  refine WL.assign rfl rfl ?_
  refine WL.assign rfl rfl ?_
  refine WL.assign rfl rfl ?_
  refine WL.done ?_
  refine W.seq ?_
  refine W.region ?_
  refine WL.move rfl rfl ?_
  refine WL.call Try.func17 rfl Try.nm17 rfl rfl (rFactor_ok n (by omega) L hF (by omega) (by omega)) ?_
  rintro _ w11 ⟨A12, m13, c14, rfl, hGw11, hf⟩
  have hf := hf.low (b' := w.heap.size) hB.size
  have hB := ext_trans hB hGw11
  have hf_l := hf.rd.plen
  refine WL.move rfl rfl ?_
  refine WL.extract rfl rfl rfl ?_
  refine WL.extract rfl rfl rfl ?_
  refine WL.assign rfl rfl ?_
  refine WL.assign rfl rfl ?_
  refine WL.done ?_
  refine W.seq ?_
  refine W.seq ?_
  refine W.region ?_
  refine WL.move rfl rfl ?_
  refine WL.neq rfl rfl rfl (fun c15 => ?_) (fun c15 => ?_)
  · exfalso
    omega
  · refine WL.done ?_
    refine W.condF rfl ?_
    refine W.skip ?_
    refine W.seq ?_
    refine W.seq ?_
    refine W.region ?_
    refine WL.move rfl rfl ?_
    refine WL.len Try.underlying23 rfl rfl ?_
    refine WL.neq rfl rfl rfl (fun c16 => ?_) (fun c16 => ?_)
    · refine WL.done ?_
      refine W.condT rfl ?_
      refine W.seq ?_
      refine W.region ?_
      refine WL.assign rfl rfl ?_
      refine WL.assign rfl rfl ?_
      refine WL.assign rfl rfl ?_
      refine WL.done ?_
      refine W.ret ?_
      refine ⟨_, rfl, ?_⟩
      first
      | (rw [ppS_ne (by omega)]; exact ⟨rfl, hB⟩)
      | (rw [ppS_one (by omega)]; exact ⟨rfl, hB⟩)
    · refine WL.done ?_
      refine W.condF rfl ?_
      refine W.skip ?_
      refine W.seq ?_
      refine W.drawT 9 [⟨[], [5], true⟩, ⟨[0], [], true⟩, ⟨[1], [], true⟩, ⟨[2], [], false⟩, ⟨[], [5], true⟩, ⟨[4], [], true⟩, ⟨[5], [], true⟩, ⟨[6], [], false⟩, ⟨[3], [], true⟩] [[(5, .slice A12 m13 c14)], [], [], [], [(5, .slice A12 m13 c14)], [], [], [], []] (fun iQ => [fun v wQ => v = .slice A12 m13 c14, fun v wQ => v = .pointer (some ((adOf A12).add (0 * 2))), fun v wQ => v = .pointer (some (((adOf A12).add (0 * 2)).add 0)), fun v wQ => v = .int .i64 (((L.getD 0 (0, 0)).1 : Nat) : Int), fun v wQ => v = .slice A12 m13 c14, fun v wQ => v = .pointer (some ((adOf A12).add (0 * 2))), fun v wQ => v = .pointer (some (((adOf A12).add (0 * 2)).add 1)), fun v wQ => v = .int .i64 (((L.getD 0 (0, 0)).2 : Nat) : Int), fun v wQ => v = .int .i64 (((L.getD 0 (0, 0)).1 : Nat) : Int)].getD iQ (fun _ _ => True)) Try.mixed (by kernel_rfl) ?_ ?_ ?_
      · refine Vs_monoT _ ?_
        intro VQ hVQ vQ wQ1 wQ2 hQ1 hQ2
        simp only [List.mem_cons, List.not_mem_nil, or_false] at hVQ
        rcases hVQ with rfl | rfl | rfl | rfl | rfl | rfl | rfl | rfl | rfl
        · exact hQ1
        · exact hQ1
        · exact hQ1
        · exact hQ1
        · exact hQ1
        · exact hQ1
        · exact hQ1
        · exact hQ1
        · exact hQ1
      · refine ⟨⟨rfl, ⟨rfl, trivial⟩, ?_⟩, ⟨rfl, trivial, ?_⟩, ⟨rfl, trivial, ?_⟩, ⟨rfl, trivial, ?_⟩, ⟨rfl, ⟨rfl, trivial⟩, ?_⟩, ⟨rfl, trivial, ?_⟩, ⟨rfl, trivial, ?_⟩, ⟨rfl, trivial, ?_⟩, ⟨rfl, trivial, ?_⟩, trivial⟩
        · intro w17 hE
          intro R
          refine WL.move rfl rfl ?_
          exact WL.done ⟨_, rfl, rfl, rfl⟩
        · intro w18 hE
          rintro _ rfl
          intro R
          refine WL.index (0) Try.underlying23 Try.el37 rfl rfl (by omega) (by omega) hf.rd rfl ?_
          exact WL.done ⟨_, rfl, rfl, rfl⟩
        · intro w19 hE
          rintro _ rfl
          intro R
          refine WL.fieldA (off := 0) Try.fla37_0 rfl rfl ?_
          exact WL.done ⟨_, rfl, rfl, rfl⟩
        · intro w20 hE
          have hE := hE rfl
          have hB := ext_trans hB hE
          have hf := hf.ext hE
          rintro _ rfl
          intro R
          refine WL.load Try.underlying3 rfl rfl (by rw [add_add]; exact Rd.at_ hf.rd (pc_at (by first | omega | decide)).1) rfl ?_
          exact WL.done ⟨_, rfl, ext_refl _, rfl⟩
        · intro w21 hE
          intro R
          refine WL.move rfl rfl ?_
          exact WL.done ⟨_, rfl, rfl, rfl⟩
        · intro w22 hE
          rintro _ rfl
          intro R
          refine WL.index (0) Try.underlying23 Try.el37 rfl rfl (by omega) (by omega) hf.rd rfl ?_
          exact WL.done ⟨_, rfl, rfl, rfl⟩
        · intro w23 hE
          rintro _ rfl
          intro R
          refine WL.fieldA (off := 1) Try.fla37_1 rfl rfl ?_
          exact WL.done ⟨_, rfl, rfl, rfl⟩
        · intro w24 hE
          have hE := hE rfl
          have hB := ext_trans hB hE
          have hf := hf.ext hE
          rintro _ rfl
          intro R
          refine WL.load Try.underlying3 rfl rfl (by rw [add_add]; exact Rd.at_ hf.rd (pc_at (by first | omega | decide)).2) rfl ?_
          exact WL.done ⟨_, rfl, ext_refl _, rfl⟩
        · intro w25 hE
          rintro _ rfl
          intro R
          refine WL.assign rfl rfl ?_
          exact WL.done ⟨_, rfl, rfl, rfl⟩
      · intro vals w26 hT hVs
        have hB := ext_trans hB hT
        have hv0 : vals 0 = _ := hVs 0 (by decide)
        have hv1 : vals 1 = _ := hVs 1 (by decide)
        have hv2 : vals 2 = _ := hVs 2 (by decide)
        have hv3 : vals 3 = _ := hVs 3 (by decide)
        have hv4 : vals 4 = _ := hVs 4 (by decide)
        have hv5 : vals 5 = _ := hVs 5 (by decide)
        have hv6 : vals 6 = _ := hVs 6 (by decide)
        have hv7 : vals 7 = _ := hVs 7 (by decide)
        have hv8 : vals 8 = _ := hVs 8 (by decide)
        rw [show (List.filterMap (fun i => Option.map (fun t => (t, vals i)) (dstAt _ i)) (List.range _)) = [(18, .slice A12 m13 c14), (19, .pointer (some ((adOf A12).add (0 * 2)))), (20, .pointer (some (((adOf A12).add (0 * 2)).add 0))), (21, .int .i64 (((L.getD 0 (0, 0)).1 : Nat) : Int)), (22, .slice A12 m13 c14), (23, .pointer (some ((adOf A12).add (0 * 2)))), (24, .pointer (some (((adOf A12).add (0 * 2)).add 1))), (25, .int .i64 (((L.getD 0 (0, 0)).2 : Nat) : Int)), (2, .int .i64 (((L.getD 0 (0, 0)).1 : Nat) : Int))] from by
          show [(18, vals 0), (19, vals 1), (20, vals 2), (21, vals 3), (22, vals 4), (23, vals 5), (24, vals 6), (25, vals 7), (2, vals 8)] = _
          rw [hv0, hv1, hv2, hv3, hv4, hv5, hv6, hv7, hv8]]
        refine WA.step [9] (by decide +kernel) rfl ?_
        intro iQ hQ
        simp only [List.mem_cons, List.not_mem_nil, or_false] at hQ
        obtain rfl := hQ
        · refine ⟨_, rfl, ?_⟩
          refine WL.assign rfl rfl ?_
          refine WL.done ?_
          refine WA.step [10] (by decide +kernel) rfl ?_
          intro iQ hQ
          simp only [List.mem_cons, List.not_mem_nil, or_false] at hQ
          obtain rfl := hQ
          · refine ⟨_, rfl, ?_⟩
            refine WL.assign rfl rfl ?_
            refine WL.done ?_
            refine WA.done (by decide +kernel) ?_
            refine W.ret ?_
            refine ⟨_, rfl, ?_⟩
            first
            | (rw [ppS_ne (by omega)]; exact ⟨rfl, hB⟩)
            | (rw [ppS_one (by omega)]; exact ⟨rfl, hB⟩)

theorem Phi_out {w : World} {X : Int} (hX : -9223372036854775808 ≤ X ∧ X ≤ 9223372036854775807) (hXo : ¬ (1 ≤ X ∧ X ≤ 2147483647)) :
    Calls Try.prog 37 #[.int .i64 X] w fun e w2 => ∃ v, e = .returned v ∧ (fun v w2 => v = .tuple #[.int .i64 0, .int .i64 6] ∧ w.grownBy w2 none) v w2 := by
  have hB := ext_refl w
  refine calls_of_W (vs := [.int .i64 X]) [2, 3] Try.func37 rfl rfl rfl rfl ?_
  refine W.seq ?_
  refine W.region ?_
  refine WL.assign rfl rfl ?_
  refine WL.assign rfl rfl ?_
  refine WL.done ?_
  refine W.seq ?_
  refine W.region ?_
  refine WL.move rfl rfl ?_
  refine WL.call Try.func16 rfl Try.nm16 rfl rfl (Factor_out (by omega) (by omega)) ?_
  rintro _ w11 ⟨rfl, hGw11⟩
  have hB := ext_trans hB hGw11
  refine WL.move rfl rfl ?_
  refine WL.extract rfl rfl rfl ?_
  refine WL.extract rfl rfl rfl ?_
  refine WL.assign rfl rfl ?_
  refine WL.assign rfl rfl ?_
  refine WL.done ?_
  refine W.seq ?_
  refine W.seq ?_
  refine W.region ?_
  refine WL.move rfl rfl ?_
  refine WL.neq rfl rfl rfl (fun c12 => ?_) (fun c12 => ?_)
  · refine WL.done ?_
    refine W.condT rfl ?_
    refine W.seq ?_
    refine W.region ?_
    refine WL.move rfl rfl ?_
    refine WL.assign rfl rfl ?_
    refine WL.assign rfl rfl ?_
    refine WL.done ?_
    refine W.ret ?_
    refine ⟨_, rfl, ?_⟩
    exact ⟨rfl, hB⟩
  · exfalso
    omega

theorem Phi_ok {w : World} (n : Nat) {X : Int} (hX : X = n) (L : List (Nat × Nat)) (hF : IsFac n L) (hn1 : 1 ≤ n) (hn : n < 2147483648) :
    Calls Try.prog 37 #[.int .i64 X] w fun e w2 => ∃ v, e = .returned v ∧ (fun v w2 => v = .tuple #[.int .i64 ((phiL L : Nat) : Int), .int .i64 0] ∧ w.grownBy w2 none) v w2 := by
  have hLl := hF.len_lt hn
  have hbd := hF.bd hn
  have hphi := phiL_pos hF
  have hB := ext_refl w
  refine calls_of_W (vs := [.int .i64 X]) [2, 3] Try.func37 rfl rfl rfl rfl ?_
  refine W.seq ?_
  refine W.region ?_
  refine WL.assign rfl rfl ?_
  refine WL.assign rfl rfl ?_
  refine WL.done ?_
  refine W.seq ?_
  refine W.region ?_
  refine WL.move rfl rfl ?_
  refine WL.call Try.func16 rfl Try.nm16 rfl rfl (Factor_ok n (by omega) L hF (by omega) (by omega)) ?_
  rintro _ w11 ⟨A12, m13, c14, rfl, hGw11, hf⟩
  have hf := hf.low (b' := w.heap.size) hB.size
  have hB := ext_trans hB hGw11
  have hf_l := hf.rd.plen
  refine WL.move rfl rfl ?_
  refine WL.extract rfl rfl rfl ?_
  refine WL.extract rfl rfl rfl ?_
  refine WL.assign rfl rfl ?_
  refine WL.assign rfl rfl ?_
  refine WL.done ?_
  refine W.seq ?_
  refine W.seq ?_
  refine W.region ?_
  refine WL.move rfl rfl ?_
  refine WL.neq rfl rfl rfl (fun c15 => ?_) (fun c15 => ?_)
  · exfalso
    omega
  · refine WL.done ?_
    refine W.condF rfl ?_
    refine W.skip ?_
    refine W.seq ?_
    refine W.seq ?_
    refine W.region ?_
    have hp0 : phiL (L.take 0) * n = n := Nat.one_mul n
    refine WL.move rfl rfl ?_
    refine WL.len Try.underlying23 rfl rfl ?_
    refine WL.move rfl rfl ?_
    refine WL.done ?_
    refine W.block ?_
    refine W.loop (σ := Nat × Nat × Option Addr × Nat × Nat) (fun s w1 => match s with | (i, x, Ao, mo, co) => w.grownBy w1 none ∧ i ≤ L.length ∧ IsFac x (L.drop i) ∧ phiL (L.take i) * x ≤ n ∧ Own w.heap.size w1 37 2 Ao mo co (pc (L))) (fun s => match s with | (i, x, Ao, mo, co) => [(0, .int .i64 ((phiL (L.take i) * x : Nat) : Int)), (16, .slice Ao mo co), (17, .int .i64 ((mo : Nat) : Int)), (18, .int .i64 ((i : Nat) : Int))]) (fun s => match s with | (i, x, Ao, mo, co) => L.length - i) (0, n, A12, m13, c14) ?_ ?_ ?_
    · exact ⟨hB, by omega, hF, by omega, hf⟩
    · exact ⟨iv (by omega), rfl, iv (by omega), iv (by omega), trivial⟩
    · rintro ⟨i, x, Ao, mo, co⟩ w16 ⟨hB, hi, hF2, hFn, ho⟩
      have ho_l := ho.rd.plen
      refine W.seq ?_
      refine W.region ?_
      refine WL.lss rfl rfl rfl (fun c17 => ?_) (fun c17 => ?_)
      · refine WL.done ?_
        refine W.seq ?_
        refine W.condT rfl ?_
        refine W.skip ?_
        refine W.seq ?_
        refine W.block ?_
        refine W.seq ?_
        refine W.region ?_
        refine WL.index (i) Try.underlying23 Try.el37 rfl rfl (by omega) (by omega) ho.rd rfl ?_
        refine WL.loadV (cs := [.int .i64 (((L.getD i (0, 0)).1 : Nat) : Int), .int .i64 (((L.getD i (0, 0)).2 : Nat) : Int)]) Try.el37 Try.agg37 rfl rfl (pc_load ho.rd (i) (by first | omega | decide)) rfl ?_
        refine WL.alloc Try.el37 rfl ?_
        intro g18 w19 hg_g18 hVg18 hGw19
        change Own _ _ _ _ _ _ _ [.int .i64 (0 : Int), .int .i64 (0 : Int)] at hVg18
        have hap_ho_g18 := ap_old ho hg_g18
        have hVg18 := hVg18.low (b' := w.heap.size) hB.size
        have hB := ext_trans hB hGw19
        have ho := ho.ext hGw19
        refine WL.storeV Try.el37 rfl rfl rfl rfl hVg18 ?_
        have hOld21 := hVg18
        intro w20 hVg18 hGw20
        change Own _ _ _ _ _ _ _ [.int .i64 (((L.getD i (0, 0)).1 : Nat) : Int), .int .i64 (((L.getD i (0, 0)).2 : Nat) : Int)] at hVg18
        have hB := ext_own hB hGw20 (fun g hg => (hOld21.bl_ge g hg).1)
        have ho := ho.grown hGw20 (ap_row hap_ho_g18)
        refine WL.done ?_
        have hil : i < L.length := (by omega); have hFi := hF2; rw [pdrop hil] at hFi; obtain ⟨y, hl, hy, hyp, he0, hF3⟩ := hFi.inv'; have hst := phi_step (F := phiL (L.take i)) (m := y) hl.two he0; rw [← hy] at hst; have hpt := phi_take hil; have hp2 := hl.two; have hpn := (hbd _ (getD_pmem hil)).2.1; have hdl := Nat.div_le_self (phiL (L.take i) * x) (L.getD i (0, 0)).1; have hnx : phiL (L.take i) * x - phiL (L.take i) * x / (L.getD i (0, 0)).1 = phiL (L.take (i + 1)) * y := (by rw [hpt]; exact hst.2.1); have hny : phiL (L.take i) * x / (L.getD i (0, 0)).1 * ((L.getD i (0, 0)).1 - 1) = phiL (L.take (i + 1)) * y := (by rw [hpt]; exact hst.2.2)
        · refine W.region ?_
          refine WL.move rfl rfl ?_
          refine WL.move rfl rfl ?_
          refine WL.fieldA (off := 0) Try.fla37_0 rfl rfl ?_
          refine WL.load Try.underlying3 rfl rfl (hVg18.vcells 0 _ rfl) rfl ?_
          refine WL.quo (r := (((phiL (L.take i) * x) / ((L.getD i (0, 0)).1) : Nat) : Int)) rfl rfl (by omega) (qi64 (by omega) (by omega) (by omega)) rfl ?_
          refine WL.sub (r := ((phiL (L.take i) * x - phiL (L.take i) * x / (L.getD i (0, 0)).1 : Nat) : Int)) rfl rfl (wi64 (by omega) (by omega) (by omega)) rfl ?_
          refine WL.assign rfl rfl ?_
          refine WL.done ?_
          refine W.region ?_
          refine WL.add (r := ((i + 1 : Nat) : Int)) rfl rfl (wi64 (by omega) (by omega) (by omega)) rfl ?_
          refine WL.move rfl rfl ?_
          refine WL.done ?_
          refine ⟨(i + 1, y, Ao, mo, co), ⟨iv (by omega), rfl, iv (by omega), iv (by omega), trivial⟩, by (dsimp only; omega), ?_⟩
          exact ⟨hB, by omega, hF3, by omega, ho⟩
      · refine WL.done ?_
        refine W.seq ?_
        refine W.condF rfl ?_
        refine W.exit ?_
        refine W.seq ?_
        refine W.region ?_
        refine WL.move rfl rfl ?_
        refine WL.assign rfl rfl ?_
        refine WL.assign rfl rfl ?_
        refine WL.done ?_
        refine W.ret ?_
        refine ⟨_, rfl, ?_⟩
        have hiL : i = L.length := by omega
        subst hiL
        rw [List.drop_length] at hF2
        have hx1 := hF2.nil
        subst hx1
        exact ⟨by rw [List.take_length, Nat.mul_one], hB⟩

theorem rPhi_out {w : World} {X : Int} (hX : -9223372036854775808 ≤ X ∧ X ≤ 9223372036854775807) (hXo : ¬ (1 ≤ X ∧ X ≤ 2147483647)) :
    Calls Try.prog 65 #[.int .i64 X] w fun e w2 => ∃ v, e = .returned v ∧ (fun v w2 => v = .tuple #[.int .i64 0, .int .i64 6] ∧ w.grownBy w2 none) v w2 := by
  have hB := ext_refl w
  refine calls_of_W (vs := [.int .i64 X]) [2, 3] Try.func65 rfl rfl rfl rfl ?_
  refine W.seq ?_
  refine W.region ?_
  refine WL.assign rfl rfl ?_
  refine WL.assign rfl rfl ?_
  refine WL.done ?_
  refine W.seq ?_
  refine W.region ?_
  refine WL.move rfl rfl ?_
  refine WL.call Try.func17 rfl Try.nm17 rfl rfl (rFactor_out (by omega) (by omega)) ?_
  rintro _ w11 ⟨rfl, hGw11⟩
  have hB := ext_trans hB hGw11
  refine WL.move rfl rfl ?_
  refine WL.extract rfl rfl rfl ?_
  refine WL.extract rfl rfl rfl ?_
  refine WL.assign rfl rfl ?_
  refine WL.assign rfl rfl ?_
  refine WL.done ?_
  refine W.seq ?_
  refine W.seq ?_
  refine W.region ?_
  refine WL.move rfl rfl ?_
  refine WL.neq rfl rfl rfl (fun c12 => ?_) (fun c12 => ?_)
  · refine WL.done ?_
    refine W.condT rfl ?_
    refine W.seq ?_
    refine W.region ?_
    refine WL.move rfl rfl ?_
    refine WL.assign rfl rfl ?_
    refine WL.assign rfl rfl ?_
    refine WL.done ?_
    refine W.ret ?_
    refine ⟨_, rfl, ?_⟩
    exact ⟨rfl, hB⟩
  · exfalso
    omega

theorem rPhi_ok {w : World} (n : Nat) {X : Int} (hX : X = n) (L : List (Nat × Nat)) (hF : IsFac n L) (hn1 : 1 ≤ n) (hn : n < 2147483648) :
    Calls Try.prog 65 #[.int .i64 X] w fun e w2 => ∃ v, e = .returned v ∧ (fun v w2 => v = .tuple #[.int .i64 ((phiL L : Nat) : Int), .int .i64 0] ∧ w.grownBy w2 none) v w2 := by
  have hLl := hF.len_lt hn
  have hbd := hF.bd hn
  have hphi := phiL_pos hF
  have hB := ext_refl w
  refine calls_of_W (vs := [.int .i64 X]) [2, 3] Try.func65 rfl rfl rfl rfl ?_
  refine W.seq ?_
  refine W.region ?_
  refine WL.assign rfl rfl ?_
  refine WL.assign rfl rfl ?_
  refine WL.done ?_
  refine W.seq ?_
  refine W.region ?_
  refine WL.move rfl rfl ?_
  refine WL.call Try.func17 rfl Try.nm17 rfl rfl (rFactor_ok n (by omega) L hF (by omega) (by omega)) ?_
  rintro _ w11 ⟨A12, m13, c14, rfl, hGw11, hf⟩
  have hf := hf.low (b' := w.heap.size) hB.size
  have hB := ext_trans hB hGw11
  have hf_l := hf.rd.plen
  refine WL.move rfl rfl ?_
  refine WL.extract rfl rfl rfl ?_
  refine WL.extract rfl rfl rfl ?_
  refine WL.assign rfl rfl ?_
  refine WL.assign rfl rfl ?_
  refine WL.done ?_
  refine W.seq ?_
  refine W.seq ?_
  refine W.region ?_
  refine WL.move rfl rfl ?_
  refine WL.neq rfl rfl rfl (fun c15 => ?_) (fun c15 => ?_)
  · exfalso
    omega
  · refine WL.done ?_
    refine W.condF rfl ?_
    refine W.skip ?_
    refine W.seq ?_
    refine W.seq ?_
    refine W.region ?_
    have hp0 : phiL (L.take 0) * n = n := Nat.one_mul n
    refine WL.assign rfl rfl ?_
    refine WL.done ?_
    refine W.block ?_
    refine W.loop (σ := Nat × Nat × Option Addr × Nat × Nat) (fun s w1 => match s with | (i, x, Ao, mo, co) => w.grownBy w1 none ∧ i ≤ L.length ∧ IsFac x (L.drop i) ∧ phiL (L.take i) * x ≤ n ∧ Own w.heap.size w1 37 2 Ao mo co (pc (L))) (fun s => match s with | (i, x, Ao, mo, co) => [(0, .int .i64 ((phiL (L.take i) * x : Nat) : Int)), (4, .slice Ao mo co), (6, .int .i64 ((i : Nat) : Int))]) (fun s => match s with | (i, x, Ao, mo, co) => L.length - i) (0, n, A12, m13, c14) ?_ ?_ ?_
    · exact ⟨hB, by omega, hF, by omega, hf⟩
    · exact ⟨iv (by omega), rfl, iv (by omega), trivial⟩
    · rintro ⟨i, x, Ao, mo, co⟩ w16 ⟨hB, hi, hF2, hFn, ho⟩
      have ho_l := ho.rd.plen
      refine W.seq ?_
      refine W.seq ?_
      refine W.region ?_
      refine WL.move rfl rfl ?_
      refine WL.move rfl rfl ?_
      refine WL.len Try.underlying23 rfl rfl ?_
      refine WL.lss rfl rfl rfl (fun c17 => ?_) (fun c17 => ?_)
      · refine WL.done ?_
        refine W.condT rfl ?_
        refine W.skip ?_
        refine W.seq ?_
        refine W.block ?_
        have hil : i < L.length := (by omega); have hFi := hF2; rw [pdrop hil] at hFi; obtain ⟨y, hl, hy, hyp, he0, hF3⟩ := hFi.inv'; have hst := phi_step (F := phiL (L.take i)) (m := y) hl.two he0; rw [← hy] at hst; have hpt := phi_take hil; have hp2 := hl.two; have hpn := (hbd _ (getD_pmem hil)).2.1; have hdl := Nat.div_le_self (phiL (L.take i) * x) (L.getD i (0, 0)).1; have hnx : phiL (L.take i) * x - phiL (L.take i) * x / (L.getD i (0, 0)).1 = phiL (L.take (i + 1)) * y := (by rw [hpt]; exact hst.2.1); have hny : phiL (L.take i) * x / (L.getD i (0, 0)).1 * ((L.getD i (0, 0)).1 - 1) = phiL (L.take (i + 1)) * y := (by rw [hpt]; exact hst.2.2)
        · refine W.drawT 13 [⟨[], [0], true⟩, ⟨[], [4], true⟩, ⟨[], [6], true⟩, ⟨[1, 2], [], true⟩, ⟨[3], [], true⟩, ⟨[4], [], false⟩, ⟨[0, 5], [], true⟩, ⟨[], [4], true⟩, ⟨[], [6], true⟩, ⟨[7, 8], [], true⟩, ⟨[9], [], true⟩, ⟨[10], [], false⟩, ⟨[11], [], true⟩] [[(0, .int .i64 ((phiL (L.take i) * x : Nat) : Int))], [(4, .slice Ao mo co)], [(6, .int .i64 ((i : Nat) : Int))], [], [], [], [], [(4, .slice Ao mo co)], [(6, .int .i64 ((i : Nat) : Int))], [], [], [], []] (fun iQ => [fun v wQ => v = .int .i64 ((phiL (L.take i) * x : Nat) : Int), fun v wQ => v = .slice Ao mo co, fun v wQ => v = .int .i64 ((i : Nat) : Int), fun v wQ => v = .pointer (some ((adOf Ao).add (i * 2))), fun v wQ => v = .pointer (some (((adOf Ao).add (i * 2)).add 0)), fun v wQ => v = .int .i64 (((L.getD i (0, 0)).1 : Nat) : Int), fun v wQ => v = .int .i64 (((phiL (L.take i) * x) / ((L.getD i (0, 0)).1) : Nat) : Int), fun v wQ => v = .slice Ao mo co, fun v wQ => v = .int .i64 ((i : Nat) : Int), fun v wQ => v = .pointer (some ((adOf Ao).add (i * 2))), fun v wQ => v = .pointer (some (((adOf Ao).add (i * 2)).add 0)), fun v wQ => v = .int .i64 (((L.getD i (0, 0)).1 : Nat) : Int), fun v wQ => v = .int .i64 (((L.getD i (0, 0)).1 - 1 : Nat) : Int)].getD iQ (fun _ _ => True)) Try.mixed (by kernel_rfl) ?_ ?_ ?_
          · refine Vs_monoT _ ?_
            intro VQ hVQ vQ wQ1 wQ2 hQ1 hQ2
            simp only [List.mem_cons, List.not_mem_nil, or_false] at hVQ
            rcases hVQ with rfl | rfl | rfl | rfl | rfl | rfl | rfl | rfl | rfl | rfl | rfl | rfl | rfl
            · exact hQ1
            · exact hQ1
            · exact hQ1
            · exact hQ1
            · exact hQ1
            · exact hQ1
            · exact hQ1
            · exact hQ1
            · exact hQ1
            · exact hQ1
            · exact hQ1
            · exact hQ1
            · exact hQ1
          · refine ⟨⟨rfl, ⟨rfl, trivial⟩, ?_⟩, ⟨rfl, ⟨rfl, trivial⟩, ?_⟩, ⟨rfl, ⟨rfl, trivial⟩, ?_⟩, ⟨rfl, trivial, ?_⟩, ⟨rfl, trivial, ?_⟩, ⟨rfl, trivial, ?_⟩, ⟨rfl, trivial, ?_⟩, ⟨rfl, ⟨rfl, trivial⟩, ?_⟩, ⟨rfl, ⟨rfl, trivial⟩, ?_⟩, ⟨rfl, trivial, ?_⟩, ⟨rfl, trivial, ?_⟩, ⟨rfl, trivial, ?_⟩, ⟨rfl, trivial, ?_⟩, trivial⟩
            · intro w18 hE
              intro R
              refine WL.move rfl rfl ?_
              exact WL.done ⟨_, rfl, rfl, rfl⟩
            · intro w19 hE
              intro R
              refine WL.move rfl rfl ?_
              exact WL.done ⟨_, rfl, rfl, rfl⟩
            · intro w20 hE
              intro R
              refine WL.move rfl rfl ?_
              exact WL.done ⟨_, rfl, rfl, rfl⟩
            · intro w21 hE
              rintro _ rfl
              rintro _ rfl
              intro R
              refine WL.index (i) Try.underlying23 Try.el37 rfl rfl (by omega) (by omega) ho.rd rfl ?_
              exact WL.done ⟨_, rfl, rfl, rfl⟩
            · intro w22 hE
              rintro _ rfl
              intro R
              refine WL.fieldA (off := 0) Try.fla37_0 rfl rfl ?_
              exact WL.done ⟨_, rfl, rfl, rfl⟩
            · intro w23 hE
              have hE := hE rfl
              have hB := ext_trans hB hE
              have ho := ho.ext hE
              rintro _ rfl
              intro R
              refine WL.load Try.underlying3 rfl rfl (by rw [add_add]; exact Rd.at_ ho.rd (pc_at (by first | omega | decide)).1) rfl ?_
              exact WL.done ⟨_, rfl, ext_refl _, rfl⟩
            · intro w24 hE
              rintro _ rfl
              rintro _ rfl
              intro R
              refine WL.quo (r := (((phiL (L.take i) * x) / ((L.getD i (0, 0)).1) : Nat) : Int)) rfl rfl (by omega) (qi64 (by omega) (by omega) (by omega)) rfl ?_
              exact WL.done ⟨_, rfl, rfl, rfl⟩
            · intro w25 hE
              intro R
              refine WL.move rfl rfl ?_
              exact WL.done ⟨_, rfl, rfl, rfl⟩
            · intro w26 hE
              intro R
              refine WL.move rfl rfl ?_
              exact WL.done ⟨_, rfl, rfl, rfl⟩
            · intro w27 hE
              rintro _ rfl
              rintro _ rfl
              intro R
              refine WL.index (i) Try.underlying23 Try.el37 rfl rfl (by omega) (by omega) ho.rd rfl ?_
              exact WL.done ⟨_, rfl, rfl, rfl⟩
            · intro w28 hE
              rintro _ rfl
              intro R
              refine WL.fieldA (off := 0) Try.fla37_0 rfl rfl ?_
              exact WL.done ⟨_, rfl, rfl, rfl⟩
            · intro w29 hE
              have hE := hE rfl
              have hB := ext_trans hB hE
              have ho := ho.ext hE
              rintro _ rfl
              intro R
              refine WL.load Try.underlying3 rfl rfl (by rw [add_add]; exact Rd.at_ ho.rd (pc_at (by first | omega | decide)).1) rfl ?_
              exact WL.done ⟨_, rfl, ext_refl _, rfl⟩
            · intro w30 hE
              rintro _ rfl
              intro R
              refine WL.sub (r := (((L.getD i (0, 0)).1 - 1 : Nat) : Int)) rfl rfl (wi64 (by omega) (by omega) (by omega)) rfl ?_
              exact WL.done ⟨_, rfl, rfl, rfl⟩
          · intro vals w31 hT hVs
            have hB := ext_trans hB hT
            have ho := ho.ext hT
            have hv0 : vals 0 = _ := hVs 0 (by decide)
            have hv1 : vals 1 = _ := hVs 1 (by decide)
            have hv2 : vals 2 = _ := hVs 2 (by decide)
            have hv3 : vals 3 = _ := hVs 3 (by decide)
            have hv4 : vals 4 = _ := hVs 4 (by decide)
            have hv5 : vals 5 = _ := hVs 5 (by decide)
            have hv6 : vals 6 = _ := hVs 6 (by decide)
            have hv7 : vals 7 = _ := hVs 7 (by decide)
            have hv8 : vals 8 = _ := hVs 8 (by decide)
            have hv9 : vals 9 = _ := hVs 9 (by decide)
            have hv10 : vals 10 = _ := hVs 10 (by decide)
            have hv11 : vals 11 = _ := hVs 11 (by decide)
            have hv12 : vals 12 = _ := hVs 12 (by decide)
            rw [show (List.filterMap (fun i => Option.map (fun t => (t, vals i)) (dstAt _ i)) (List.range _)) = [(21, .int .i64 ((phiL (L.take i) * x : Nat) : Int)), (22, .slice Ao mo co), (23, .int .i64 ((i : Nat) : Int)), (24, .pointer (some ((adOf Ao).add (i * 2)))), (25, .pointer (some (((adOf Ao).add (i * 2)).add 0))), (26, .int .i64 (((L.getD i (0, 0)).1 : Nat) : Int)), (27, .int .i64 (((phiL (L.take i) * x) / ((L.getD i (0, 0)).1) : Nat) : Int)), (28, .slice Ao mo co), (29, .int .i64 ((i : Nat) : Int)), (30, .pointer (some ((adOf Ao).add (i * 2)))), (31, .pointer (some (((adOf Ao).add (i * 2)).add 0))), (32, .int .i64 (((L.getD i (0, 0)).1 : Nat) : Int)), (33, .int .i64 (((L.getD i (0, 0)).1 - 1 : Nat) : Int))] from by
              show [(21, vals 0), (22, vals 1), (23, vals 2), (24, vals 3), (25, vals 4), (26, vals 5), (27, vals 6), (28, vals 7), (29, vals 8), (30, vals 9), (31, vals 10), (32, vals 11), (33, vals 12)] = _
              rw [hv0, hv1, hv2, hv3, hv4, hv5, hv6, hv7, hv8, hv9, hv10, hv11, hv12]]
            refine WA.step [13] (by decide +kernel) rfl ?_
            intro iQ hQ
            simp only [List.mem_cons, List.not_mem_nil, or_false] at hQ
            obtain rfl := hQ
            · refine ⟨_, rfl, ?_⟩
              refine WL.mul (r := ((phiL (L.take i) * x / (L.getD i (0, 0)).1 * ((L.getD i (0, 0)).1 - 1) : Nat) : Int)) rfl rfl (by rw [← Int.natCast_mul]; exact wi64n (by omega)) rfl ?_
              refine WL.done ?_
              refine WA.step [14] (by decide +kernel) rfl ?_
              intro iQ hQ
              simp only [List.mem_cons, List.not_mem_nil, or_false] at hQ
              obtain rfl := hQ
              · refine ⟨_, rfl, ?_⟩
                refine WL.assign rfl rfl ?_
                refine WL.done ?_
                refine WA.done (by decide +kernel) ?_
                refine W.region ?_
                refine WL.move rfl rfl ?_
                refine WL.add (r := ((i + 1 : Nat) : Int)) rfl rfl (wi64 (by omega) (by omega) (by omega)) rfl ?_
                refine WL.assign rfl rfl ?_
                refine WL.done ?_
                refine ⟨(i + 1, y, Ao, mo, co), ⟨iv (by omega), rfl, iv (by omega), trivial⟩, by (dsimp only; omega), ?_⟩
                exact ⟨hB, by omega, hF3, by omega, ho⟩
      · refine WL.done ?_
        refine W.condF rfl ?_
        refine W.exit ?_
        refine W.seq ?_
        refine W.region ?_
        refine WL.move rfl rfl ?_
        refine WL.assign rfl rfl ?_
        refine WL.assign rfl rfl ?_
        refine WL.done ?_
        refine W.ret ?_
        refine ⟨_, rfl, ?_⟩
        have hiL : i = L.length := by omega
        subst hiL
        rw [List.drop_length] at hF2
        have hx1 := hF2.nil
        subst hx1
        exact ⟨by rw [List.take_length, Nat.mul_one], hB⟩

theorem Moebius_out {w : World} {X : Int} (hX : -9223372036854775808 ≤ X ∧ X ≤ 9223372036854775807) (hXo : ¬ (1 ≤ X ∧ X ≤ 2147483647)) :
    Calls Try.prog 39 #[.int .i64 X] w fun e w2 => ∃ v, e = .returned v ∧ (fun v w2 => v = .tuple #[.int .i64 0, .int .i64 6] ∧ w.grownBy w2 none) v w2 := by
  have hB := ext_refl w
  refine calls_of_W (vs := [.int .i64 X]) [2, 3] Try.func39 rfl rfl rfl rfl ?_
  refine W.seq ?_
  refine W.region ?_
  refine WL.assign rfl rfl ?_
  refine WL.assign rfl rfl ?_
  refine WL.done ?_
  refine W.seq ?_
  refine W.region ?_
  refine WL.move rfl rfl ?_
  refine WL.call Try.func16 rfl Try.nm16 rfl rfl (Factor_out (by omega) (by omega)) ?_
  rintro _ w11 ⟨rfl, hGw11⟩
  have hB := ext_trans hB hGw11
  refine WL.move rfl rfl ?_
  refine WL.extract rfl rfl rfl ?_
  refine WL.extract rfl rfl rfl ?_
  refine WL.assign rfl rfl ?_
  refine WL.assign rfl rfl ?_
  refine WL.done ?_
  refine W.seq ?_
  refine W.seq ?_
  refine W.region ?_
  refine WL.move rfl rfl ?_
  refine WL.neq rfl rfl rfl (fun c12 => ?_) (fun c12 => ?_)
  · refine WL.done ?_
    refine W.condT rfl ?_
    refine W.seq ?_
    refine W.region ?_
    refine WL.move rfl rfl ?_
    refine WL.assign rfl rfl ?_
    refine WL.assign rfl rfl ?_
    refine WL.done ?_
    refine W.ret ?_
    refine ⟨_, rfl, ?_⟩
    exact ⟨rfl, hB⟩
  · exfalso
    omega

theorem Moebius_ok {w : World} (n : Nat) {X : Int} (hX : X = n) (L : List (Nat × Nat)) (hF : IsFac n L) (hn1 : 1 ≤ n) (hn : n < 2147483648) :
    Calls Try.prog 39 #[.int .i64 X] w fun e w2 => ∃ v, e = .returned v ∧ (fun v w2 => v = .tuple #[.int .i64 (moeL L), .int .i64 0] ∧ w.grownBy w2 none) v w2 := by
  have hLl := hF.len_lt hn
  have hbd := hF.bd hn
  have hB := ext_refl w
  refine calls_of_W (vs := [.int .i64 X]) [2, 3] Try.func39 rfl rfl rfl rfl ?_
  refine W.seq ?_
  refine W.region ?_
  refine WL.assign rfl rfl ?_
  refine WL.assign rfl rfl ?_
  refine WL.done ?_
  refine W.seq ?_
  refine W.region ?_
  refine WL.move rfl rfl ?_
  refine WL.call Try.func16 rfl Try.nm16 rfl rfl (Factor_ok n (by omega) L hF (by omega) (by omega)) ?_
  rintro _ w11 ⟨A12, m13, c14, rfl, hGw11, hf⟩
  have hf := hf.low (b' := w.heap.size) hB.size
  have hB := ext_trans hB hGw11
  have hf_l := hf.rd.plen
  refine WL.move rfl rfl ?_
  refine WL.extract rfl rfl rfl ?_
  refine WL.extract rfl rfl rfl ?_
  refine WL.assign rfl rfl ?_
  refine WL.assign rfl rfl ?_
  refine WL.done ?_
  refine W.seq ?_
  refine W.seq ?_
  refine W.region ?_
  refine WL.move rfl rfl ?_
  refine WL.neq rfl rfl rfl (fun c15 => ?_) (fun c15 => ?_)
  · exfalso
    omega
  · refine WL.done ?_
    refine W.condF rfl ?_
    refine W.skip ?_
    refine W.seq ?_
    refine W.region ?_
    refine WL.assign rfl rfl ?_
    refine WL.done ?_
    refine W.seq ?_
    refine W.seq ?_
    refine W.region ?_
    have hp0 : moeL (L.take 0) = 1 := rfl
    refine WL.move rfl rfl ?_
    refine WL.len Try.underlying23 rfl rfl ?_
    refine WL.move rfl rfl ?_
    refine WL.done ?_
    refine W.block ?_
    refine W.loop (σ := Nat × Option Addr × Nat × Nat) (fun s w1 => match s with | (i, Ao, mo, co) => w.grownBy w1 none ∧ i ≤ L.length ∧ (∀ j, j < i → (L.getD j (0, 0)).2 ≤ 1) ∧ Own w.heap.size w1 37 2 Ao mo co (pc (L))) (fun s => match s with | (i, Ao, mo, co) => [(6, .int .i64 (moeL (L.take i))), (17, .slice Ao mo co), (18, .int .i64 ((mo : Nat) : Int)), (19, .int .i64 ((i : Nat) : Int))]) (fun s => match s with | (i, Ao, mo, co) => L.length - i) (0, A12, m13, c14) ?_ ?_ ?_
    · exact ⟨hB, by omega, fun j h => by omega, hf⟩
    · exact ⟨iv (by omega), rfl, iv (by omega), iv (by omega), trivial⟩
    · rintro ⟨i, Ao, mo, co⟩ w16 ⟨hB, hi, hse, ho⟩
      have ho_l := ho.rd.plen
      refine W.seq ?_
      refine W.region ?_
      refine WL.lss rfl rfl rfl (fun c17 => ?_) (fun c17 => ?_)
      · refine WL.done ?_
        refine W.seq ?_
        refine W.condT rfl ?_
        refine W.skip ?_
        refine W.seq ?_
        refine W.block ?_
        refine W.seq ?_
        have hil : i < L.length := (by omega); have hmt := moe_take hil hse; have hmr := moeL_range (L.take i)
        · refine W.region ?_
          refine WL.index (i) Try.underlying23 Try.el37 rfl rfl (by omega) (by omega) ho.rd rfl ?_
          refine WL.loadV (cs := [.int .i64 (((L.getD i (0, 0)).1 : Nat) : Int), .int .i64 (((L.getD i (0, 0)).2 : Nat) : Int)]) Try.el37 Try.agg37 rfl rfl (pc_load ho.rd (i) (by first | omega | decide)) rfl ?_
          refine WL.alloc Try.el37 rfl ?_
          intro g18 w19 hg_g18 hVg18 hGw19
          change Own _ _ _ _ _ _ _ [.int .i64 (0 : Int), .int .i64 (0 : Int)] at hVg18
          have hap_ho_g18 := ap_old ho hg_g18
          have hVg18 := hVg18.low (b' := w.heap.size) hB.size
          have hB := ext_trans hB hGw19
          have ho := ho.ext hGw19
          refine WL.storeV Try.el37 rfl rfl rfl rfl hVg18 ?_
          have hOld21 := hVg18
          intro w20 hVg18 hGw20
          change Own _ _ _ _ _ _ _ [.int .i64 (((L.getD i (0, 0)).1 : Nat) : Int), .int .i64 (((L.getD i (0, 0)).2 : Nat) : Int)] at hVg18
          have hB := ext_own hB hGw20 (fun g hg => (hOld21.bl_ge g hg).1)
          have ho := ho.grown hGw20 (ap_row hap_ho_g18)
          refine WL.done ?_
          refine W.seq ?_
          refine W.seq ?_
          refine W.region ?_
          refine WL.fieldA (off := 1) Try.fla37_1 rfl rfl ?_
          refine WL.load Try.underlying3 rfl rfl (hVg18.vcells 1 _ rfl) rfl ?_
          refine WL.gtr rfl rfl rfl (fun c22 => ?_) (fun c22 => ?_)
          · refine WL.done ?_
            refine W.condT rfl ?_
            refine W.seq ?_
            refine W.region ?_
            refine WL.assign rfl rfl ?_
            refine WL.assign rfl rfl ?_
            refine WL.done ?_
            refine W.ret ?_
            refine ⟨_, rfl, ?_⟩
            first
            | exact ⟨by rw [hmt.1 (by omega)], hB⟩
            | (have hiL : i = L.length := by omega
               subst hiL
               exact ⟨by rw [List.take_length], hB⟩)
          · refine WL.done ?_
            refine W.condF rfl ?_
            refine W.skip ?_
            refine W.region ?_
            have hmn := hmt.2 (by omega)
            refine WL.move rfl rfl ?_
            refine WL.neg (r := -(moeL (L.take i))) rfl (wi64 (by omega) (by omega) (by omega)) rfl ?_
            refine WL.assign rfl rfl ?_
            refine WL.done ?_
            refine W.region ?_
            refine WL.add (r := ((i + 1 : Nat) : Int)) rfl rfl (wi64 (by omega) (by omega) (by omega)) rfl ?_
            refine WL.move rfl rfl ?_
            refine WL.done ?_
            refine ⟨(i + 1, Ao, mo, co), ⟨iv (by omega), rfl, iv (by omega), iv (by omega), trivial⟩, by (dsimp only; omega), ?_⟩
            exact ⟨hB, by omega, fun j h => by
              rcases Nat.lt_succ_iff_lt_or_eq.1 h with h1 | h1
              · exact hse j h1
              · rw [h1]; omega, ho⟩
      · refine WL.done ?_
        refine W.seq ?_
        refine W.condF rfl ?_
        refine W.exit ?_
        refine W.seq ?_
        refine W.region ?_
        refine WL.move rfl rfl ?_
        refine WL.assign rfl rfl ?_
        refine WL.assign rfl rfl ?_
        refine WL.done ?_
        refine W.ret ?_
        refine ⟨_, rfl, ?_⟩
        first
        | exact ⟨by rw [hmt.1 (by omega)], hB⟩
        | (have hiL : i = L.length := by omega
           subst hiL
           exact ⟨by rw [List.take_length], hB⟩)
end Go.Proofs.Ytdmgbahognfhbaa
set_option linter.unusedSimpArgs false
set_option linter.unusedVariables false
namespace Go.Proofs.Ytdmgbahognfhbaa
open Go.RowKit
theorem Gcd_c {w : World} {X : Int} (hX : -9223372036854775808 ≤ X ∧ X ≤ 9223372036854775807) {Y : Int} (hY : -9223372036854775808 ≤ Y ∧ Y ≤ 9223372036854775807) :
    Calls Try.prog 27 #[.int .i64 X, .int .i64 Y] w fun e w2 => ∃ v, e = .returned v ∧ (fun v w2 => v = .tuple #[.int .i64 (((gcdS X Y).1 : Nat) : Int), .int .i64 (((gcdS X Y).2 : Nat) : Int)] ∧ w.grownBy w2 none) v w2 := by
  have hB := ext_refl w
  refine calls_of_W (vs := [.int .i64 X, .int .i64 Y]) [4, 5] Try.func27 rfl rfl rfl rfl ?_
  refine W.seq ?_
  refine W.region ?_
  refine WL.assign rfl rfl ?_
  refine WL.assign rfl rfl ?_
  refine WL.done ?_
  refine W.seq ?_
  refine W.seq ?_
  refine W.region ?_
  refine WL.move rfl rfl ?_
  refine WL.call Try.func54 rfl Try.nm54 rfl rfl (isSmall_c (by omega)) ?_
  rintro _ w11 ⟨bz1, rfl, hGw11, z1_t, z1_f⟩
  have hB := ext_trans hB hGw11
  rcases bz1 with _ | _
  · have z1 := z1_f rfl
    refine WL.not rfl rfl ?_
    refine WL.move rfl rfl ?_
    refine WL.pass rfl rfl rfl ?_
    refine WL.pass rfl rfl rfl ?_
    refine WL.pass rfl rfl rfl ?_
    refine WL.pick rfl rfl rfl ?_
    refine WL.done ?_
    refine W.condT rfl ?_
    refine W.seq ?_
    refine W.region ?_
    refine WL.assign rfl rfl ?_
    refine WL.assign rfl rfl ?_
    refine WL.done ?_
    refine W.ret ?_
    refine ⟨_, rfl, ?_⟩
    first
    | (rw [gcdS_ok ⟨z1, z2⟩]; exact ⟨rfl, hB⟩)
    | (rw [gcdS_out (fun h => z1 h.1)]; exact ⟨rfl, hB⟩)
    | (rw [gcdS_out (fun h => z2 h.2)]; exact ⟨rfl, hB⟩)
  · have z1 := z1_t rfl
    refine WL.not rfl rfl ?_
    refine WL.move rfl rfl ?_
    refine WL.take rfl ?_
    refine WL.move rfl rfl ?_
    refine WL.take rfl ?_
    refine WL.call Try.func54 rfl Try.nm54 rfl rfl (isSmall_c (by omega)) ?_
    rintro _ w12 ⟨bz2, rfl, hGw12, z2_t, z2_f⟩
    have hB := ext_trans hB hGw12
    rcases bz2 with _ | _
    · have z2 := z2_f rfl
      refine WL.take rfl ?_
      refine WL.not rfl rfl ?_
      refine WL.pick rfl rfl rfl ?_
      refine WL.done ?_
      refine W.condT rfl ?_
      refine W.seq ?_
      refine W.region ?_
      refine WL.assign rfl rfl ?_
      refine WL.assign rfl rfl ?_
      refine WL.done ?_
      refine W.ret ?_
      refine ⟨_, rfl, ?_⟩
      first
      | (rw [gcdS_ok ⟨z1, z2⟩]; exact ⟨rfl, hB⟩)
      | (rw [gcdS_out (fun h => z1 h.1)]; exact ⟨rfl, hB⟩)
      | (rw [gcdS_out (fun h => z2 h.2)]; exact ⟨rfl, hB⟩)
    · have z2 := z2_t rfl
      refine WL.take rfl ?_
      refine WL.not rfl rfl ?_
      refine WL.pick rfl rfl rfl ?_
      refine WL.done ?_
      refine W.condF rfl ?_
      refine W.skip ?_
      refine W.seq ?_
      refine W.region ?_
      refine WL.move rfl rfl ?_
      refine WL.call Try.func56 rfl Try.nm56 rfl rfl (size_c (by omega)) ?_
      rintro _ w13 ⟨rfl, hGw13⟩
      have hB := ext_trans hB hGw13
      refine WL.move rfl rfl ?_
      refine WL.call Try.func56 rfl Try.nm56 rfl rfl (size_c (by omega)) ?_
      rintro _ w14 ⟨rfl, hGw14⟩
      have hB := ext_trans hB hGw14
      refine WL.call Try.func55 rfl Try.nm55 rfl rfl (cofactor_c (Int.natAbs X) (by omega) (Int.natAbs Y) (by omega) (by omega) (by omega)) ?_
      rintro _ w15 ⟨Z16, rfl, hGw15, hZ16d, hZ16l, hZ16h⟩
      have hB := ext_trans hB hGw15
      refine WL.move rfl rfl ?_
      refine WL.extract rfl rfl rfl ?_
      refine WL.extract rfl rfl rfl ?_
      refine WL.assign rfl rfl ?_
      refine WL.assign rfl rfl ?_
      refine WL.done ?_
      refine W.seq ?_
      refine W.region ?_
      refine WL.move rfl rfl ?_
      refine WL.assign rfl rfl ?_
      refine WL.assign rfl rfl ?_
      refine WL.done ?_
      refine W.ret ?_
      refine ⟨_, rfl, ?_⟩
      first
      | (rw [gcdS_ok ⟨z1, z2⟩]; exact ⟨rfl, hB⟩)
      | (rw [gcdS_out (fun h => z1 h.1)]; exact ⟨rfl, hB⟩)
      | (rw [gcdS_out (fun h => z2 h.2)]; exact ⟨rfl, hB⟩)

theorem Bezout_c {w : World} {X : Int} (hX : -9223372036854775808 ≤ X ∧ X ≤ 9223372036854775807) {Y : Int} (hY : -9223372036854775808 ≤ Y ∧ Y ≤ 9223372036854775807) (g : Nat) (x y : Int) (er : Nat) (hR : BezR X Y g x y er) :
    Calls Try.prog 29 #[.int .i64 X, .int .i64 Y] w fun e w2 => ∃ v, e = .returned v ∧ (fun v w2 => v = .tuple #[.int .i64 ((g : Nat) : Int), .int .i64 x, .int .i64 y, .int .i64 ((er : Nat) : Int)] ∧ w.grownBy w2 none) v w2 := by
  have hB := ext_refl w
  refine calls_of_W (vs := [.int .i64 X, .int .i64 Y]) [4, 5, 6, 7] Try.func29 rfl rfl rfl rfl ?_
  refine W.seq ?_
  refine W.region ?_
  refine WL.assign rfl rfl ?_
  refine WL.assign rfl rfl ?_
  refine WL.assign rfl rfl ?_
  refine WL.assign rfl rfl ?_
  refine WL.done ?_
  refine W.seq ?_
  refine W.seq ?_
  refine W.region ?_
  refine WL.move rfl rfl ?_
  refine WL.call Try.func54 rfl Try.nm54 rfl rfl (isSmall_c (by omega)) ?_
  rintro _ w11 ⟨bz1, rfl, hGw11, z1_t, z1_f⟩
  have hB := ext_trans hB hGw11
  rcases bz1 with _ | _
  · have z1 := z1_f rfl
    refine WL.not rfl rfl ?_
    refine WL.move rfl rfl ?_
    refine WL.pass rfl rfl rfl ?_
    refine WL.pass rfl rfl rfl ?_
    refine WL.pass rfl rfl rfl ?_
    refine WL.pick rfl rfl rfl ?_
    refine WL.done ?_
    refine W.condT rfl ?_
    refine W.seq ?_
    refine W.region ?_
    refine WL.assign rfl rfl ?_
    refine WL.assign rfl rfl ?_
    refine WL.assign rfl rfl ?_
    refine WL.assign rfl rfl ?_
    refine WL.done ?_
    refine W.ret ?_
    refine ⟨_, rfl, ?_⟩
    first
    | (rw [hgq, her, hx0]; exact ⟨rfl, hB⟩)
    | (cases hR with
       | out h => exact ⟨rfl, hB⟩
       | zero h1 h2 => omega
       | ok h1 h2 => omega)
    | (cases hR with
       | out h => exact absurd ⟨z1, z2⟩ h
       | zero h1 h2 => exact ⟨rfl, hB⟩
       | ok h1 h2 h3 => omega)
  · have z1 := z1_t rfl
    refine WL.not rfl rfl ?_
    refine WL.move rfl rfl ?_
    refine WL.take rfl ?_
    refine WL.move rfl rfl ?_
    refine WL.take rfl ?_
    refine WL.call Try.func54 rfl Try.nm54 rfl rfl (isSmall_c (by omega)) ?_
    rintro _ w12 ⟨bz2, rfl, hGw12, z2_t, z2_f⟩
    have hB := ext_trans hB hGw12
    rcases bz2 with _ | _
    · have z2 := z2_f rfl
      refine WL.take rfl ?_
      refine WL.not rfl rfl ?_
      refine WL.pick rfl rfl rfl ?_
      refine WL.done ?_
      refine W.condT rfl ?_
      refine W.seq ?_
      refine W.region ?_
      refine WL.assign rfl rfl ?_
      refine WL.assign rfl rfl ?_
      refine WL.assign rfl rfl ?_
      refine WL.assign rfl rfl ?_
      refine WL.done ?_
      refine W.ret ?_
      refine ⟨_, rfl, ?_⟩
      first
      | (rw [hgq, her, hx0]; exact ⟨rfl, hB⟩)
      | (cases hR with
         | out h => exact ⟨rfl, hB⟩
         | zero h1 h2 => omega
         | ok h1 h2 => omega)
      | (cases hR with
         | out h => exact absurd ⟨z1, z2⟩ h
         | zero h1 h2 => exact ⟨rfl, hB⟩
         | ok h1 h2 h3 => omega)
    · have z2 := z2_t rfl
      refine WL.take rfl ?_
      refine WL.not rfl rfl ?_
      refine WL.pick rfl rfl rfl ?_
      refine WL.done ?_
      refine W.condF rfl ?_
      refine W.skip ?_
      refine W.seq ?_
      refine W.seq ?_
      refine W.region ?_
      refine WL.move rfl rfl ?_
      refine WL.eql rfl rfl rfl (fun c13 => ?_) (fun c13 => ?_)
      · refine WL.done ?_
        refine W.condT rfl ?_
        refine W.seq ?_
        refine W.region ?_
        refine WL.move rfl rfl ?_
        refine WL.call Try.func56 rfl Try.nm56 rfl rfl (size_c (by omega)) ?_
        rintro _ w14 ⟨rfl, hGw14⟩
        have hB := ext_trans hB hGw14
        refine WL.move rfl rfl ?_
        refine WL.call Try.func60 rfl Try.nm60 rfl rfl (sign_c (by omega)) ?_
        rintro _ w15 ⟨rfl, hGw15⟩
        have hB := ext_trans hB hGw15
        refine WL.assign rfl rfl ?_
        refine WL.assign rfl rfl ?_
        refine WL.assign rfl rfl ?_
        refine WL.assign rfl rfl ?_
        refine WL.done ?_
        refine W.ret ?_
        refine ⟨_, rfl, ?_⟩
        first
        | (rw [hgq, her, hx0]; exact ⟨rfl, hB⟩)
        | (cases hR with
           | out h => exact ⟨rfl, hB⟩
           | zero h1 h2 => omega
           | ok h1 h2 => omega)
        | (cases hR with
           | out h => exact absurd ⟨z1, z2⟩ h
           | zero h1 h2 => exact ⟨rfl, hB⟩
           | ok h1 h2 h3 => omega)
      · refine WL.done ?_
        refine W.condF rfl ?_
        refine W.skip ?_
        refine W.seq ?_
        refine W.region ?_
        refine WL.move rfl rfl ?_
        refine WL.move rfl rfl ?_
        refine WL.call Try.func56 rfl Try.nm56 rfl rfl (size_c (by omega)) ?_
        rintro _ w16 ⟨rfl, hGw16⟩
        have hB := ext_trans hB hGw16
        have hem := gcd_emod X (show 0 < Y.natAbs by omega)
        have he1 := Int.emod_nonneg X (show (Y.natAbs : Int) ≠ 0 by omega)
        have he2 := Int.emod_lt_of_pos X (show (0 : Int) < (Y.natAbs : Nat) by omega)
        have hgp : 0 < Nat.gcd X.natAbs Y.natAbs := Nat.gcd_pos_of_pos_right _ (by omega)
        refine WL.call Try.func61 rfl Try.nm61 rfl rfl (residue_c (by omega) Y.natAbs (by omega) (by omega) (by omega)) ?_
        rintro _ w17 ⟨rfl, hGw17⟩
        have hB := ext_trans hB hGw17
        refine WL.move rfl rfl ?_
        refine WL.call Try.func56 rfl Try.nm56 rfl rfl (size_c (by omega)) ?_
        rintro _ w18 ⟨rfl, hGw18⟩
        have hB := ext_trans hB hGw18
        refine WL.call Try.func55 rfl Try.nm55 rfl rfl (cofactor_c ((X % ((Int.natAbs Y) : Int)).toNat) (by omega) (Int.natAbs Y) (by omega) (by omega) (by omega)) ?_
        rintro _ w19 ⟨hZ0, rfl, hGw19, hZd, hZl, hZh⟩
        have hB := ext_trans hB hGw19
        rw [hem] at hZd
        rw [hem]
        refine WL.move rfl rfl ?_
        refine WL.extract rfl rfl rfl ?_
        refine WL.extract rfl rfl rfl ?_
        refine WL.assign rfl rfl ?_
        refine WL.assign rfl rfl ?_
        refine WL.done ?_
        refine W.seq ?_
        refine W.region ?_
        refine WL.move rfl rfl ?_
        refine WL.move rfl rfl ?_
        refine WL.call Try.func56 rfl Try.nm56 rfl rfl (size_c (by omega)) ?_
        rintro _ w20 ⟨rfl, hGw20⟩
        have hB := ext_trans hB hGw20
        refine WL.move rfl rfl ?_
        refine WL.quo (r := ((Y.natAbs / Nat.gcd X.natAbs Y.natAbs : Nat) : Int)) rfl rfl (by omega) (qi64 (by omega) (by omega) (by omega)) rfl ?_
        have hyd := Nat.div_le_self Y.natAbs (Nat.gcd X.natAbs Y.natAbs)
        have hyp : 0 < Y.natAbs / Nat.gcd X.natAbs Y.natAbs := Nat.div_gcd_pos_of_pos_right _ (by omega)
        have hx1 := bez_fin (show Y ≠ 0 by omega) (by omega) (by omega) hR hZd
        refine WL.call Try.func61 rfl Try.nm61 rfl rfl (residue_c (by omega) (Y.natAbs / Nat.gcd X.natAbs Y.natAbs) (by omega) (by omega) (by omega)) ?_
        rintro _ w21 ⟨rfl, hGw21⟩
        have hB := ext_trans hB hGw21
        rw [hx1]
        refine WL.assign rfl rfl ?_
        refine WL.done ?_
        refine W.seq ?_
        obtain ⟨hgq, her, hx0, hxx, hg1, hyq, hyr, hbz⟩ := bez_fin2 (show Y ≠ 0 by omega) (by omega) (by omega) hR
        · refine W.drawT 11 [⟨[], [8], true⟩, ⟨[], [9], true⟩, ⟨[], [8], true⟩, ⟨[], [0], true⟩, ⟨[], [9], true⟩, ⟨[3, 4], [], true⟩, ⟨[2, 5], [], true⟩, ⟨[], [1], true⟩, ⟨[6, 7], [], true⟩, ⟨[0], [], true⟩, ⟨[1], [], true⟩] [[(8, .int .i64 ((Nat.gcd X.natAbs Y.natAbs : Nat) : Int))], [(9, .int .i64 ((x.toNat : Nat) : Int))], [(8, .int .i64 ((Nat.gcd X.natAbs Y.natAbs : Nat) : Int))], [(0, .int .i64 X)], [(9, .int .i64 ((x.toNat : Nat) : Int))], [], [], [(1, .int .i64 Y)], [], [], []] (fun iQ => [fun v wQ => v = .int .i64 ((Nat.gcd X.natAbs Y.natAbs : Nat) : Int), fun v wQ => v = .int .i64 ((x.toNat : Nat) : Int), fun v wQ => v = .int .i64 ((Nat.gcd X.natAbs Y.natAbs : Nat) : Int), fun v wQ => v = .int .i64 X, fun v wQ => v = .int .i64 ((x.toNat : Nat) : Int), fun v wQ => v = .int .i64 (X * x), fun v wQ => v = .int .i64 ((g : Int) - X * x), fun v wQ => v = .int .i64 Y, fun v wQ => v = .int .i64 y, fun v wQ => v = .int .i64 ((Nat.gcd X.natAbs Y.natAbs : Nat) : Int), fun v wQ => v = .int .i64 ((x.toNat : Nat) : Int)].getD iQ (fun _ _ => True)) Try.mixed (by kernel_rfl) ?_ ?_ ?_
          · refine Vs_monoT _ ?_
            intro VQ hVQ vQ wQ1 wQ2 hQ1 hQ2
            simp only [List.mem_cons, List.not_mem_nil, or_false] at hVQ
            rcases hVQ with rfl | rfl | rfl | rfl | rfl | rfl | rfl | rfl | rfl | rfl | rfl
            · exact hQ1
            · exact hQ1
            · exact hQ1
            · exact hQ1
            · exact hQ1
            · exact hQ1
            · exact hQ1
            · exact hQ1
            · exact hQ1
            · exact hQ1
            · exact hQ1
          · refine ⟨⟨rfl, ⟨rfl, trivial⟩, ?_⟩, ⟨rfl, ⟨rfl, trivial⟩, ?_⟩, ⟨rfl, ⟨rfl, trivial⟩, ?_⟩, ⟨rfl, ⟨rfl, trivial⟩, ?_⟩, ⟨rfl, ⟨rfl, trivial⟩, ?_⟩, ⟨rfl, trivial, ?_⟩, ⟨rfl, trivial, ?_⟩, ⟨rfl, ⟨rfl, trivial⟩, ?_⟩, ⟨rfl, trivial, ?_⟩, ⟨rfl, trivial, ?_⟩, ⟨rfl, trivial, ?_⟩, trivial⟩
            · intro w22 hE
              intro R
              refine WL.move rfl rfl ?_
              exact WL.done ⟨_, rfl, rfl, rfl⟩
            · intro w23 hE
              intro R
              refine WL.move rfl rfl ?_
              exact WL.done ⟨_, rfl, rfl, rfl⟩
            · intro w24 hE
              intro R
              refine WL.move rfl rfl ?_
              exact WL.done ⟨_, rfl, rfl, rfl⟩
            · intro w25 hE
              intro R
              refine WL.move rfl rfl ?_
              exact WL.done ⟨_, rfl, rfl, rfl⟩
            · intro w26 hE
              intro R
              refine WL.move rfl rfl ?_
              exact WL.done ⟨_, rfl, rfl, rfl⟩
            · intro w27 hE
              rintro _ rfl
              rintro _ rfl
              intro R
              refine WL.mul (r := (X * x)) rfl rfl (by rw [hx0]; exact wi64 (by omega) (by omega) rfl) rfl ?_
              exact WL.done ⟨_, rfl, rfl, rfl⟩
            · intro w28 hE
              rintro _ rfl
              rintro _ rfl
              intro R
              refine WL.sub (r := ((g : Int) - X * x)) rfl rfl (by rw [← hgq]; exact wi64 (by omega) (by omega) rfl) rfl ?_
              exact WL.done ⟨_, rfl, rfl, rfl⟩
            · intro w29 hE
              intro R
              refine WL.move rfl rfl ?_
              exact WL.done ⟨_, rfl, rfl, rfl⟩
            · intro w30 hE
              rintro _ rfl
              rintro _ rfl
              intro R
              refine WL.quo (r := y) rfl rfl (by omega) (by rw [hyq]; exact wi64 (by omega) (by omega) rfl) rfl ?_
              exact WL.done ⟨_, rfl, rfl, rfl⟩
            · intro w31 hE
              rintro _ rfl
              intro R
              refine WL.assign rfl rfl ?_
              exact WL.done ⟨_, rfl, rfl, rfl⟩
            · intro w32 hE
              rintro _ rfl
              intro R
              refine WL.assign rfl rfl ?_
              exact WL.done ⟨_, rfl, rfl, rfl⟩
          · intro vals w33 hT hVs
            have hB := ext_trans hB hT
            have hv0 : vals 0 = _ := hVs 0 (by decide)
            have hv1 : vals 1 = _ := hVs 1 (by decide)
            have hv2 : vals 2 = _ := hVs 2 (by decide)
            have hv3 : vals 3 = _ := hVs 3 (by decide)
            have hv4 : vals 4 = _ := hVs 4 (by decide)
            have hv5 : vals 5 = _ := hVs 5 (by decide)
            have hv6 : vals 6 = _ := hVs 6 (by decide)
            have hv7 : vals 7 = _ := hVs 7 (by decide)
            have hv8 : vals 8 = _ := hVs 8 (by decide)
            have hv9 : vals 9 = _ := hVs 9 (by decide)
            have hv10 : vals 10 = _ := hVs 10 (by decide)
            rw [show (List.filterMap (fun i => Option.map (fun t => (t, vals i)) (dstAt _ i)) (List.range _)) = [(40, .int .i64 ((Nat.gcd X.natAbs Y.natAbs : Nat) : Int)), (41, .int .i64 ((x.toNat : Nat) : Int)), (42, .int .i64 ((Nat.gcd X.natAbs Y.natAbs : Nat) : Int)), (43, .int .i64 X), (44, .int .i64 ((x.toNat : Nat) : Int)), (45, .int .i64 (X * x)), (46, .int .i64 ((g : Int) - X * x)), (47, .int .i64 Y), (48, .int .i64 y), (4, .int .i64 ((Nat.gcd X.natAbs Y.natAbs : Nat) : Int)), (5, .int .i64 ((x.toNat : Nat) : Int))] from by
              show [(40, vals 0), (41, vals 1), (42, vals 2), (43, vals 3), (44, vals 4), (45, vals 5), (46, vals 6), (47, vals 7), (48, vals 8), (4, vals 9), (5, vals 10)] = _
              rw [hv0, hv1, hv2, hv3, hv4, hv5, hv6, hv7, hv8, hv9, hv10]]
            refine WA.step [11] (by decide +kernel) rfl ?_
            intro iQ hQ
            simp only [List.mem_cons, List.not_mem_nil, or_false] at hQ
            obtain rfl := hQ
            · refine ⟨_, rfl, ?_⟩
              refine WL.assign rfl rfl ?_
              refine WL.done ?_
              refine WA.step [12] (by decide +kernel) rfl ?_
              intro iQ hQ
              simp only [List.mem_cons, List.not_mem_nil, or_false] at hQ
              obtain rfl := hQ
              · refine ⟨_, rfl, ?_⟩
                refine WL.assign rfl rfl ?_
                refine WL.done ?_
                refine WA.done (by decide +kernel) ?_
                refine W.ret ?_
                refine ⟨_, rfl, ?_⟩
                first
                | (rw [hgq, her, hx0]; exact ⟨rfl, hB⟩)
                | (cases hR with
                   | out h => exact ⟨rfl, hB⟩
                   | zero h1 h2 => omega
                   | ok h1 h2 => omega)
                | (cases hR with
                   | out h => exact absurd ⟨z1, z2⟩ h
                   | zero h1 h2 => exact ⟨rfl, hB⟩
                   | ok h1 h2 h3 => omega)

theorem Inverse_c {w : World} {X : Int} (hX : -9223372036854775808 ≤ X ∧ X ≤ 9223372036854775807) {Y : Int} (hY : -9223372036854775808 ≤ Y ∧ Y ≤ 9223372036854775807) (x er : Nat) (hR : InvR X Y x er) :
    Calls Try.prog 31 #[.int .i64 X, .int .i64 Y] w fun e w2 => ∃ v, e = .returned v ∧ (fun v w2 => v = .tuple #[.int .i64 ((x : Nat) : Int), .int .i64 ((er : Nat) : Int)] ∧ w.grownBy w2 none) v w2 := by
  have hB := ext_refl w
  refine calls_of_W (vs := [.int .i64 X, .int .i64 Y]) [4, 5] Try.func31 rfl rfl rfl rfl ?_
  refine W.seq ?_
  refine W.region ?_
  refine WL.assign rfl rfl ?_
  refine WL.assign rfl rfl ?_
  refine WL.done ?_
  refine W.seq ?_
  refine W.seq ?_
  refine W.region ?_
  refine WL.move rfl rfl ?_
  refine WL.call Try.func48 rfl Try.nm48 rfl rfl (isPos_c (by omega)) ?_
  rintro _ w11 ⟨bz, rfl, hGw11, z_t, z_f⟩
  have hB := ext_trans hB hGw11
  rcases bz with _ | _
  · have z := z_f rfl
    refine WL.not rfl rfl ?_
    refine WL.done ?_
    refine W.condT rfl ?_
    refine W.seq ?_
    refine W.region ?_
    refine WL.assign rfl rfl ?_
    refine WL.assign rfl rfl ?_
    refine WL.done ?_
    refine W.ret ?_
    refine ⟨_, rfl, ?_⟩
    first
    | (cases hR with
       | out h => exact ⟨rfl, hB⟩
       | none h1 h2 => exact absurd h1 z
       | ok h1 h2 => exact absurd h1 z)
    | (rw [hem] at c_g; cases hR with
       | out h => exact absurd z h
       | none h1 h2 => exact ⟨rfl, hB⟩
       | ok h1 h2 => exact absurd h2.cop (by omega))
    | (rw [hem] at hZd c_g; cases hR with
       | out h => exact absurd z h
       | none h1 h2 => omega
       | ok h1 h2 =>
         have h7 : ((Nat.gcd X.natAbs Y.toNat : Nat) : Int) = 1 := by omega
         rw [h7, Int.toNat_of_nonneg he1] at hZd
         have h8 := (IsInv.mk' (by omega) hZd).emod.uniq h2
         exact ⟨by rw [h8]; rfl, hB⟩)
  · have z := z_t rfl
    have hem := gcd_emod X (show 0 < Y.toNat by omega)
    have hyt : ((Y.toNat : Nat) : Int) = Y := (by omega)
    refine WL.not rfl rfl ?_
    refine WL.done ?_
    refine W.condF rfl ?_
    refine W.skip ?_
    refine W.seq ?_
    refine W.region ?_
    refine WL.move rfl rfl ?_
    refine WL.move rfl rfl ?_
    have he1 := Int.emod_nonneg X (show (Y.toNat : Int) ≠ 0 by omega)
    have he2 := Int.emod_lt_of_pos X (show (0 : Int) < (Y.toNat : Nat) by omega)
    refine WL.call Try.func61 rfl Try.nm61 rfl rfl (residue_c (by omega) Y.toNat (by omega) (by omega) (by omega)) ?_
    rintro _ w12 ⟨rfl, hGw12⟩
    have hB := ext_trans hB hGw12
    refine WL.move rfl rfl ?_
    refine WL.call Try.func55 rfl Try.nm55 rfl rfl (cofactor_c ((X % (Y.toNat : Int)).toNat) (by omega) Y.toNat (by omega) (by omega) (by omega)) ?_
    rintro _ w13 ⟨hZ0, rfl, hGw13, hZd, hZl, hZh⟩
    have hB := ext_trans hB hGw13
    refine WL.move rfl rfl ?_
    refine WL.extract rfl rfl rfl ?_
    refine WL.extract rfl rfl rfl ?_
    refine WL.assign rfl rfl ?_
    refine WL.assign rfl rfl ?_
    refine WL.done ?_
    refine W.seq ?_
    refine W.seq ?_
    refine W.region ?_
    refine WL.move rfl rfl ?_
    refine WL.neq rfl rfl rfl (fun c_g => ?_) (fun c_g => ?_)
    · refine WL.done ?_
      refine W.condT rfl ?_
      refine W.seq ?_
      refine W.region ?_
      refine WL.assign rfl rfl ?_
      refine WL.assign rfl rfl ?_
      refine WL.done ?_
      refine W.ret ?_
      refine ⟨_, rfl, ?_⟩
      first
      | (cases hR with
         | out h => exact ⟨rfl, hB⟩
         | none h1 h2 => exact absurd h1 z
         | ok h1 h2 => exact absurd h1 z)
      | (rw [hem] at c_g; cases hR with
         | out h => exact absurd z h
         | none h1 h2 => exact ⟨rfl, hB⟩
         | ok h1 h2 => exact absurd h2.cop (by omega))
      | (rw [hem] at hZd c_g; cases hR with
         | out h => exact absurd z h
         | none h1 h2 => omega
         | ok h1 h2 =>
           have h7 : ((Nat.gcd X.natAbs Y.toNat : Nat) : Int) = 1 := by omega
           rw [h7, Int.toNat_of_nonneg he1] at hZd
           have h8 := (IsInv.mk' (by omega) hZd).emod.uniq h2
           exact ⟨by rw [h8]; rfl, hB⟩)
    · refine WL.done ?_
      refine W.condF rfl ?_
      refine W.skip ?_
      refine W.seq ?_
      refine W.region ?_
      refine WL.move rfl rfl ?_
      refine WL.move rfl rfl ?_
      refine WL.call Try.func61 rfl Try.nm61 rfl rfl (residue_c (by omega) Y.toNat (by omega) (by omega) (by omega)) ?_
      rintro _ w15 ⟨rfl, hGw15⟩
      have hB := ext_trans hB hGw15
      refine WL.assign rfl rfl ?_
      refine WL.assign rfl rfl ?_
      refine WL.done ?_
      refine W.ret ?_
      refine ⟨_, rfl, ?_⟩
      first
      | (cases hR with
         | out h => exact ⟨rfl, hB⟩
         | none h1 h2 => exact absurd h1 z
         | ok h1 h2 => exact absurd h1 z)
      | (rw [hem] at c_g; cases hR with
         | out h => exact absurd z h
         | none h1 h2 => exact ⟨rfl, hB⟩
         | ok h1 h2 => exact absurd h2.cop (by omega))
      | (rw [hem] at hZd c_g; cases hR with
         | out h => exact absurd z h
         | none h1 h2 => omega
         | ok h1 h2 =>
           have h7 : ((Nat.gcd X.natAbs Y.toNat : Nat) : Int) = 1 := by omega
           rw [h7, Int.toNat_of_nonneg he1] at hZd
           have h8 := (IsInv.mk' (by omega) hZd).emod.uniq h2
           exact ⟨by rw [h8]; rfl, hB⟩)
end Go.Proofs.Ytdmgbahognfhbaa
set_option linter.unusedSimpArgs false
set_option linter.unusedVariables false
namespace Go.Proofs.Ytdmgbahognfhbaa
open Go.RowKit
theorem Power_c {w : World} {X : Int} (hX : -9223372036854775808 ≤ X ∧ X ≤ 9223372036854775807) {Y : Int} (hY : -9223372036854775808 ≤ Y ∧ Y ≤ 9223372036854775807) {Z : Int} (hZ : -9223372036854775808 ≤ Z ∧ Z ≤ 9223372036854775807) :
    Calls Try.prog 33 #[.int .i64 X, .int .i64 Y, .int .i64 Z] w fun e w2 => ∃ v, e = .returned v ∧ (fun v w2 => v = .tuple #[.int .i64 (((powS X Y Z).1 : Nat) : Int), .int .i64 (((powS X Y Z).2 : Nat) : Int)] ∧ w.grownBy w2 none) v w2 := by
  have hB := ext_refl w
  refine calls_of_W (vs := [.int .i64 X, .int .i64 Y, .int .i64 Z]) [6, 7] Try.func33 rfl rfl rfl rfl ?_
  refine W.seq ?_
  refine W.region ?_
  refine WL.assign rfl rfl ?_
  refine WL.assign rfl rfl ?_
  refine WL.done ?_
  refine W.seq ?_
  refine W.seq ?_
  refine W.region ?_
  refine WL.move rfl rfl ?_
  refine WL.lss rfl rfl rfl (fun c11 => ?_) (fun c11 => ?_)
  · refine WL.move rfl rfl ?_
    refine WL.pass rfl rfl rfl ?_
    refine WL.pass rfl rfl rfl ?_
    refine WL.pass rfl rfl rfl ?_
    refine WL.pick rfl rfl rfl ?_
    refine WL.done ?_
    refine W.condT rfl ?_
    refine W.seq ?_
    refine W.region ?_
    refine WL.assign rfl rfl ?_
    refine WL.assign rfl rfl ?_
    refine WL.done ?_
    refine W.ret ?_
    refine ⟨_, rfl, ?_⟩
    first
    | (rw [powS_ok (by omega)]; exact ⟨rfl, hB⟩)
    | (rw [powS_out (by omega)]; exact ⟨rfl, hB⟩)
  · refine WL.move rfl rfl ?_
    refine WL.take rfl ?_
    refine WL.move rfl rfl ?_
    refine WL.take rfl ?_
    refine WL.call Try.func48 rfl Try.nm48 rfl rfl (isPos_c (by omega)) ?_
    rintro _ w12 ⟨bz, rfl, hGw12, z_t, z_f⟩
    have hB := ext_trans hB hGw12
    rcases bz with _ | _
    · have z := z_f rfl
      refine WL.take rfl ?_
      refine WL.not rfl rfl ?_
      refine WL.pick rfl rfl rfl ?_
      refine WL.done ?_
      refine W.condT rfl ?_
      refine W.seq ?_
      refine W.region ?_
      refine WL.assign rfl rfl ?_
      refine WL.assign rfl rfl ?_
      refine WL.done ?_
      refine W.ret ?_
      refine ⟨_, rfl, ?_⟩
      first
      | (rw [powS_ok (by omega)]; exact ⟨rfl, hB⟩)
      | (rw [powS_out (by omega)]; exact ⟨rfl, hB⟩)
    · have z := z_t rfl
      refine WL.take rfl ?_
      refine WL.not rfl rfl ?_
      refine WL.pick rfl rfl rfl ?_
      refine WL.done ?_
      refine W.condF rfl ?_
      refine W.skip ?_
      refine W.seq ?_
      refine W.region ?_
      refine WL.move rfl rfl ?_
      refine WL.move rfl rfl ?_
      have hzt : ((Z.toNat : Nat) : Int) = Z := by omega
      have he1 := Int.emod_nonneg X (show (Z : Int) ≠ 0 by omega)
      have he2 := Int.emod_lt_of_pos X (show (0 : Int) < Z by omega)
      refine WL.call Try.func61 rfl Try.nm61 rfl rfl (residue_c (by omega) Z.toNat (by omega) (by omega) (by omega)) ?_
      rintro _ w13 ⟨rfl, hGw13⟩
      have hB := ext_trans hB hGw13
      rw [hzt]
      refine WL.move rfl rfl ?_
      refine WL.move rfl rfl ?_
      refine WL.call Try.func63 rfl Try.nm63 rfl rfl (power_c (X % Z).toNat (by omega) Y.toNat (by omega) Z.toNat (by omega) (by omega) (by omega) (by omega)) ?_
      rintro _ w14 ⟨rfl, hGw14⟩
      have hB := ext_trans hB hGw14
      refine WL.assign rfl rfl ?_
      refine WL.assign rfl rfl ?_
      refine WL.done ?_
      refine W.ret ?_
      refine ⟨_, rfl, ?_⟩
      first
      | (rw [powS_ok (by omega)]; exact ⟨rfl, hB⟩)
      | (rw [powS_out (by omega)]; exact ⟨rfl, hB⟩)

theorem Order_c {w : World} {X : Int} (hX : -9223372036854775808 ≤ X ∧ X ≤ 9223372036854775807) {Y : Int} (hY : -9223372036854775808 ≤ Y ∧ Y ≤ 9223372036854775807) (K er : Nat) (hR : OrdR X Y K er) :
    Calls Try.prog 35 #[.int .i64 X, .int .i64 Y] w fun e w2 => ∃ v, e = .returned v ∧ (fun v w2 => v = .tuple #[.int .i64 ((K : Nat) : Int), .int .i64 ((er : Nat) : Int)] ∧ w.grownBy w2 none) v w2 := by
  have hB := ext_refl w
  refine calls_of_W (vs := [.int .i64 X, .int .i64 Y]) [4, 5] Try.func35 rfl rfl rfl rfl ?_
  refine W.seq ?_
  refine W.region ?_
  refine WL.assign rfl rfl ?_
  refine WL.assign rfl rfl ?_
  refine WL.done ?_
  refine W.seq ?_
  refine W.seq ?_
  refine W.region ?_
  refine WL.move rfl rfl ?_
  refine WL.call Try.func48 rfl Try.nm48 rfl rfl (isPos_c (by omega)) ?_
  rintro _ w11 ⟨bz, rfl, hGw11, z_t, z_f⟩
  have hB := ext_trans hB hGw11
  rcases bz with _ | _
  · have z := z_f rfl
    refine WL.not rfl rfl ?_
    refine WL.done ?_
    refine W.condT rfl ?_
    refine W.seq ?_
    refine W.region ?_
    refine WL.assign rfl rfl ?_
    refine WL.assign rfl rfl ?_
    refine WL.done ?_
    refine W.ret ?_
    refine ⟨_, rfl, ?_⟩
    first
    | (cases hR with
       | out h => exact ⟨rfl, hB⟩
       | none h1 h2 => exact absurd h1 z
       | ok h1 h2 => exact absurd h1 z)
    | (rw [hem] at c_g; cases hR with
       | out h => exact absurd z h
       | none h1 h2 => exact ⟨rfl, hB⟩
       | ok h1 h2 => omega)
    | (cases hR with
       | out h => exact absurd z h
       | none h1 h2 => exact absurd hg1 h2
       | ok h1 h2 h3 =>
         have h5 : IsOrd (X % (Y.toNat : Int)).toNat Y.toNat K := (by rw [hyt]; exact h3)
         have h4 := (IsOrd.of hM hod ho0 hone (of_getD fun j hj => hall j (by omega))).uniq h5
         exact ⟨by rw [h4]; rfl, hB⟩)
  · have z := z_t rfl
    have hem := gcd_emod X (show 0 < Y.toNat by omega)
    have hyt : ((Y.toNat : Nat) : Int) = Y := (by omega)
    have he1 := Int.emod_nonneg X (show (Y.toNat : Int) ≠ 0 by omega)
    have he2 := Int.emod_lt_of_pos X (show (0 : Int) < (Y.toNat : Nat) by omega)
    refine WL.not rfl rfl ?_
    refine WL.done ?_
    refine W.condF rfl ?_
    refine W.skip ?_
    refine W.seq ?_
    refine W.region ?_
    refine WL.move rfl rfl ?_
    refine WL.move rfl rfl ?_
    refine WL.call Try.func61 rfl Try.nm61 rfl rfl (residue_c (by omega) Y.toNat (by omega) (by omega) (by omega)) ?_
    rintro _ w12 ⟨rfl, hGw12⟩
    have hB := ext_trans hB hGw12
    refine WL.assign rfl rfl ?_
    refine WL.done ?_
    refine W.seq ?_
    refine W.seq ?_
    refine W.region ?_
    refine WL.move rfl rfl ?_
    refine WL.move rfl rfl ?_
    refine WL.call Try.func55 rfl Try.nm55 rfl rfl (cofactor_c ((X % (Y.toNat : Int)).toNat) (by omega) Y.toNat (by omega) (by omega) (by omega)) ?_
    rintro _ w13 ⟨hZ0, rfl, hGw13, hZd, hZl, hZh⟩
    have hB := ext_trans hB hGw13
    refine WL.move rfl rfl ?_
    refine WL.extract rfl rfl rfl ?_
    refine WL.extract rfl rfl rfl ?_
    refine WL.assign rfl rfl ?_
    refine WL.assign rfl rfl ?_
    refine WL.done ?_
    refine W.seq ?_
    refine W.region ?_
    refine WL.move rfl rfl ?_
    refine WL.neq rfl rfl rfl (fun c_g => ?_) (fun c_g => ?_)
    · refine WL.done ?_
      refine W.condT rfl ?_
      refine W.seq ?_
      refine W.region ?_
      refine WL.assign rfl rfl ?_
      refine WL.assign rfl rfl ?_
      refine WL.done ?_
      refine W.ret ?_
      refine ⟨_, rfl, ?_⟩
      first
      | (cases hR with
         | out h => exact ⟨rfl, hB⟩
         | none h1 h2 => exact absurd h1 z
         | ok h1 h2 => exact absurd h1 z)
      | (rw [hem] at c_g; cases hR with
         | out h => exact absurd z h
         | none h1 h2 => exact ⟨rfl, hB⟩
         | ok h1 h2 => omega)
      | (cases hR with
         | out h => exact absurd z h
         | none h1 h2 => exact absurd hg1 h2
         | ok h1 h2 h3 =>
           have h5 : IsOrd (X % (Y.toNat : Int)).toNat Y.toNat K := (by rw [hyt]; exact h3)
           have h4 := (IsOrd.of hM hod ho0 hone (of_getD fun j hj => hall j (by omega))).uniq h5
           exact ⟨by rw [h4]; rfl, hB⟩)
    · refine WL.done ?_
      refine W.condF rfl ?_
      refine W.skip ?_
      refine W.seq ?_
      refine W.region ?_
      refine WL.move rfl rfl ?_
      rw [hem] at c_g
      have hg1 : Nat.gcd X.natAbs Y.toNat = 1 := by omega
      obtain ⟨L, hL⟩ := fac_exists Y.toNat (by omega)
      have hphi := phiL_pos hL
      obtain ⟨M, hM⟩ := fac_exists (phiL L) hphi.1
      have hbM := hM.bd (by omega)
      have hMl := hM.len_lt (by omega)
      have heu := euler (a := (X % (Y.toNat : Int)).toNat) hL (by rw [hem]; exact hg1)
      refine WL.call Try.func37 rfl Try.nm37 rfl rfl (Phi_ok Y.toNat (by omega) L hL (by omega) (by omega)) ?_
      rintro _ w15 ⟨rfl, hGw15⟩
      have hB := ext_trans hB hGw15
      refine WL.move rfl rfl ?_
      refine WL.extract rfl rfl rfl ?_
      refine WL.extract rfl rfl rfl ?_
      refine WL.assign rfl rfl ?_
      refine WL.assign rfl rfl ?_
      refine WL.done ?_
      refine W.seq ?_
      refine W.region ?_
      refine WL.move rfl rfl ?_
      refine WL.call Try.func16 rfl Try.nm16 rfl rfl (Factor_ok (phiL L) (by omega) M hM (by omega) (by omega)) ?_
      rintro _ w16 ⟨A17, m18, c19, rfl, hGw16, hf⟩
      have hf := hf.low (b' := w.heap.size) hB.size
      have hB := ext_trans hB hGw16
      have hf_l := hf.rd.plen
      refine WL.move rfl rfl ?_
      refine WL.extract rfl rfl rfl ?_
      refine WL.extract rfl rfl rfl ?_
      refine WL.assign rfl rfl ?_
      refine WL.assign rfl rfl ?_
      refine WL.done ?_
      refine W.seq ?_
      refine W.seq ?_
      refine W.region ?_
      refine WL.move rfl rfl ?_
      refine WL.len Try.underlying23 rfl rfl ?_
      refine WL.move rfl rfl ?_
      refine WL.done ?_
      refine W.block ?_
      refine W.loop (σ := Nat × Nat × Option Addr × Nat × Nat) (fun s w1 => match s with | (i, o, Ao, mo, co) => w.grownBy w1 none ∧ i ≤ M.length ∧ o ∣ phiL L ∧ 0 < o ∧ One Y.toNat ((X % (Y.toNat : Int)).toNat ^ o) ∧ (∀ j, j < i → ¬ (o % (M.getD j (0, 0)).1 = 0 ∧ One Y.toNat ((X % (Y.toNat : Int)).toNat ^ (o / (M.getD j (0, 0)).1)))) ∧ Own w.heap.size w1 37 2 Ao mo co (pc (M))) (fun s => match s with | (i, o, Ao, mo, co) => [(0, .int .i64 (((X % (Y.toNat : Int)).toNat : Nat) : Int)), (1, .int .i64 Y), (8, .int .i64 ((o : Nat) : Int)), (38, .slice Ao mo co), (39, .int .i64 ((mo : Nat) : Int)), (40, .int .i64 ((i : Nat) : Int))]) (fun s => match s with | (i, o, Ao, mo, co) => M.length - i) (0, phiL L, A17, m18, c19) ?_ ?_ ?_
      · exact ⟨hB, by omega, Nat.dvd_refl _, hphi.1, heu, fun j h => by omega, hf⟩
      · exact ⟨iv (by omega), iv (by omega), iv (by omega), rfl, iv (by omega), iv (by omega), trivial⟩
      · rintro ⟨i, o, Ao, mo, co⟩ w20 ⟨hB, hi, hod, ho0, hone, hall, ho⟩
        have ho_l := ho.rd.plen
        have hole := Nat.le_of_dvd hphi.1 hod
        refine W.seq ?_
        refine W.region ?_
        refine WL.lss rfl rfl rfl (fun c21 => ?_) (fun c21 => ?_)
        · refine WL.done ?_
          refine W.seq ?_
          refine W.condT rfl ?_
          refine W.skip ?_
          refine W.seq ?_
          refine W.block ?_
          refine W.seq ?_
          have hil : i < M.length := (by omega); have hpb := hbM _ (getD_pmem hil); have hn2 : 2 ≤ Y.toNat := (by omega)
          · refine W.region ?_
            refine WL.index (i) Try.underlying23 Try.el37 rfl rfl (by omega) (by omega) ho.rd rfl ?_
            refine WL.loadV (cs := [.int .i64 (((M.getD i (0, 0)).1 : Nat) : Int), .int .i64 (((M.getD i (0, 0)).2 : Nat) : Int)]) Try.el37 Try.agg37 rfl rfl (pc_load ho.rd (i) (by first | omega | decide)) rfl ?_
            refine WL.alloc Try.el37 rfl ?_
            intro gp w22 hg_gp hVgp hGw22
            change Own _ _ _ _ _ _ _ [.int .i64 (0 : Int), .int .i64 (0 : Int)] at hVgp
            have hap_ho_gp := ap_old ho hg_gp
            have hVgp := hVgp.low (b' := w.heap.size) hB.size
            have hB := ext_trans hB hGw22
            have ho := ho.ext hGw22
            refine WL.storeV Try.el37 rfl rfl rfl rfl hVgp ?_
            have hOld24 := hVgp
            intro w23 hVgp hGw23
            change Own _ _ _ _ _ _ _ [.int .i64 (((M.getD i (0, 0)).1 : Nat) : Int), .int .i64 (((M.getD i (0, 0)).2 : Nat) : Int)] at hVgp
            have hB := ext_own hB hGw23 (fun g hg => (hOld24.bl_ge g hg).1)
            have ho := ho.grown hGw23 (ap_row hap_ho_gp)
            refine WL.done ?_
            refine W.block ?_
            refine W.loop (σ := Nat) (fun o w1 => w.grownBy w1 none ∧ o ∣ phiL L ∧ 0 < o ∧ One Y.toNat ((X % (Y.toNat : Int)).toNat ^ o) ∧ (∀ j, j < i → ¬ (o % (M.getD j (0, 0)).1 = 0 ∧ One Y.toNat ((X % (Y.toNat : Int)).toNat ^ (o / (M.getD j (0, 0)).1)))) ∧ Own w.heap.size w1 37 2 Ao mo co (pc (M)) ∧ Own w.heap.size w1 37 2 (some ⟨gp, 0, none⟩) 1 1 [.int .i64 ((((M.getD i (0, 0)).1 : Nat)) : Int), .int .i64 ((((M.getD i (0, 0)).2 : Nat)) : Int)]) (fun o => [(0, .int .i64 (((X % (Y.toNat : Int)).toNat : Nat) : Int)), (1, .int .i64 Y), (8, .int .i64 ((o : Nat) : Int)), (13, .pointer (some ⟨gp, 0, none⟩)), (38, .slice Ao mo co), (39, .int .i64 ((mo : Nat) : Int)), (40, .int .i64 ((i : Nat) : Int))]) (fun o => o) o ?_ ?_ ?_
            · exact ⟨hB, hod, ho0, hone, hall, ho, hVgp⟩
            · exact ⟨iv (by omega), iv (by omega), iv (by omega), rfl, rfl, iv (by omega), iv (by omega), trivial⟩
            · rintro o w25 ⟨hB, hod, ho0, hone, hall, ho, hVgp⟩
              have ho_l := ho.rd.plen
              have hole := Nat.le_of_dvd hphi.1 hod
              have hdl := Nat.div_le_self o (M.getD i (0, 0)).1
              have hdlt := Nat.div_lt_self ho0 hpb.1
              refine W.seq ?_
              refine W.seq ?_
              refine W.region ?_
              refine WL.move rfl rfl ?_
              refine WL.fieldA (off := 0) Try.fla37_0 rfl rfl ?_
              refine WL.load Try.underlying3 rfl rfl (hVgp.vcells 0 _ rfl) rfl ?_
              refine WL.rem (r := ((o % ((M.getD i (0, 0)).1) : Nat) : Int)) rfl rfl (by omega) (tmod_nat (by omega) (by omega)) rfl ?_
              refine WL.eql rfl rfl rfl (fun c26 => ?_) (fun c26 => ?_)
              · refine WL.move rfl rfl ?_
                refine WL.take rfl ?_
                refine WL.move rfl rfl ?_
                refine WL.take rfl ?_
                refine WL.move rfl rfl ?_
                refine WL.take rfl ?_
                refine WL.fieldA (off := 0) Try.fla37_0 rfl rfl ?_
                refine WL.take rfl ?_
                refine WL.load Try.underlying3 rfl rfl (hVgp.vcells 0 _ rfl) rfl ?_
                refine WL.take rfl ?_
                refine WL.quo (r := ((o / ((M.getD i (0, 0)).1) : Nat) : Int)) rfl rfl (by omega) (qi64 (by omega) (by omega) (by omega)) rfl ?_
                refine WL.take rfl ?_
                refine WL.move rfl rfl ?_
                refine WL.take rfl ?_
                refine WL.call Try.func63 rfl Try.nm63 rfl rfl (power_c ((X % (Y.toNat : Int)).toNat) (by omega) (o / ((M.getD i (0, 0)).1)) (by omega) Y.toNat (by omega) (by omega) (by omega) (by omega)) ?_
                rintro _ w27 ⟨rfl, hGw27⟩
                have hB := ext_trans hB hGw27
                have ho := ho.ext hGw27
                have hVgp := hVgp.ext hGw27
                refine WL.take rfl ?_
                refine WL.eql rfl rfl rfl (fun c28 => ?_) (fun c28 => ?_)
                · refine WL.pick rfl rfl rfl ?_
                  refine WL.done ?_
                  refine W.condT rfl ?_
                  refine W.skip ?_
                  refine W.block ?_
                  refine W.region ?_
                  refine WL.move rfl rfl ?_
                  refine WL.fieldA (off := 0) Try.fla37_0 rfl rfl ?_
                  refine WL.load Try.underlying3 rfl rfl (hVgp.vcells 0 _ rfl) rfl ?_
                  refine WL.quo (r := ((o / ((M.getD i (0, 0)).1) : Nat) : Int)) rfl rfl (by omega) (qi64 (by omega) (by omega) (by omega)) rfl ?_
                  refine WL.assign rfl rfl ?_
                  refine WL.done ?_
                  refine ⟨(o / (M.getD i (0, 0)).1), ⟨iv (by omega), iv (by omega), iv (by omega), rfl, rfl, iv (by omega), iv (by omega), trivial⟩, by omega, ?_⟩
                  have hdm : o % (M.getD i (0, 0)).1 = 0 := by omega
                  exact ⟨hB, Nat.dvd_trans (Nat.div_dvd_of_dvd (Nat.dvd_of_mod_eq_zero hdm)) hod, Nat.div_pos (Nat.le_of_dvd ho0 (Nat.dvd_of_mod_eq_zero hdm)) (by omega), (one_eq hn2).1 (by omega), fun j h => ord_keep (by omega) hdm (hall j h), ho, hVgp⟩
                · refine WL.pick rfl rfl rfl ?_
                  refine WL.done ?_
                  refine W.condF rfl ?_
                  refine W.exit ?_
                  refine W.region ?_
                  refine WL.add (r := ((i + 1 : Nat) : Int)) rfl rfl (wi64 (by omega) (by omega) (by omega)) rfl ?_
                  refine WL.move rfl rfl ?_
                  refine WL.done ?_
                  refine ⟨(i + 1, o, Ao, mo, co), ⟨iv (by omega), iv (by omega), iv (by omega), rfl, iv (by omega), iv (by omega), trivial⟩, by (dsimp only; omega), ?_⟩
                  exact ⟨hB, by omega, hod, ho0, hone, fun j h => (by
                    rcases Nat.lt_succ_iff_lt_or_eq.1 h with h1 | h1
                    · exact hall j h1
                    · rw [h1]; rintro ⟨h2, h3⟩; have h4 := (one_eq hn2).2 h3; omega), ho⟩
              · refine WL.move rfl rfl ?_
                refine WL.pass rfl rfl rfl ?_
                refine WL.pass rfl rfl rfl ?_
                refine WL.pass rfl rfl rfl ?_
                refine WL.pass rfl rfl rfl ?_
                refine WL.pass rfl rfl rfl ?_
                refine WL.pass rfl rfl rfl ?_
                refine WL.pass rfl rfl rfl ?_
                refine WL.pass rfl rfl rfl ?_
                refine WL.pick rfl rfl rfl ?_
                refine WL.done ?_
                refine W.condF rfl ?_
                refine W.exit ?_
                refine W.region ?_
                refine WL.add (r := ((i + 1 : Nat) : Int)) rfl rfl (wi64 (by omega) (by omega) (by omega)) rfl ?_
                refine WL.move rfl rfl ?_
                refine WL.done ?_
                refine ⟨(i + 1, o, Ao, mo, co), ⟨iv (by omega), iv (by omega), iv (by omega), rfl, iv (by omega), iv (by omega), trivial⟩, by (dsimp only; omega), ?_⟩
                exact ⟨hB, by omega, hod, ho0, hone, fun j h => (by
                  rcases Nat.lt_succ_iff_lt_or_eq.1 h with h1 | h1
                  · exact hall j h1
                  · rw [h1]; rintro ⟨h2, h3⟩; have h4 := (one_eq hn2).2 h3; omega), ho⟩
        · refine WL.done ?_
          refine W.seq ?_
          refine W.condF rfl ?_
          refine W.exit ?_
          refine W.seq ?_
          refine W.region ?_
          refine WL.move rfl rfl ?_
          refine WL.assign rfl rfl ?_
          refine WL.assign rfl rfl ?_
          refine WL.done ?_
          refine W.ret ?_
          refine ⟨_, rfl, ?_⟩
          first
          | (cases hR with
             | out h => exact ⟨rfl, hB⟩
             | none h1 h2 => exact absurd h1 z
             | ok h1 h2 => exact absurd h1 z)
          | (rw [hem] at c_g; cases hR with
             | out h => exact absurd z h
             | none h1 h2 => exact ⟨rfl, hB⟩
             | ok h1 h2 => omega)
          | (cases hR with
             | out h => exact absurd z h
             | none h1 h2 => exact absurd hg1 h2
             | ok h1 h2 h3 =>
               have h5 : IsOrd (X % (Y.toNat : Int)).toNat Y.toNat K := (by rw [hyt]; exact h3)
               have h4 := (IsOrd.of hM hod ho0 hone (of_getD fun j hj => hall j (by omega))).uniq h5
               exact ⟨by rw [h4]; rfl, hB⟩)
end Go.Proofs.Ytdmgbahognfhbaa
set_option linter.unusedSimpArgs false
set_option linter.unusedVariables false
namespace Go.Proofs.Ytdmgbahognfhbaa
open Go.RowKit
theorem Product_c {w : World} {Bl : Nat} {Al : Option Addr} {ml cl : Nat} {xl : List Int} (hl : Rd Bl w 1 Al ml cl (is xl)) {X : Int} (hX : -9223372036854775808 ≤ X ∧ X ≤ 9223372036854775807) (hIl : ILim xl) :
    Calls Try.prog 42 #[.int .i64 X, .slice Al ml cl] w fun e w2 => ∃ v, e = .returned v ∧ (fun v w2 => v = .tuple #[.int .i64 (((prodS X xl).1 : Nat) : Int), .int .i64 (((prodS X xl).2 : Nat) : Int)] ∧ w.grownBy w2 none) v w2 := by
  have hl := hl.norm
  have hl_l := hl.ilen
  have hl_x := hl.max
  simp only [maxLen] at hl_x
  have hl_c := hl.cap
  have hl0 := hl
  have hB := ext_refl w
  refine calls_of_W (vs := [.int .i64 X, .slice Al ml cl]) [4, 5] Try.func42 rfl rfl rfl rfl ?_
  refine W.seq ?_
  refine W.region ?_
  refine WL.assign rfl rfl ?_
  refine WL.assign rfl rfl ?_
  refine WL.done ?_
  refine W.seq ?_
  refine W.seq ?_
  refine W.region ?_
  refine WL.move rfl rfl ?_
  refine WL.lss rfl rfl rfl (fun c11 => ?_) (fun c11 => ?_)
  · refine WL.done ?_
    refine W.condT rfl ?_
    refine W.seq ?_
    refine W.region ?_
    refine WL.assign rfl rfl ?_
    refine WL.assign rfl rfl ?_
    refine WL.done ?_
    refine W.ret ?_
    refine ⟨_, rfl, ?_⟩
    first
    | (rw [prodS_most (by omega)]; exact ⟨rfl, hB⟩)
    | (rw [prodS_neg (imem (l := xl) (j := i) (by omega)) (by omega)]; exact ⟨rfl, hB⟩)
    | (rw [prodS_zero (by omega) (of_iget fun j hj => hnn j (by omega)) (hz0 rfl)]; exact ⟨rfl, hB⟩)
    | (have hie : i = xl.length := by omega
       rw [hps, hie, List.take_length]; exact ⟨rfl, hB⟩)
    | (rw [hps, prS_big (show X.toNat < prodI xl by omega), prS_big (show X.toNat < prodI (xl.take i) by omega)]; exact ⟨rfl, hB⟩)
  · refine WL.done ?_
    refine W.condF rfl ?_
    refine W.skip ?_
    refine W.seq ?_
    refine W.region ?_
    refine WL.assign rfl rfl ?_
    refine WL.done ?_
    refine W.seq ?_
    refine W.seq ?_
    refine W.region ?_
    refine WL.move rfl rfl ?_
    refine WL.len Try.underlying29 rfl rfl ?_
    refine WL.move rfl rfl ?_
    refine WL.done ?_
    refine W.block ?_
    refine W.loop (σ := Nat × Bool) (fun s w1 => match s with | (i, zz) => w.grownBy w1 none ∧ i ≤ ml ∧ (∀ j, j < i → 0 ≤ xl.getD j 0) ∧ (zz = true → 0 ∈ xl) ∧ (zz = false → ∀ j, j < i → xl.getD j 0 ≠ 0)) (fun s => match s with | (i, zz) => [(0, .int .i64 X), (1, .slice Al ml cl), (6, .bool zz), (14, .slice Al ml cl), (15, .int .i64 ((ml : Nat) : Int)), (16, .int .i64 ((i : Nat) : Int))]) (fun s => match s with | (i, zz) => ml - i) (0, false) ?_ ?_ ?_
    · exact ⟨hB, by omega, fun j h => by omega, fun h => (by cases h), fun _ j h => by omega⟩
    · exact ⟨iv (by omega), rfl, rfl, rfl, iv (by omega), iv (by omega), trivial⟩
    · rintro ⟨i, zz⟩ w12 ⟨hB, hi, hnn, hz0, hnz⟩
      have hl := hl0.ext hB
      refine W.seq ?_
      refine W.region ?_
      refine WL.lss rfl rfl rfl (fun c13 => ?_) (fun c13 => ?_)
      · refine WL.done ?_
        refine W.seq ?_
        refine W.condT rfl ?_
        refine W.skip ?_
        refine W.seq ?_
        refine W.block ?_
        refine W.seq ?_
        have hIi := hIl.getD i
        · refine W.region ?_
          refine WL.index1 (i) Try.underlying29 Try.el3 rfl rfl (by omega) (by omega) hl rfl ?_
          refine WL.load Try.underlying3 rfl rfl (Rd.at_ hl (is_at (by omega))) rfl ?_
          refine WL.assign rfl rfl ?_
          refine WL.done ?_
          refine W.seq ?_
          refine W.seq ?_
          refine W.region ?_
          refine WL.move rfl rfl ?_
          refine WL.lss rfl rfl rfl (fun c14 => ?_) (fun c14 => ?_)
          · refine WL.done ?_
            refine W.condT rfl ?_
            refine W.seq ?_
            refine W.region ?_
            refine WL.assign rfl rfl ?_
            refine WL.assign rfl rfl ?_
            refine WL.done ?_
            refine W.ret ?_
            refine ⟨_, rfl, ?_⟩
            first
            | (rw [prodS_most (by omega)]; exact ⟨rfl, hB⟩)
            | (rw [prodS_neg (imem (l := xl) (j := i) (by omega)) (by omega)]; exact ⟨rfl, hB⟩)
            | (rw [prodS_zero (by omega) (of_iget fun j hj => hnn j (by omega)) (hz0 rfl)]; exact ⟨rfl, hB⟩)
            | (have hie : i = xl.length := by omega
               rw [hps, hie, List.take_length]; exact ⟨rfl, hB⟩)
            | (rw [hps, prS_big (show X.toNat < prodI xl by omega), prS_big (show X.toNat < prodI (xl.take i) by omega)]; exact ⟨rfl, hB⟩)
          · refine WL.done ?_
            refine W.condF rfl ?_
            refine W.skip ?_
            refine W.region ?_
            refine WL.move rfl rfl ?_
            refine WL.move rfl rfl ?_
            rcases zz with _ | _
            · refine WL.take rfl ?_
              refine WL.move rfl rfl ?_
              refine WL.take rfl ?_
              refine WL.eql rfl rfl rfl (fun c16 => ?_) (fun c16 => ?_)
              · refine WL.pick rfl rfl rfl ?_
                refine WL.assign rfl rfl ?_
                refine WL.done ?_
                refine W.region ?_
                refine WL.add (r := ((i + 1 : Nat) : Int)) rfl rfl (wi64 (by omega) (by omega) (by omega)) rfl ?_
                refine WL.move rfl rfl ?_
                refine WL.done ?_
                refine ⟨(i + 1, true), ⟨iv (by omega), rfl, rfl, rfl, iv (by omega), iv (by omega), trivial⟩, by (dsimp only; omega), ?_⟩
                exact ⟨hB, by omega, fun j h => (by
                  rcases Nat.lt_succ_iff_lt_or_eq.1 h with h1 | h1
                  · exact hnn j h1
                  · rw [h1]; omega), fun _ => (by have h2 := imem (l := xl) (j := i) (by omega); rw [show xl.getD i 0 = 0 by omega] at h2; exact h2), fun h => (by cases h)⟩
              · refine WL.pick rfl rfl rfl ?_
                refine WL.assign rfl rfl ?_
                refine WL.done ?_
                refine W.region ?_
                refine WL.add (r := ((i + 1 : Nat) : Int)) rfl rfl (wi64 (by omega) (by omega) (by omega)) rfl ?_
                refine WL.move rfl rfl ?_
                refine WL.done ?_
                refine ⟨(i + 1, false), ⟨iv (by omega), rfl, rfl, rfl, iv (by omega), iv (by omega), trivial⟩, by (dsimp only; omega), ?_⟩
                exact ⟨hB, by omega, fun j h => (by
                  rcases Nat.lt_succ_iff_lt_or_eq.1 h with h1 | h1
                  · exact hnn j h1
                  · rw [h1]; omega), fun h => (by cases h), fun _ j h => (by
                  rcases Nat.lt_succ_iff_lt_or_eq.1 h with h1 | h1
                  · exact hnz rfl j h1
                  · rw [h1]; omega)⟩
            · refine WL.pass rfl rfl rfl ?_
              refine WL.pass rfl rfl rfl ?_
              refine WL.pick rfl rfl rfl ?_
              refine WL.assign rfl rfl ?_
              refine WL.done ?_
              refine W.region ?_
              refine WL.add (r := ((i + 1 : Nat) : Int)) rfl rfl (wi64 (by omega) (by omega) (by omega)) rfl ?_
              refine WL.move rfl rfl ?_
              refine WL.done ?_
              refine ⟨(i + 1, true), ⟨iv (by omega), rfl, rfl, rfl, iv (by omega), iv (by omega), trivial⟩, by (dsimp only; omega), ?_⟩
              exact ⟨hB, by omega, fun j h => (by
                rcases Nat.lt_succ_iff_lt_or_eq.1 h with h1 | h1
                · exact hnn j h1
                · rw [h1]; omega), fun _ => hz0 rfl, fun h => (by cases h)⟩
      · refine WL.done ?_
        refine W.seq ?_
        refine W.condF rfl ?_
        refine W.exit ?_
        refine W.seq ?_
        refine W.seq ?_
        refine W.region ?_
        refine WL.move rfl rfl ?_
        refine WL.done ?_
        rcases zz with _ | _
        · refine W.condF rfl ?_
          refine W.skip ?_
          refine W.seq ?_
          refine W.region ?_
          refine WL.move rfl rfl ?_
          have hpp : ∀ x ∈ xl, 0 < x := of_iget (fun j hj => by have h1 := hnn j (by omega); have h2 := hnz rfl j (by omega); omega)
          have hM0 : 0 ≤ X := by omega
          have hpm := prodI_mono hpp
          have hpos := prodI_pos hpp
          have hps := prodS_pos hM0 hpp
          refine WL.call Try.func66 rfl Try.nm66 rfl rfl (times_c 1 rfl 1 rfl X.toNat (by omega) (by omega) (by omega) (by omega) (by omega)) ?_
          rintro _ w18 ⟨rfl, hGw18⟩
          have hB := ext_trans hB hGw18
          have hl := hl0.ext hB
          rw [show 1 * 1 = prodI (xl.take 0) from rfl]
          refine WL.move rfl rfl ?_
          refine WL.extract rfl rfl rfl ?_
          refine WL.extract rfl rfl rfl ?_
          refine WL.assign rfl rfl ?_
          refine WL.assign rfl rfl ?_
          refine WL.done ?_
          refine W.seq ?_
          refine W.seq ?_
          refine W.region ?_
          refine WL.assign rfl rfl ?_
          refine WL.done ?_
          refine W.block ?_
          refine W.loop (σ := Nat) (fun i w1 => w.grownBy w1 none ∧ i ≤ ml) (fun i => [(0, .int .i64 X), (1, .slice Al ml cl), (9, .int .i64 (((prS X.toNat (prodI (xl.take i))).1 : Nat) : Int)), (10, .int .i64 (((prS X.toNat (prodI (xl.take i))).2 : Nat) : Int)), (11, .int .i64 ((i : Nat) : Int))]) (fun i => ml - i) 0 ?_ ?_ ?_
          · exact ⟨hB, by omega⟩
          · exact ⟨iv (by omega), rfl, iv (by omega), iv (by omega), iv (by omega), trivial⟩
          · rintro i w19 ⟨hB, hi⟩
            have hl := hl0.ext hB
            have hle := prS_le X.toNat (prodI (xl.take i))
            have hok := @prS_2 X.toNat (prodI (xl.take i))
            have hmi := hpm i
            refine W.seq ?_
            refine W.seq ?_
            refine W.region ?_
            refine WL.move rfl rfl ?_
            refine WL.move rfl rfl ?_
            refine WL.len Try.underlying29 rfl rfl ?_
            refine WL.lss rfl rfl rfl (fun c20 => ?_) (fun c20 => ?_)
            · refine WL.move rfl rfl ?_
              refine WL.take rfl ?_
              refine WL.move rfl rfl ?_
              refine WL.take rfl ?_
              refine WL.eql rfl rfl rfl (fun c21 => ?_) (fun c21 => ?_)
              · refine WL.pick rfl rfl rfl ?_
                refine WL.done ?_
                refine W.condT rfl ?_
                refine W.skip ?_
                refine W.seq ?_
                refine W.block ?_
                have hil : i < xl.length := (by omega); have hIi := hIl.getD i; have hgi := hpp _ (imem hil); have hpt := prodI_take hil; have hok1 : prodI (xl.take i) ≤ X.toNat := (by omega); have hpr := prS_ok hok1; have hp1 : (prS X.toNat (prodI (xl.take i))).1 = prodI (xl.take i) := (by rw [hpr])
                · refine W.region ?_
                  refine WL.move rfl rfl ?_
                  refine WL.move rfl rfl ?_
                  refine WL.move rfl rfl ?_
                  refine WL.index1 (i) Try.underlying29 Try.el3 rfl rfl (by omega) (by omega) hl rfl ?_
                  refine WL.load Try.underlying3 rfl rfl (Rd.at_ hl (is_at (by omega))) rfl ?_
                  refine WL.move rfl rfl ?_
                  refine WL.call Try.func66 rfl Try.nm66 rfl rfl (times_c (prodI (xl.take i)) (by omega) (xl.getD i 0).toNat (by omega) X.toNat (by omega) (by omega) (by omega) (by omega) (by omega)) ?_
                  rintro _ w22 ⟨rfl, hGw22⟩
                  have hB := ext_trans hB hGw22
                  rw [← hpt]
                  refine WL.move rfl rfl ?_
                  refine WL.extract rfl rfl rfl ?_
                  refine WL.extract rfl rfl rfl ?_
                  refine WL.assign rfl rfl ?_
                  refine WL.assign rfl rfl ?_
                  refine WL.done ?_
                  refine W.region ?_
                  refine WL.move rfl rfl ?_
                  refine WL.add (r := ((i + 1 : Nat) : Int)) rfl rfl (wi64 (by omega) (by omega) (by omega)) rfl ?_
                  refine WL.assign rfl rfl ?_
                  refine WL.done ?_
                  refine ⟨i + 1, ⟨iv (by omega), rfl, iv (by omega), iv (by omega), iv (by omega), trivial⟩, by omega, ?_⟩
                  exact ⟨hB, by omega⟩
              · refine WL.pick rfl rfl rfl ?_
                refine WL.done ?_
                refine W.condF rfl ?_
                refine W.exit ?_
                refine W.seq ?_
                refine W.region ?_
                refine WL.move rfl rfl ?_
                refine WL.move rfl rfl ?_
                refine WL.assign rfl rfl ?_
                refine WL.assign rfl rfl ?_
                refine WL.done ?_
                refine W.ret ?_
                refine ⟨_, rfl, ?_⟩
                first
                | (rw [prodS_most (by omega)]; exact ⟨rfl, hB⟩)
                | (rw [prodS_neg (imem (l := xl) (j := i) (by omega)) (by omega)]; exact ⟨rfl, hB⟩)
                | (rw [prodS_zero (by omega) (of_iget fun j hj => hnn j (by omega)) (hz0 rfl)]; exact ⟨rfl, hB⟩)
                | (have hie : i = xl.length := by omega
                   rw [hps, hie, List.take_length]; exact ⟨rfl, hB⟩)
                | (rw [hps, prS_big (show X.toNat < prodI xl by omega), prS_big (show X.toNat < prodI (xl.take i) by omega)]; exact ⟨rfl, hB⟩)
            · refine WL.move rfl rfl ?_
              refine WL.pass rfl rfl rfl ?_
              refine WL.pass rfl rfl rfl ?_
              refine WL.pick rfl rfl rfl ?_
              refine WL.done ?_
              refine W.condF rfl ?_
              refine W.exit ?_
              refine W.seq ?_
              refine W.region ?_
              refine WL.move rfl rfl ?_
              refine WL.move rfl rfl ?_
              refine WL.assign rfl rfl ?_
              refine WL.assign rfl rfl ?_
              refine WL.done ?_
              refine W.ret ?_
              refine ⟨_, rfl, ?_⟩
              first
              | (rw [prodS_most (by omega)]; exact ⟨rfl, hB⟩)
              | (rw [prodS_neg (imem (l := xl) (j := i) (by omega)) (by omega)]; exact ⟨rfl, hB⟩)
              | (rw [prodS_zero (by omega) (of_iget fun j hj => hnn j (by omega)) (hz0 rfl)]; exact ⟨rfl, hB⟩)
              | (have hie : i = xl.length := by omega
                 rw [hps, hie, List.take_length]; exact ⟨rfl, hB⟩)
              | (rw [hps, prS_big (show X.toNat < prodI xl by omega), prS_big (show X.toNat < prodI (xl.take i) by omega)]; exact ⟨rfl, hB⟩)
        · refine W.condT rfl ?_
          refine W.seq ?_
          refine W.region ?_
          refine WL.assign rfl rfl ?_
          refine WL.assign rfl rfl ?_
          refine WL.done ?_
          refine W.ret ?_
          refine ⟨_, rfl, ?_⟩
          first
          | (rw [prodS_most (by omega)]; exact ⟨rfl, hB⟩)
          | (rw [prodS_neg (imem (l := xl) (j := i) (by omega)) (by omega)]; exact ⟨rfl, hB⟩)
          | (rw [prodS_zero (by omega) (of_iget fun j hj => hnn j (by omega)) (hz0 rfl)]; exact ⟨rfl, hB⟩)
          | (have hie : i = xl.length := by omega
             rw [hps, hie, List.take_length]; exact ⟨rfl, hB⟩)
          | (rw [hps, prS_big (show X.toNat < prodI xl by omega), prS_big (show X.toNat < prodI (xl.take i) by omega)]; exact ⟨rfl, hB⟩)
end Go.Proofs.Ytdmgbahognfhbaa
