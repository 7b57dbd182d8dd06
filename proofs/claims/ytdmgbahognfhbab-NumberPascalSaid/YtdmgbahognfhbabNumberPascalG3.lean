/- Contracts of functions of the program, and what they lean on: N3, N4, N5, N6, N7, N8. -/
import Derived.Test.YtdmgbahognfhbabNumberPascalG2
set_option linter.unusedSimpArgs false
set_option linter.unusedVariables false
namespace Go.Proofs.Ytdmgbahognfhbab
open Go.RowKit
theorem PrimePower_ok {w : World} (n : Nat) {X : Int} (hX : X = n) (L : List (Nat × Nat)) (hF : IsFac n L) (hn1 : 1 ≤ n) (hn : n < 2147483648) :
    Calls Try.prog 56 #[.int .i64 X] w fun e w2 => ∃ v, e = .returned v ∧ (fun v w2 => v = .tuple #[.int .i64 (((ppS L).1 : Nat) : Int), .int .i64 (((ppS L).2.1 : Nat) : Int), .int .i64 (((ppS L).2.2 : Nat) : Int)] ∧ w.grownBy w2 none) v w2 := by
  have hLl := hF.len_lt hn
  have hbd := hF.bd hn
  have hB := ext_refl w
  refine calls_of_W (vs := [.int .i64 X]) [2, 3, 4] Try.func56 rfl rfl rfl rfl ?_
  refine W.seq ?_
  refine W.region ?_
  refine WL.assign rfl rfl ?_
  refine WL.assign rfl rfl ?_
  refine WL.assign rfl rfl ?_
  refine WL.done ?_
  refine W.seq ?_
  refine W.region ?_
  refine WL.move rfl rfl ?_
  refine WL.call Try.func55 rfl Try.nm55 rfl rfl (Factor_ok n (by omega) L hF (by omega) (by omega)) ?_
  rintro _ w11 ⟨A12, m13, c14, rfl, hGw11, hf⟩
  have hf := hf.low (b' := w.heap.size) hB.size
  have hB := ext_trans hB hGw11
  have hf_l := hf.rd.plen
  refine WL.move rfl rfl ?_
  refine WL.extract rfl rfl rfl ?_
  refine WL.extract rfl rfl rfl ?_
  refine WL.assign rfl rfl ?_
  refine WL.assign rfl rfl ?_
  refine WL.done ?_
  refine W.seq ?_
  refine W.seq ?_
  refine W.region ?_
  refine WL.move rfl rfl ?_
  refine WL.neq rfl rfl rfl (fun c15 => ?_) (fun c15 => ?_)
  · exfalso
    omega
  · refine WL.done ?_
    refine W.condF rfl ?_
    refine W.skip ?_
    refine W.seq ?_
    refine W.seq ?_
    refine W.region ?_
    refine WL.move rfl rfl ?_
    refine WL.len Try.underlying69 rfl rfl ?_
    refine WL.neq rfl rfl rfl (fun c16 => ?_) (fun c16 => ?_)
    · refine WL.done ?_
      refine W.condT rfl ?_
      refine W.seq ?_
      refine W.region ?_
      refine WL.assign rfl rfl ?_
      refine WL.assign rfl rfl ?_
      refine WL.assign rfl rfl ?_
      refine WL.done ?_
      refine W.ret ?_
      refine ⟨_, rfl, ?_⟩
      first
      | (rw [ppS_ne (by omega)]; exact ⟨rfl, hB⟩)
      | (rw [ppS_one (by omega)]; exact ⟨rfl, hB⟩)
    · refine WL.done ?_
      refine W.condF rfl ?_
      refine W.skip ?_
      refine W.seq ?_
      refine W.drawT 9 [⟨[], [5], true⟩, ⟨[0], [], true⟩, ⟨[1], [], true⟩, ⟨[2], [], false⟩, ⟨[], [5], true⟩, ⟨[4], [], true⟩, ⟨[5], [], true⟩, ⟨[6], [], false⟩, ⟨[3], [], true⟩] [[(5, .slice A12 m13 c14)], [], [], [], [(5, .slice A12 m13 c14)], [], [], [], []] (fun iQ => [fun v wQ => v = .slice A12 m13 c14, fun v wQ => v = .pointer (some ((adOf A12).add (0 * 2))), fun v wQ => v = .pointer (some (((adOf A12).add (0 * 2)).add 0)), fun v wQ => v = .int .i64 (((L.getD 0 (0, 0)).1 : Nat) : Int), fun v wQ => v = .slice A12 m13 c14, fun v wQ => v = .pointer (some ((adOf A12).add (0 * 2))), fun v wQ => v = .pointer (some (((adOf A12).add (0 * 2)).add 1)), fun v wQ => v = .int .i64 (((L.getD 0 (0, 0)).2 : Nat) : Int), fun v wQ => v = .int .i64 (((L.getD 0 (0, 0)).1 : Nat) : Int)].getD iQ (fun _ _ => True)) Try.mixed (by kernel_rfl) ?_ ?_ ?_
      · refine Vs_monoT _ ?_
        intro VQ hVQ vQ wQ1 wQ2 hQ1 hQ2
        simp only [List.mem_cons, List.not_mem_nil, or_false] at hVQ
        rcases hVQ with rfl | rfl | rfl | rfl | rfl | rfl | rfl | rfl | rfl
        · exact hQ1
        · exact hQ1
        · exact hQ1
        · exact hQ1
        · exact hQ1
        · exact hQ1
        · exact hQ1
        · exact hQ1
        · exact hQ1
      · refine ⟨⟨rfl, ⟨rfl, trivial⟩, ?_⟩, ⟨rfl, trivial, ?_⟩, ⟨rfl, trivial, ?_⟩, ⟨rfl, trivial, ?_⟩, ⟨rfl, ⟨rfl, trivial⟩, ?_⟩, ⟨rfl, trivial, ?_⟩, ⟨rfl, trivial, ?_⟩, ⟨rfl, trivial, ?_⟩, ⟨rfl, trivial, ?_⟩, trivial⟩
        · intro w17 hE
          intro R
          refine WL.move rfl rfl ?_
          exact WL.done ⟨_, rfl, rfl, rfl⟩
        · intro w18 hE
          rintro _ rfl
          intro R
          refine WL.index (0) Try.underlying69 Try.el73 rfl rfl (by omega) (by omega) hf.rd rfl ?_
          exact WL.done ⟨_, rfl, rfl, rfl⟩
        · intro w19 hE
          rintro _ rfl
          intro R
          refine WL.fieldA (off := 0) Try.fla73_0 rfl rfl ?_
          exact WL.done ⟨_, rfl, rfl, rfl⟩
        · intro w20 hE
          have hE := hE rfl
          have hB := ext_trans hB hE
          have hf := hf.ext hE
          rintro _ rfl
          intro R
          refine WL.load Try.underlying3 rfl rfl (by rw [add_add]; exact Rd.at_ hf.rd (pc_at (by first | omega | decide)).1) rfl ?_
          exact WL.done ⟨_, rfl, ext_refl _, rfl⟩
        · intro w21 hE
          intro R
          refine WL.move rfl rfl ?_
          exact WL.done ⟨_, rfl, rfl, rfl⟩
        · intro w22 hE
          rintro _ rfl
          intro R
          refine WL.index (0) Try.underlying69 Try.el73 rfl rfl (by omega) (by omega) hf.rd rfl ?_
          exact WL.done ⟨_, rfl, rfl, rfl⟩
        · intro w23 hE
          rintro _ rfl
          intro R
          refine WL.fieldA (off := 1) Try.fla73_1 rfl rfl ?_
          exact WL.done ⟨_, rfl, rfl, rfl⟩
        · intro w24 hE
          have hE := hE rfl
          have hB := ext_trans hB hE
          have hf := hf.ext hE
          rintro _ rfl
          intro R
          refine WL.load Try.underlying3 rfl rfl (by rw [add_add]; exact Rd.at_ hf.rd (pc_at (by first | omega | decide)).2) rfl ?_
          exact WL.done ⟨_, rfl, ext_refl _, rfl⟩
        · intro w25 hE
          rintro _ rfl
          intro R
          refine WL.assign rfl rfl ?_
          exact WL.done ⟨_, rfl, rfl, rfl⟩
      · intro vals w26 hT hVs
        have hB := ext_trans hB hT
        have hv0 : vals 0 = _ := hVs 0 (by decide)
        have hv1 : vals 1 = _ := hVs 1 (by decide)
        have hv2 : vals 2 = _ := hVs 2 (by decide)
        have hv3 : vals 3 = _ := hVs 3 (by decide)
        have hv4 : vals 4 = _ := hVs 4 (by decide)
        have hv5 : vals 5 = _ := hVs 5 (by decide)
        have hv6 : vals 6 = _ := hVs 6 (by decide)
        have hv7 : vals 7 = _ := hVs 7 (by decide)
        have hv8 : vals 8 = _ := hVs 8 (by decide)
        rw [show (List.filterMap (fun i => Option.map (fun t => (t, vals i)) (dstAt _ i)) (List.range _)) = [(18, .slice A12 m13 c14), (19, .pointer (some ((adOf A12).add (0 * 2)))), (20, .pointer (some (((adOf A12).add (0 * 2)).add 0))), (21, .int .i64 (((L.getD 0 (0, 0)).1 : Nat) : Int)), (22, .slice A12 m13 c14), (23, .pointer (some ((adOf A12).add (0 * 2)))), (24, .pointer (some (((adOf A12).add (0 * 2)).add 1))), (25, .int .i64 (((L.getD 0 (0, 0)).2 : Nat) : Int)), (2, .int .i64 (((L.getD 0 (0, 0)).1 : Nat) : Int))] from by
          show [(18, vals 0), (19, vals 1), (20, vals 2), (21, vals 3), (22, vals 4), (23, vals 5), (24, vals 6), (25, vals 7), (2, vals 8)] = _
          rw [hv0, hv1, hv2, hv3, hv4, hv5, hv6, hv7, hv8]]
        refine WA.step [9] (by decide +kernel) rfl ?_
        intro iQ hQ
        simp only [List.mem_cons, List.not_mem_nil, or_false] at hQ
        obtain rfl := hQ
        · refine ⟨_, rfl, ?_⟩
          refine WL.assign rfl rfl ?_
          refine WL.done ?_
          refine WA.step [10] (by decide +kernel) rfl ?_
          intro iQ hQ
          simp only [List.mem_cons, List.not_mem_nil, or_false] at hQ
          obtain rfl := hQ
          · refine ⟨_, rfl, ?_⟩
            refine WL.assign rfl rfl ?_
            refine WL.done ?_
            refine WA.done (by decide +kernel) ?_
            refine W.ret ?_
            refine ⟨_, rfl, ?_⟩
            first
            | (rw [ppS_ne (by omega)]; exact ⟨rfl, hB⟩)
            | (rw [ppS_one (by omega)]; exact ⟨rfl, hB⟩)

theorem Phi_ok {w : World} (n : Nat) {X : Int} (hX : X = n) (L : List (Nat × Nat)) (hF : IsFac n L) (hn1 : 1 ≤ n) (hn : n < 2147483648) :
    Calls Try.prog 61 #[.int .i64 X] w fun e w2 => ∃ v, e = .returned v ∧ (fun v w2 => v = .tuple #[.int .i64 ((phiL L : Nat) : Int), .int .i64 0] ∧ w.grownBy w2 none) v w2 := by
  have hLl := hF.len_lt hn
  have hbd := hF.bd hn
  have hphi := phiL_pos hF
  have hB := ext_refl w
  refine calls_of_W (vs := [.int .i64 X]) [2, 3] Try.func61 rfl rfl rfl rfl ?_
  refine W.seq ?_
  refine W.region ?_
  refine WL.assign rfl rfl ?_
  refine WL.assign rfl rfl ?_
  refine WL.done ?_
  refine W.seq ?_
  refine W.region ?_
  refine WL.move rfl rfl ?_
  refine WL.call Try.func55 rfl Try.nm55 rfl rfl (Factor_ok n (by omega) L hF (by omega) (by omega)) ?_
  rintro _ w11 ⟨A12, m13, c14, rfl, hGw11, hf⟩
  have hf := hf.low (b' := w.heap.size) hB.size
  have hB := ext_trans hB hGw11
  have hf_l := hf.rd.plen
  refine WL.move rfl rfl ?_
  refine WL.extract rfl rfl rfl ?_
  refine WL.extract rfl rfl rfl ?_
  refine WL.assign rfl rfl ?_
  refine WL.assign rfl rfl ?_
  refine WL.done ?_
  refine W.seq ?_
  refine W.seq ?_
  refine W.region ?_
  refine WL.move rfl rfl ?_
  refine WL.neq rfl rfl rfl (fun c15 => ?_) (fun c15 => ?_)
  · exfalso
    omega
  · refine WL.done ?_
    refine W.condF rfl ?_
    refine W.skip ?_
    refine W.seq ?_
    refine W.seq ?_
    refine W.region ?_
    have hp0 : phiL (L.take 0) * n = n := Nat.one_mul n
    refine WL.move rfl rfl ?_
    refine WL.len Try.underlying69 rfl rfl ?_
    refine WL.move rfl rfl ?_
    refine WL.done ?_
    refine W.block ?_
    refine W.loop (σ := Nat × Nat × Option Addr × Nat × Nat) (fun s w1 => match s with | (i, x, Ao, mo, co) => w.grownBy w1 none ∧ i ≤ L.length ∧ IsFac x (L.drop i) ∧ phiL (L.take i) * x ≤ n ∧ Own w.heap.size w1 73 2 Ao mo co (pc (L))) (fun s => match s with | (i, x, Ao, mo, co) => [(0, .int .i64 ((phiL (L.take i) * x : Nat) : Int)), (16, .slice Ao mo co), (17, .int .i64 ((mo : Nat) : Int)), (18, .int .i64 ((i : Nat) : Int))]) (fun s => match s with | (i, x, Ao, mo, co) => L.length - i) (0, n, A12, m13, c14) ?_ ?_ ?_
    · exact ⟨hB, by omega, hF, by omega, hf⟩
    · exact ⟨iv (by omega), rfl, iv (by omega), iv (by omega), trivial⟩
    · rintro ⟨i, x, Ao, mo, co⟩ w16 ⟨hB, hi, hF2, hFn, ho⟩
      have ho_l := ho.rd.plen
      refine W.seq ?_
      refine W.region ?_
      refine WL.lss rfl rfl rfl (fun c17 => ?_) (fun c17 => ?_)
      · refine WL.done ?_
        refine W.seq ?_
        refine W.condT rfl ?_
        refine W.skip ?_
        refine W.seq ?_
        refine W.block ?_
        refine W.seq ?_
        refine W.region ?_
        refine WL.index (i) Try.underlying69 Try.el73 rfl rfl (by omega) (by omega) ho.rd rfl ?_
        refine WL.loadV (cs := [.int .i64 (((L.getD i (0, 0)).1 : Nat) : Int), .int .i64 (((L.getD i (0, 0)).2 : Nat) : Int)]) Try.el73 Try.agg73 rfl rfl (pc_load ho.rd (i) (by first | omega | decide)) rfl ?_
        refine WL.alloc Try.el73 rfl ?_
        intro g18 w19 hg_g18 hVg18 hGw19
        change Own _ _ _ _ _ _ _ [.int .i64 (0 : Int), .int .i64 (0 : Int)] at hVg18
        have hap_ho_g18 := ap_old ho hg_g18
        have hVg18 := hVg18.low (b' := w.heap.size) hB.size
        have hB := ext_trans hB hGw19
        have ho := ho.ext hGw19
        refine WL.storeV Try.el73 rfl rfl rfl rfl hVg18 ?_
        have hOld21 := hVg18
        intro w20 hVg18 hGw20
        change Own _ _ _ _ _ _ _ [.int .i64 (((L.getD i (0, 0)).1 : Nat) : Int), .int .i64 (((L.getD i (0, 0)).2 : Nat) : Int)] at hVg18
        have hB := ext_own hB hGw20 (fun g hg => (hOld21.bl_ge g hg).1)
        have ho := ho.grown hGw20 (ap_row (by first | exact hap_ho_g18 | exact ap_type ho hOld21 (by decide)))
        refine WL.done ?_
        have hil : i < L.length := (by omega); have hFi := hF2; rw [pdrop hil] at hFi; obtain ⟨y, hl, hy, hyp, he0, hF3⟩ := hFi.inv'; have hst := phi_step (F := phiL (L.take i)) (m := y) hl.two he0; rw [← hy] at hst; have hpt := phi_take hil; have hp2 := hl.two; have hpn := (hbd _ (getD_pmem hil)).2.1; have hdl := Nat.div_le_self (phiL (L.take i) * x) (L.getD i (0, 0)).1; have hnx : phiL (L.take i) * x - phiL (L.take i) * x / (L.getD i (0, 0)).1 = phiL (L.take (i + 1)) * y := (by rw [hpt]; exact hst.2.1); have hny : phiL (L.take i) * x / (L.getD i (0, 0)).1 * ((L.getD i (0, 0)).1 - 1) = phiL (L.take (i + 1)) * y := (by rw [hpt]; exact hst.2.2)
        · refine W.region ?_
          refine WL.move rfl rfl ?_
          refine WL.move rfl rfl ?_
          refine WL.fieldA (off := 0) Try.fla73_0 rfl rfl ?_
          refine WL.load Try.underlying3 rfl rfl (hVg18.vcells 0 _ rfl) rfl ?_
          refine WL.quo (r := (((phiL (L.take i) * x) / ((L.getD i (0, 0)).1) : Nat) : Int)) rfl rfl (by omega) (qi64 (by omega) (by omega) (by omega)) rfl ?_
          refine WL.sub (r := ((phiL (L.take i) * x - phiL (L.take i) * x / (L.getD i (0, 0)).1 : Nat) : Int)) rfl rfl (wi64 (by omega) (by omega) (by omega)) rfl ?_
          refine WL.assign rfl rfl ?_
          refine WL.done ?_
          refine W.region ?_
          refine WL.add (r := ((i + 1 : Nat) : Int)) rfl rfl (wi64 (by omega) (by omega) (by omega)) rfl ?_
          refine WL.move rfl rfl ?_
          refine WL.done ?_
          refine ⟨(i + 1, y, Ao, mo, co), ⟨iv (by omega), rfl, iv (by omega), iv (by omega), trivial⟩, by (dsimp only; omega), ?_⟩
          exact ⟨hB, by omega, hF3, by omega, ho⟩
      · refine WL.done ?_
        refine W.seq ?_
        refine W.condF rfl ?_
        refine W.exit ?_
        refine W.seq ?_
        refine W.region ?_
        refine WL.move rfl rfl ?_
        refine WL.assign rfl rfl ?_
        refine WL.assign rfl rfl ?_
        refine WL.done ?_
        refine W.ret ?_
        refine ⟨_, rfl, ?_⟩
        have hiL : i = L.length := by omega
        subst hiL
        rw [List.drop_length] at hF2
        have hx1 := hF2.nil
        subst hx1
        exact ⟨by rw [List.take_length, Nat.mul_one], hB⟩

theorem Moebius_ok {w : World} (n : Nat) {X : Int} (hX : X = n) (L : List (Nat × Nat)) (hF : IsFac n L) (hn1 : 1 ≤ n) (hn : n < 2147483648) :
    Calls Try.prog 62 #[.int .i64 X] w fun e w2 => ∃ v, e = .returned v ∧ (fun v w2 => v = .tuple #[.int .i64 (moeL L), .int .i64 0] ∧ w.grownBy w2 none) v w2 := by
  have hLl := hF.len_lt hn
  have hbd := hF.bd hn
  have hB := ext_refl w
  refine calls_of_W (vs := [.int .i64 X]) [2, 3] Try.func62 rfl rfl rfl rfl ?_
  refine W.seq ?_
  refine W.region ?_
  refine WL.assign rfl rfl ?_
  refine WL.assign rfl rfl ?_
  refine WL.done ?_
  refine W.seq ?_
  refine W.region ?_
  refine WL.move rfl rfl ?_
  refine WL.call Try.func55 rfl Try.nm55 rfl rfl (Factor_ok n (by omega) L hF (by omega) (by omega)) ?_
  rintro _ w11 ⟨A12, m13, c14, rfl, hGw11, hf⟩
  have hf := hf.low (b' := w.heap.size) hB.size
  have hB := ext_trans hB hGw11
  have hf_l := hf.rd.plen
  refine WL.move rfl rfl ?_
  refine WL.extract rfl rfl rfl ?_
  refine WL.extract rfl rfl rfl ?_
  refine WL.assign rfl rfl ?_
  refine WL.assign rfl rfl ?_
  refine WL.done ?_
  refine W.seq ?_
  refine W.seq ?_
  refine W.region ?_
  refine WL.move rfl rfl ?_
  refine WL.neq rfl rfl rfl (fun c15 => ?_) (fun c15 => ?_)
  · exfalso
    omega
  · refine WL.done ?_
    refine W.condF rfl ?_
    refine W.skip ?_
    refine W.seq ?_
    refine W.region ?_
    refine WL.assign rfl rfl ?_
    refine WL.done ?_
    refine W.seq ?_
    refine W.seq ?_
    refine W.region ?_
    have hp0 : moeL (L.take 0) = 1 := rfl
    refine WL.move rfl rfl ?_
    refine WL.len Try.underlying69 rfl rfl ?_
    refine WL.move rfl rfl ?_
    refine WL.done ?_
    refine W.block ?_
    refine W.loop (σ := Nat × Option Addr × Nat × Nat) (fun s w1 => match s with | (i, Ao, mo, co) => w.grownBy w1 none ∧ i ≤ L.length ∧ (∀ j, j < i → (L.getD j (0, 0)).2 ≤ 1) ∧ Own w.heap.size w1 73 2 Ao mo co (pc (L))) (fun s => match s with | (i, Ao, mo, co) => [(6, .int .i64 (moeL (L.take i))), (17, .slice Ao mo co), (18, .int .i64 ((mo : Nat) : Int)), (19, .int .i64 ((i : Nat) : Int))]) (fun s => match s with | (i, Ao, mo, co) => L.length - i) (0, A12, m13, c14) ?_ ?_ ?_
    · exact ⟨hB, by omega, fun j h => by omega, hf⟩
    · exact ⟨iv (by omega), rfl, iv (by omega), iv (by omega), trivial⟩
    · rintro ⟨i, Ao, mo, co⟩ w16 ⟨hB, hi, hse, ho⟩
      have ho_l := ho.rd.plen
      refine W.seq ?_
      refine W.region ?_
      refine WL.lss rfl rfl rfl (fun c17 => ?_) (fun c17 => ?_)
      · refine WL.done ?_
        refine W.seq ?_
        refine W.condT rfl ?_
        refine W.skip ?_
        refine W.seq ?_
        refine W.block ?_
        refine W.seq ?_
        have hil : i < L.length := (by omega); have hmt := moe_take hil hse; have hmr := moeL_range (L.take i)
        · refine W.region ?_
          refine WL.index (i) Try.underlying69 Try.el73 rfl rfl (by omega) (by omega) ho.rd rfl ?_
          refine WL.loadV (cs := [.int .i64 (((L.getD i (0, 0)).1 : Nat) : Int), .int .i64 (((L.getD i (0, 0)).2 : Nat) : Int)]) Try.el73 Try.agg73 rfl rfl (pc_load ho.rd (i) (by first | omega | decide)) rfl ?_
          refine WL.alloc Try.el73 rfl ?_
          intro g18 w19 hg_g18 hVg18 hGw19
          change Own _ _ _ _ _ _ _ [.int .i64 (0 : Int), .int .i64 (0 : Int)] at hVg18
          have hap_ho_g18 := ap_old ho hg_g18
          have hVg18 := hVg18.low (b' := w.heap.size) hB.size
          have hB := ext_trans hB hGw19
          have ho := ho.ext hGw19
          refine WL.storeV Try.el73 rfl rfl rfl rfl hVg18 ?_
          have hOld21 := hVg18
          intro w20 hVg18 hGw20
          change Own _ _ _ _ _ _ _ [.int .i64 (((L.getD i (0, 0)).1 : Nat) : Int), .int .i64 (((L.getD i (0, 0)).2 : Nat) : Int)] at hVg18
          have hB := ext_own hB hGw20 (fun g hg => (hOld21.bl_ge g hg).1)
          have ho := ho.grown hGw20 (ap_row (by first | exact hap_ho_g18 | exact ap_type ho hOld21 (by decide)))
          refine WL.done ?_
          refine W.seq ?_
          refine W.seq ?_
          refine W.region ?_
          refine WL.fieldA (off := 1) Try.fla73_1 rfl rfl ?_
          refine WL.load Try.underlying3 rfl rfl (hVg18.vcells 1 _ rfl) rfl ?_
          refine WL.gtr rfl rfl rfl (fun c22 => ?_) (fun c22 => ?_)
          · refine WL.done ?_
            refine W.condT rfl ?_
            refine W.seq ?_
            refine W.region ?_
            refine WL.assign rfl rfl ?_
            refine WL.assign rfl rfl ?_
            refine WL.done ?_
            refine W.ret ?_
            refine ⟨_, rfl, ?_⟩
            first
            | exact ⟨by rw [hmt.1 (by omega)], hB⟩
            | (have hiL : i = L.length := by omega
               subst hiL
               exact ⟨by rw [List.take_length], hB⟩)
          · refine WL.done ?_
            refine W.condF rfl ?_
            refine W.skip ?_
            refine W.region ?_
            have hmn := hmt.2 (by omega)
            refine WL.move rfl rfl ?_
            refine WL.neg (r := -(moeL (L.take i))) rfl (wi64 (by omega) (by omega) (by omega)) rfl ?_
            refine WL.assign rfl rfl ?_
            refine WL.done ?_
            refine W.region ?_
            refine WL.add (r := ((i + 1 : Nat) : Int)) rfl rfl (wi64 (by omega) (by omega) (by omega)) rfl ?_
            refine WL.move rfl rfl ?_
            refine WL.done ?_
            refine ⟨(i + 1, Ao, mo, co), ⟨iv (by omega), rfl, iv (by omega), iv (by omega), trivial⟩, by (dsimp only; omega), ?_⟩
            exact ⟨hB, by omega, fun j h => by
              rcases Nat.lt_succ_iff_lt_or_eq.1 h with h1 | h1
              · exact hse j h1
              · rw [h1]; omega, ho⟩
      · refine WL.done ?_
        refine W.seq ?_
        refine W.condF rfl ?_
        refine W.exit ?_
        refine W.seq ?_
        refine W.region ?_
        refine WL.move rfl rfl ?_
        refine WL.assign rfl rfl ?_
        refine WL.assign rfl rfl ?_
        refine WL.done ?_
        refine W.ret ?_
        refine ⟨_, rfl, ?_⟩
        first
        | exact ⟨by rw [hmt.1 (by omega)], hB⟩
        | (have hiL : i = L.length := by omega
           subst hiL
           exact ⟨by rw [List.take_length], hB⟩)
end Go.Proofs.Ytdmgbahognfhbab
set_option linter.unusedSimpArgs false
set_option linter.unusedVariables false
namespace Go.Proofs.Ytdmgbahognfhbab
open Go.RowKit
theorem Bezout_c {w : World} {X : Int} (hX : -9223372036854775808 ≤ X ∧ X ≤ 9223372036854775807) {Y : Int} (hY : -9223372036854775808 ≤ Y ∧ Y ≤ 9223372036854775807) (g : Nat) (x y : Int) (er : Nat) (hR : BezR X Y g x y er) :
    Calls Try.prog 57 #[.int .i64 X, .int .i64 Y] w fun e w2 => ∃ v, e = .returned v ∧ (fun v w2 => v = .tuple #[.int .i64 ((g : Nat) : Int), .int .i64 x, .int .i64 y, .int .i64 ((er : Nat) : Int)] ∧ w.grownBy w2 none) v w2 := by
  have hB := ext_refl w
  refine calls_of_W (vs := [.int .i64 X, .int .i64 Y]) [4, 5, 6, 7] Try.func57 rfl rfl rfl rfl ?_
  refine W.seq ?_
  refine W.region ?_
  refine WL.assign rfl rfl ?_
  refine WL.assign rfl rfl ?_
  refine WL.assign rfl rfl ?_
  refine WL.assign rfl rfl ?_
  refine WL.done ?_
  refine W.seq ?_
  refine W.seq ?_
  refine W.region ?_
  refine WL.move rfl rfl ?_
  refine WL.call Try.func90 rfl Try.nm90 rfl rfl (isSmall_c (by omega)) ?_
  rintro _ w11 ⟨bz1, rfl, hGw11, z1_t, z1_f⟩
  have hB := ext_trans hB hGw11
  rcases bz1 with _ | _
  · have z1 := z1_f rfl
    refine WL.not rfl rfl ?_
    refine WL.move rfl rfl ?_
    refine WL.pass rfl rfl rfl ?_
    refine WL.pass rfl rfl rfl ?_
    refine WL.pass rfl rfl rfl ?_
    refine WL.pick rfl rfl rfl ?_
    refine WL.done ?_
    refine W.condT rfl ?_
    refine W.seq ?_
    refine W.region ?_
    refine WL.assign rfl rfl ?_
    refine WL.assign rfl rfl ?_
    refine WL.assign rfl rfl ?_
    refine WL.assign rfl rfl ?_
    refine WL.done ?_
    refine W.ret ?_
    refine ⟨_, rfl, ?_⟩
    first
    | (rw [hgq, her, hx0]; exact ⟨rfl, hB⟩)
    | (cases hR with
       | out h => exact ⟨rfl, hB⟩
       | zero h1 h2 => omega
       | ok h1 h2 => omega)
    | (cases hR with
       | out h => exact absurd ⟨z1, z2⟩ h
       | zero h1 h2 => exact ⟨rfl, hB⟩
       | ok h1 h2 h3 => omega)
  · have z1 := z1_t rfl
    refine WL.not rfl rfl ?_
    refine WL.move rfl rfl ?_
    refine WL.take rfl ?_
    refine WL.move rfl rfl ?_
    refine WL.take rfl ?_
    refine WL.call Try.func90 rfl Try.nm90 rfl rfl (isSmall_c (by omega)) ?_
    rintro _ w12 ⟨bz2, rfl, hGw12, z2_t, z2_f⟩
    have hB := ext_trans hB hGw12
    rcases bz2 with _ | _
    · have z2 := z2_f rfl
      refine WL.take rfl ?_
      refine WL.not rfl rfl ?_
      refine WL.pick rfl rfl rfl ?_
      refine WL.done ?_
      refine W.condT rfl ?_
      refine W.seq ?_
      refine W.region ?_
      refine WL.assign rfl rfl ?_
      refine WL.assign rfl rfl ?_
      refine WL.assign rfl rfl ?_
      refine WL.assign rfl rfl ?_
      refine WL.done ?_
      refine W.ret ?_
      refine ⟨_, rfl, ?_⟩
      first
      | (rw [hgq, her, hx0]; exact ⟨rfl, hB⟩)
      | (cases hR with
         | out h => exact ⟨rfl, hB⟩
         | zero h1 h2 => omega
         | ok h1 h2 => omega)
      | (cases hR with
         | out h => exact absurd ⟨z1, z2⟩ h
         | zero h1 h2 => exact ⟨rfl, hB⟩
         | ok h1 h2 h3 => omega)
    · have z2 := z2_t rfl
      refine WL.take rfl ?_
      refine WL.not rfl rfl ?_
      refine WL.pick rfl rfl rfl ?_
      refine WL.done ?_
      refine W.condF rfl ?_
      refine W.skip ?_
      refine W.seq ?_
      refine W.seq ?_
      refine W.region ?_
      refine WL.move rfl rfl ?_
      refine WL.eql rfl rfl rfl (fun c13 => ?_) (fun c13 => ?_)
      · refine WL.done ?_
        refine W.condT rfl ?_
        refine W.seq ?_
        refine W.region ?_
        refine WL.move rfl rfl ?_
        refine WL.call Try.func91 rfl Try.nm91 rfl rfl (size_c (by omega)) ?_
        rintro _ w14 ⟨rfl, hGw14⟩
        have hB := ext_trans hB hGw14
        refine WL.move rfl rfl ?_
        refine WL.call Try.func92 rfl Try.nm92 rfl rfl (sign_c (by omega)) ?_
        rintro _ w15 ⟨rfl, hGw15⟩
        have hB := ext_trans hB hGw15
        refine WL.assign rfl rfl ?_
        refine WL.assign rfl rfl ?_
        refine WL.assign rfl rfl ?_
        refine WL.assign rfl rfl ?_
        refine WL.done ?_
        refine W.ret ?_
        refine ⟨_, rfl, ?_⟩
        first
        | (rw [hgq, her, hx0]; exact ⟨rfl, hB⟩)
        | (cases hR with
           | out h => exact ⟨rfl, hB⟩
           | zero h1 h2 => omega
           | ok h1 h2 => omega)
        | (cases hR with
           | out h => exact absurd ⟨z1, z2⟩ h
           | zero h1 h2 => exact ⟨rfl, hB⟩
           | ok h1 h2 h3 => omega)
      · refine WL.done ?_
        refine W.condF rfl ?_
        refine W.skip ?_
        refine W.seq ?_
        refine W.region ?_
        refine WL.move rfl rfl ?_
        refine WL.move rfl rfl ?_
        refine WL.call Try.func91 rfl Try.nm91 rfl rfl (size_c (by omega)) ?_
        rintro _ w16 ⟨rfl, hGw16⟩
        have hB := ext_trans hB hGw16
        have hem := gcd_emod X (show 0 < Y.natAbs by omega)
        have he1 := Int.emod_nonneg X (show (Y.natAbs : Int) ≠ 0 by omega)
        have he2 := Int.emod_lt_of_pos X (show (0 : Int) < (Y.natAbs : Nat) by omega)
        have hgp : 0 < Nat.gcd X.natAbs Y.natAbs := Nat.gcd_pos_of_pos_right _ (by omega)
        refine WL.call Try.func93 rfl Try.nm93 rfl rfl (residue_c (by omega) Y.natAbs (by omega) (by omega) (by omega)) ?_
        rintro _ w17 ⟨rfl, hGw17⟩
        have hB := ext_trans hB hGw17
        refine WL.move rfl rfl ?_
        refine WL.call Try.func91 rfl Try.nm91 rfl rfl (size_c (by omega)) ?_
        rintro _ w18 ⟨rfl, hGw18⟩
        have hB := ext_trans hB hGw18
        refine WL.call Try.func67 rfl Try.nm67 rfl rfl (cofactor_c ((X % ((Int.natAbs Y) : Int)).toNat) (by omega) (Int.natAbs Y) (by omega) (by omega) (by omega)) ?_
        rintro _ w19 ⟨hZ0, rfl, hGw19, hZd, hZl, hZh⟩
        have hB := ext_trans hB hGw19
        rw [hem] at hZd
        rw [hem]
        refine WL.move rfl rfl ?_
        refine WL.extract rfl rfl rfl ?_
        refine WL.extract rfl rfl rfl ?_
        refine WL.assign rfl rfl ?_
        refine WL.assign rfl rfl ?_
        refine WL.done ?_
        refine W.seq ?_
        refine W.region ?_
        refine WL.move rfl rfl ?_
        refine WL.move rfl rfl ?_
        refine WL.call Try.func91 rfl Try.nm91 rfl rfl (size_c (by omega)) ?_
        rintro _ w20 ⟨rfl, hGw20⟩
        have hB := ext_trans hB hGw20
        refine WL.move rfl rfl ?_
        refine WL.quo (r := ((Y.natAbs / Nat.gcd X.natAbs Y.natAbs : Nat) : Int)) rfl rfl (by omega) (qi64 (by omega) (by omega) (by omega)) rfl ?_
        have hyd := Nat.div_le_self Y.natAbs (Nat.gcd X.natAbs Y.natAbs)
        have hyp : 0 < Y.natAbs / Nat.gcd X.natAbs Y.natAbs := Nat.div_gcd_pos_of_pos_right _ (by omega)
        have hx1 := bez_fin (show Y ≠ 0 by omega) (by omega) (by omega) hR hZd
        refine WL.call Try.func93 rfl Try.nm93 rfl rfl (residue_c (by omega) (Y.natAbs / Nat.gcd X.natAbs Y.natAbs) (by omega) (by omega) (by omega)) ?_
        rintro _ w21 ⟨rfl, hGw21⟩
        have hB := ext_trans hB hGw21
        rw [hx1]
        refine WL.assign rfl rfl ?_
        refine WL.done ?_
        refine W.seq ?_
        obtain ⟨hgq, her, hx0, hxx, hg1, hyq, hyr, hbz⟩ := bez_fin2 (show Y ≠ 0 by omega) (by omega) (by omega) hR
        · refine W.drawT 11 [⟨[], [8], true⟩, ⟨[], [9], true⟩, ⟨[], [8], true⟩, ⟨[], [0], true⟩, ⟨[], [9], true⟩, ⟨[3, 4], [], true⟩, ⟨[2, 5], [], true⟩, ⟨[], [1], true⟩, ⟨[6, 7], [], true⟩, ⟨[0], [], true⟩, ⟨[1], [], true⟩] [[(8, .int .i64 ((Nat.gcd X.natAbs Y.natAbs : Nat) : Int))], [(9, .int .i64 ((x.toNat : Nat) : Int))], [(8, .int .i64 ((Nat.gcd X.natAbs Y.natAbs : Nat) : Int))], [(0, .int .i64 X)], [(9, .int .i64 ((x.toNat : Nat) : Int))], [], [], [(1, .int .i64 Y)], [], [], []] (fun iQ => [fun v wQ => v = .int .i64 ((Nat.gcd X.natAbs Y.natAbs : Nat) : Int), fun v wQ => v = .int .i64 ((x.toNat : Nat) : Int), fun v wQ => v = .int .i64 ((Nat.gcd X.natAbs Y.natAbs : Nat) : Int), fun v wQ => v = .int .i64 X, fun v wQ => v = .int .i64 ((x.toNat : Nat) : Int), fun v wQ => v = .int .i64 (X * x), fun v wQ => v = .int .i64 ((g : Int) - X * x), fun v wQ => v = .int .i64 Y, fun v wQ => v = .int .i64 y, fun v wQ => v = .int .i64 ((Nat.gcd X.natAbs Y.natAbs : Nat) : Int), fun v wQ => v = .int .i64 ((x.toNat : Nat) : Int)].getD iQ (fun _ _ => True)) Try.mixed (by kernel_rfl) ?_ ?_ ?_
          · refine Vs_monoT _ ?_
            intro VQ hVQ vQ wQ1 wQ2 hQ1 hQ2
            simp only [List.mem_cons, List.not_mem_nil, or_false] at hVQ
            rcases hVQ with rfl | rfl | rfl | rfl | rfl | rfl | rfl | rfl | rfl | rfl | rfl
            · exact hQ1
            · exact hQ1
            · exact hQ1
            · exact hQ1
            · exact hQ1
            · exact hQ1
            · exact hQ1
            · exact hQ1
            · exact hQ1
            · exact hQ1
            · exact hQ1
          · refine ⟨⟨rfl, ⟨rfl, trivial⟩, ?_⟩, ⟨rfl, ⟨rfl, trivial⟩, ?_⟩, ⟨rfl, ⟨rfl, trivial⟩, ?_⟩, ⟨rfl, ⟨rfl, trivial⟩, ?_⟩, ⟨rfl, ⟨rfl, trivial⟩, ?_⟩, ⟨rfl, trivial, ?_⟩, ⟨rfl, trivial, ?_⟩, ⟨rfl, ⟨rfl, trivial⟩, ?_⟩, ⟨rfl, trivial, ?_⟩, ⟨rfl, trivial, ?_⟩, ⟨rfl, trivial, ?_⟩, trivial⟩
            · intro w22 hE
              intro R
              refine WL.move rfl rfl ?_
              exact WL.done ⟨_, rfl, rfl, rfl⟩
            · intro w23 hE
              intro R
              refine WL.move rfl rfl ?_
              exact WL.done ⟨_, rfl, rfl, rfl⟩
            · intro w24 hE
              intro R
              refine WL.move rfl rfl ?_
              exact WL.done ⟨_, rfl, rfl, rfl⟩
            · intro w25 hE
              intro R
              refine WL.move rfl rfl ?_
              exact WL.done ⟨_, rfl, rfl, rfl⟩
            · intro w26 hE
              intro R
              refine WL.move rfl rfl ?_
              exact WL.done ⟨_, rfl, rfl, rfl⟩
            · intro w27 hE
              rintro _ rfl
              rintro _ rfl
              intro R
              refine WL.mul (r := (X * x)) rfl rfl (by rw [hx0]; exact wi64 (by omega) (by omega) rfl) rfl ?_
              exact WL.done ⟨_, rfl, rfl, rfl⟩
            · intro w28 hE
              rintro _ rfl
              rintro _ rfl
              intro R
              refine WL.sub (r := ((g : Int) - X * x)) rfl rfl (by rw [← hgq]; exact wi64 (by omega) (by omega) rfl) rfl ?_
              exact WL.done ⟨_, rfl, rfl, rfl⟩
            · intro w29 hE
              intro R
              refine WL.move rfl rfl ?_
              exact WL.done ⟨_, rfl, rfl, rfl⟩
            · intro w30 hE
              rintro _ rfl
              rintro _ rfl
              intro R
              refine WL.quo (r := y) rfl rfl (by omega) (by rw [hyq]; exact wi64 (by omega) (by omega) rfl) rfl ?_
              exact WL.done ⟨_, rfl, rfl, rfl⟩
            · intro w31 hE
              rintro _ rfl
              intro R
              refine WL.assign rfl rfl ?_
              exact WL.done ⟨_, rfl, rfl, rfl⟩
            · intro w32 hE
              rintro _ rfl
              intro R
              refine WL.assign rfl rfl ?_
              exact WL.done ⟨_, rfl, rfl, rfl⟩
          · intro vals w33 hT hVs
            have hB := ext_trans hB hT
            have hv0 : vals 0 = _ := hVs 0 (by decide)
            have hv1 : vals 1 = _ := hVs 1 (by decide)
            have hv2 : vals 2 = _ := hVs 2 (by decide)
            have hv3 : vals 3 = _ := hVs 3 (by decide)
            have hv4 : vals 4 = _ := hVs 4 (by decide)
            have hv5 : vals 5 = _ := hVs 5 (by decide)
            have hv6 : vals 6 = _ := hVs 6 (by decide)
            have hv7 : vals 7 = _ := hVs 7 (by decide)
            have hv8 : vals 8 = _ := hVs 8 (by decide)
            have hv9 : vals 9 = _ := hVs 9 (by decide)
            have hv10 : vals 10 = _ := hVs 10 (by decide)
            rw [show (List.filterMap (fun i => Option.map (fun t => (t, vals i)) (dstAt _ i)) (List.range _)) = [(40, .int .i64 ((Nat.gcd X.natAbs Y.natAbs : Nat) : Int)), (41, .int .i64 ((x.toNat : Nat) : Int)), (42, .int .i64 ((Nat.gcd X.natAbs Y.natAbs : Nat) : Int)), (43, .int .i64 X), (44, .int .i64 ((x.toNat : Nat) : Int)), (45, .int .i64 (X * x)), (46, .int .i64 ((g : Int) - X * x)), (47, .int .i64 Y), (48, .int .i64 y), (4, .int .i64 ((Nat.gcd X.natAbs Y.natAbs : Nat) : Int)), (5, .int .i64 ((x.toNat : Nat) : Int))] from by
              show [(40, vals 0), (41, vals 1), (42, vals 2), (43, vals 3), (44, vals 4), (45, vals 5), (46, vals 6), (47, vals 7), (48, vals 8), (4, vals 9), (5, vals 10)] = _
              rw [hv0, hv1, hv2, hv3, hv4, hv5, hv6, hv7, hv8, hv9, hv10]]
            refine WA.step [11] (by decide +kernel) rfl ?_
            intro iQ hQ
            simp only [List.mem_cons, List.not_mem_nil, or_false] at hQ
            obtain rfl := hQ
            · refine ⟨_, rfl, ?_⟩
              refine WL.assign rfl rfl ?_
              refine WL.done ?_
              refine WA.step [12] (by decide +kernel) rfl ?_
              intro iQ hQ
              simp only [List.mem_cons, List.not_mem_nil, or_false] at hQ
              obtain rfl := hQ
              · refine ⟨_, rfl, ?_⟩
                refine WL.assign rfl rfl ?_
                refine WL.done ?_
                refine WA.done (by decide +kernel) ?_
                refine W.ret ?_
                refine ⟨_, rfl, ?_⟩
                first
                | (rw [hgq, her, hx0]; exact ⟨rfl, hB⟩)
                | (cases hR with
                   | out h => exact ⟨rfl, hB⟩
                   | zero h1 h2 => omega
                   | ok h1 h2 => omega)
                | (cases hR with
                   | out h => exact absurd ⟨z1, z2⟩ h
                   | zero h1 h2 => exact ⟨rfl, hB⟩
                   | ok h1 h2 h3 => omega)

theorem Inverse_c {w : World} {X : Int} (hX : -9223372036854775808 ≤ X ∧ X ≤ 9223372036854775807) {Y : Int} (hY : -9223372036854775808 ≤ Y ∧ Y ≤ 9223372036854775807) (x er : Nat) (hR : InvR X Y x er) :
    Calls Try.prog 58 #[.int .i64 X, .int .i64 Y] w fun e w2 => ∃ v, e = .returned v ∧ (fun v w2 => v = .tuple #[.int .i64 ((x : Nat) : Int), .int .i64 ((er : Nat) : Int)] ∧ w.grownBy w2 none) v w2 := by
  have hB := ext_refl w
  refine calls_of_W (vs := [.int .i64 X, .int .i64 Y]) [4, 5] Try.func58 rfl rfl rfl rfl ?_
  refine W.seq ?_
  refine W.region ?_
  refine WL.assign rfl rfl ?_
  refine WL.assign rfl rfl ?_
  refine WL.done ?_
  refine W.seq ?_
  refine W.seq ?_
  refine W.region ?_
  refine WL.move rfl rfl ?_
  refine WL.call Try.func88 rfl Try.nm88 rfl rfl (isPos_c (by omega)) ?_
  rintro _ w11 ⟨bz, rfl, hGw11, z_t, z_f⟩
  have hB := ext_trans hB hGw11
  rcases bz with _ | _
  · have z := z_f rfl
    refine WL.not rfl rfl ?_
    refine WL.done ?_
    refine W.condT rfl ?_
    refine W.seq ?_
    refine W.region ?_
    refine WL.assign rfl rfl ?_
    refine WL.assign rfl rfl ?_
    refine WL.done ?_
    refine W.ret ?_
    refine ⟨_, rfl, ?_⟩
    first
    | (cases hR with
       | out h => exact ⟨rfl, hB⟩
       | none h1 h2 => exact absurd h1 z
       | ok h1 h2 => exact absurd h1 z)
    | (rw [hem] at c_g; cases hR with
       | out h => exact absurd z h
       | none h1 h2 => exact ⟨rfl, hB⟩
       | ok h1 h2 => exact absurd h2.cop (by omega))
    | (rw [hem] at hZd c_g; cases hR with
       | out h => exact absurd z h
       | none h1 h2 => omega
       | ok h1 h2 =>
         have h7 : ((Nat.gcd X.natAbs Y.toNat : Nat) : Int) = 1 := by omega
         rw [h7, Int.toNat_of_nonneg he1] at hZd
         have h8 := (IsInv.mk' (by omega) hZd).emod.uniq h2
         exact ⟨by rw [h8]; rfl, hB⟩)
  · have z := z_t rfl
    have hem := gcd_emod X (show 0 < Y.toNat by omega)
    have hyt : ((Y.toNat : Nat) : Int) = Y := (by omega)
    refine WL.not rfl rfl ?_
    refine WL.done ?_
    refine W.condF rfl ?_
    refine W.skip ?_
    refine W.seq ?_
    refine W.region ?_
    refine WL.move rfl rfl ?_
    refine WL.move rfl rfl ?_
    have he1 := Int.emod_nonneg X (show (Y.toNat : Int) ≠ 0 by omega)
    have he2 := Int.emod_lt_of_pos X (show (0 : Int) < (Y.toNat : Nat) by omega)
    refine WL.call Try.func93 rfl Try.nm93 rfl rfl (residue_c (by omega) Y.toNat (by omega) (by omega) (by omega)) ?_
    rintro _ w12 ⟨rfl, hGw12⟩
    have hB := ext_trans hB hGw12
    refine WL.move rfl rfl ?_
    refine WL.call Try.func67 rfl Try.nm67 rfl rfl (cofactor_c ((X % (Y.toNat : Int)).toNat) (by omega) Y.toNat (by omega) (by omega) (by omega)) ?_
    rintro _ w13 ⟨hZ0, rfl, hGw13, hZd, hZl, hZh⟩
    have hB := ext_trans hB hGw13
    refine WL.move rfl rfl ?_
    refine WL.extract rfl rfl rfl ?_
    refine WL.extract rfl rfl rfl ?_
    refine WL.assign rfl rfl ?_
    refine WL.assign rfl rfl ?_
    refine WL.done ?_
    refine W.seq ?_
    refine W.seq ?_
    refine W.region ?_
    refine WL.move rfl rfl ?_
    refine WL.neq rfl rfl rfl (fun c_g => ?_) (fun c_g => ?_)
    · refine WL.done ?_
      refine W.condT rfl ?_
      refine W.seq ?_
      refine W.region ?_
      refine WL.assign rfl rfl ?_
      refine WL.assign rfl rfl ?_
      refine WL.done ?_
      refine W.ret ?_
      refine ⟨_, rfl, ?_⟩
      first
      | (cases hR with
         | out h => exact ⟨rfl, hB⟩
         | none h1 h2 => exact absurd h1 z
         | ok h1 h2 => exact absurd h1 z)
      | (rw [hem] at c_g; cases hR with
         | out h => exact absurd z h
         | none h1 h2 => exact ⟨rfl, hB⟩
         | ok h1 h2 => exact absurd h2.cop (by omega))
      | (rw [hem] at hZd c_g; cases hR with
         | out h => exact absurd z h
         | none h1 h2 => omega
         | ok h1 h2 =>
           have h7 : ((Nat.gcd X.natAbs Y.toNat : Nat) : Int) = 1 := by omega
           rw [h7, Int.toNat_of_nonneg he1] at hZd
           have h8 := (IsInv.mk' (by omega) hZd).emod.uniq h2
           exact ⟨by rw [h8]; rfl, hB⟩)
    · refine WL.done ?_
      refine W.condF rfl ?_
      refine W.skip ?_
      refine W.seq ?_
      refine W.region ?_
      refine WL.move rfl rfl ?_
      refine WL.move rfl rfl ?_
      refine WL.call Try.func93 rfl Try.nm93 rfl rfl (residue_c (by omega) Y.toNat (by omega) (by omega) (by omega)) ?_
      rintro _ w15 ⟨rfl, hGw15⟩
      have hB := ext_trans hB hGw15
      refine WL.assign rfl rfl ?_
      refine WL.assign rfl rfl ?_
      refine WL.done ?_
      refine W.ret ?_
      refine ⟨_, rfl, ?_⟩
      first
      | (cases hR with
         | out h => exact ⟨rfl, hB⟩
         | none h1 h2 => exact absurd h1 z
         | ok h1 h2 => exact absurd h1 z)
      | (rw [hem] at c_g; cases hR with
         | out h => exact absurd z h
         | none h1 h2 => exact ⟨rfl, hB⟩
         | ok h1 h2 => exact absurd h2.cop (by omega))
      | (rw [hem] at hZd c_g; cases hR with
         | out h => exact absurd z h
         | none h1 h2 => omega
         | ok h1 h2 =>
           have h7 : ((Nat.gcd X.natAbs Y.toNat : Nat) : Int) = 1 := by omega
           rw [h7, Int.toNat_of_nonneg he1] at hZd
           have h8 := (IsInv.mk' (by omega) hZd).emod.uniq h2
           exact ⟨by rw [h8]; rfl, hB⟩)
end Go.Proofs.Ytdmgbahognfhbab
set_option linter.unusedSimpArgs false
set_option linter.unusedVariables false
namespace Go.Proofs.Ytdmgbahognfhbab
open Go.RowKit
theorem Power_c {w : World} {X : Int} (hX : -9223372036854775808 ≤ X ∧ X ≤ 9223372036854775807) {Y : Int} (hY : -9223372036854775808 ≤ Y ∧ Y ≤ 9223372036854775807) {Z : Int} (hZ : -9223372036854775808 ≤ Z ∧ Z ≤ 9223372036854775807) :
    Calls Try.prog 60 #[.int .i64 X, .int .i64 Y, .int .i64 Z] w fun e w2 => ∃ v, e = .returned v ∧ (fun v w2 => v = .tuple #[.int .i64 (((powS X Y Z).1 : Nat) : Int), .int .i64 (((powS X Y Z).2 : Nat) : Int)] ∧ w.grownBy w2 none) v w2 := by
  have hB := ext_refl w
  refine calls_of_W (vs := [.int .i64 X, .int .i64 Y, .int .i64 Z]) [6, 7] Try.func60 rfl rfl rfl rfl ?_
  refine W.seq ?_
  refine W.region ?_
  refine WL.assign rfl rfl ?_
  refine WL.assign rfl rfl ?_
  refine WL.done ?_
  refine W.seq ?_
  refine W.seq ?_
  refine W.region ?_
  refine WL.move rfl rfl ?_
  refine WL.lss rfl rfl rfl (fun c11 => ?_) (fun c11 => ?_)
  · refine WL.move rfl rfl ?_
    refine WL.pass rfl rfl rfl ?_
    refine WL.pass rfl rfl rfl ?_
    refine WL.pass rfl rfl rfl ?_
    refine WL.pick rfl rfl rfl ?_
    refine WL.done ?_
    refine W.condT rfl ?_
    refine W.seq ?_
    refine W.region ?_
    refine WL.assign rfl rfl ?_
    refine WL.assign rfl rfl ?_
    refine WL.done ?_
    refine W.ret ?_
    refine ⟨_, rfl, ?_⟩
    first
    | (rw [powS_ok (by omega)]; exact ⟨rfl, hB⟩)
    | (rw [powS_out (by omega)]; exact ⟨rfl, hB⟩)
  · refine WL.move rfl rfl ?_
    refine WL.take rfl ?_
    refine WL.move rfl rfl ?_
    refine WL.take rfl ?_
    refine WL.call Try.func88 rfl Try.nm88 rfl rfl (isPos_c (by omega)) ?_
    rintro _ w12 ⟨bz, rfl, hGw12, z_t, z_f⟩
    have hB := ext_trans hB hGw12
    rcases bz with _ | _
    · have z := z_f rfl
      refine WL.take rfl ?_
      refine WL.not rfl rfl ?_
      refine WL.pick rfl rfl rfl ?_
      refine WL.done ?_
      refine W.condT rfl ?_
      refine W.seq ?_
      refine W.region ?_
      refine WL.assign rfl rfl ?_
      refine WL.assign rfl rfl ?_
      refine WL.done ?_
      refine W.ret ?_
      refine ⟨_, rfl, ?_⟩
      first
      | (rw [powS_ok (by omega)]; exact ⟨rfl, hB⟩)
      | (rw [powS_out (by omega)]; exact ⟨rfl, hB⟩)
    · have z := z_t rfl
      refine WL.take rfl ?_
      refine WL.not rfl rfl ?_
      refine WL.pick rfl rfl rfl ?_
      refine WL.done ?_
      refine W.condF rfl ?_
      refine W.skip ?_
      refine W.seq ?_
      refine W.region ?_
      refine WL.move rfl rfl ?_
      refine WL.move rfl rfl ?_
      have hzt : ((Z.toNat : Nat) : Int) = Z := by omega
      have he1 := Int.emod_nonneg X (show (Z : Int) ≠ 0 by omega)
      have he2 := Int.emod_lt_of_pos X (show (0 : Int) < Z by omega)
      refine WL.call Try.func93 rfl Try.nm93 rfl rfl (residue_c (by omega) Z.toNat (by omega) (by omega) (by omega)) ?_
      rintro _ w13 ⟨rfl, hGw13⟩
      have hB := ext_trans hB hGw13
      rw [hzt]
      refine WL.move rfl rfl ?_
      refine WL.move rfl rfl ?_
      refine WL.call Try.func94 rfl Try.nm94 rfl rfl (power_c (X % Z).toNat (by omega) Y.toNat (by omega) Z.toNat (by omega) (by omega) (by omega) (by omega)) ?_
      rintro _ w14 ⟨rfl, hGw14⟩
      have hB := ext_trans hB hGw14
      refine WL.assign rfl rfl ?_
      refine WL.assign rfl rfl ?_
      refine WL.done ?_
      refine W.ret ?_
      refine ⟨_, rfl, ?_⟩
      first
      | (rw [powS_ok (by omega)]; exact ⟨rfl, hB⟩)
      | (rw [powS_out (by omega)]; exact ⟨rfl, hB⟩)

theorem Order_c {w : World} {X : Int} (hX : -9223372036854775808 ≤ X ∧ X ≤ 9223372036854775807) {Y : Int} (hY : -9223372036854775808 ≤ Y ∧ Y ≤ 9223372036854775807) (K er : Nat) (hR : OrdR X Y K er) :
    Calls Try.prog 59 #[.int .i64 X, .int .i64 Y] w fun e w2 => ∃ v, e = .returned v ∧ (fun v w2 => v = .tuple #[.int .i64 ((K : Nat) : Int), .int .i64 ((er : Nat) : Int)] ∧ w.grownBy w2 none) v w2 := by
  have hB := ext_refl w
  refine calls_of_W (vs := [.int .i64 X, .int .i64 Y]) [4, 5] Try.func59 rfl rfl rfl rfl ?_
  refine W.seq ?_
  refine W.region ?_
  refine WL.assign rfl rfl ?_
  refine WL.assign rfl rfl ?_
  refine WL.done ?_
  refine W.seq ?_
  refine W.seq ?_
  refine W.region ?_
  refine WL.move rfl rfl ?_
  refine WL.call Try.func88 rfl Try.nm88 rfl rfl (isPos_c (by omega)) ?_
  rintro _ w11 ⟨bz, rfl, hGw11, z_t, z_f⟩
  have hB := ext_trans hB hGw11
  rcases bz with _ | _
  · have z := z_f rfl
    refine WL.not rfl rfl ?_
    refine WL.done ?_
    refine W.condT rfl ?_
    refine W.seq ?_
    refine W.region ?_
    refine WL.assign rfl rfl ?_
    refine WL.assign rfl rfl ?_
    refine WL.done ?_
    refine W.ret ?_
    refine ⟨_, rfl, ?_⟩
    first
    | (cases hR with
       | out h => exact ⟨rfl, hB⟩
       | none h1 h2 => exact absurd h1 z
       | ok h1 h2 => exact absurd h1 z)
    | (rw [hem] at c_g; cases hR with
       | out h => exact absurd z h
       | none h1 h2 => exact ⟨rfl, hB⟩
       | ok h1 h2 => omega)
    | (cases hR with
       | out h => exact absurd z h
       | none h1 h2 => exact absurd hg1 h2
       | ok h1 h2 h3 =>
         have h5 : IsOrd (X % (Y.toNat : Int)).toNat Y.toNat K := (by rw [hyt]; exact h3)
         have h4 := (IsOrd.of hM hod ho0 hone (of_getD fun j hj => hall j (by omega))).uniq h5
         exact ⟨by rw [h4]; rfl, hB⟩)
  · have z := z_t rfl
    have hem := gcd_emod X (show 0 < Y.toNat by omega)
    have hyt : ((Y.toNat : Nat) : Int) = Y := (by omega)
    have he1 := Int.emod_nonneg X (show (Y.toNat : Int) ≠ 0 by omega)
    have he2 := Int.emod_lt_of_pos X (show (0 : Int) < (Y.toNat : Nat) by omega)
    refine WL.not rfl rfl ?_
    refine WL.done ?_
    refine W.condF rfl ?_
    refine W.skip ?_
    refine W.seq ?_
    refine W.region ?_
    refine WL.move rfl rfl ?_
    refine WL.move rfl rfl ?_
    refine WL.call Try.func93 rfl Try.nm93 rfl rfl (residue_c (by omega) Y.toNat (by omega) (by omega) (by omega)) ?_
    rintro _ w12 ⟨rfl, hGw12⟩
    have hB := ext_trans hB hGw12
    refine WL.assign rfl rfl ?_
    refine WL.done ?_
    refine W.seq ?_
    refine W.seq ?_
    refine W.region ?_
    refine WL.move rfl rfl ?_
    refine WL.move rfl rfl ?_
    refine WL.call Try.func67 rfl Try.nm67 rfl rfl (cofactor_c ((X % (Y.toNat : Int)).toNat) (by omega) Y.toNat (by omega) (by omega) (by omega)) ?_
    rintro _ w13 ⟨hZ0, rfl, hGw13, hZd, hZl, hZh⟩
    have hB := ext_trans hB hGw13
    refine WL.move rfl rfl ?_
    refine WL.extract rfl rfl rfl ?_
    refine WL.extract rfl rfl rfl ?_
    refine WL.assign rfl rfl ?_
    refine WL.assign rfl rfl ?_
    refine WL.done ?_
    refine W.seq ?_
    refine W.region ?_
    refine WL.move rfl rfl ?_
    refine WL.neq rfl rfl rfl (fun c_g => ?_) (fun c_g => ?_)
    · refine WL.done ?_
      refine W.condT rfl ?_
      refine W.seq ?_
      refine W.region ?_
      refine WL.assign rfl rfl ?_
      refine WL.assign rfl rfl ?_
      refine WL.done ?_
      refine W.ret ?_
      refine ⟨_, rfl, ?_⟩
      first
      | (cases hR with
         | out h => exact ⟨rfl, hB⟩
         | none h1 h2 => exact absurd h1 z
         | ok h1 h2 => exact absurd h1 z)
      | (rw [hem] at c_g; cases hR with
         | out h => exact absurd z h
         | none h1 h2 => exact ⟨rfl, hB⟩
         | ok h1 h2 => omega)
      | (cases hR with
         | out h => exact absurd z h
         | none h1 h2 => exact absurd hg1 h2
         | ok h1 h2 h3 =>
           have h5 : IsOrd (X % (Y.toNat : Int)).toNat Y.toNat K := (by rw [hyt]; exact h3)
           have h4 := (IsOrd.of hM hod ho0 hone (of_getD fun j hj => hall j (by omega))).uniq h5
           exact ⟨by rw [h4]; rfl, hB⟩)
    · refine WL.done ?_
      refine W.condF rfl ?_
      refine W.skip ?_
      refine W.seq ?_
      refine W.region ?_
      refine WL.move rfl rfl ?_
      rw [hem] at c_g
      have hg1 : Nat.gcd X.natAbs Y.toNat = 1 := by omega
      obtain ⟨L, hL⟩ := fac_exists Y.toNat (by omega)
      have hphi := phiL_pos hL
      obtain ⟨M, hM⟩ := fac_exists (phiL L) hphi.1
      have hbM := hM.bd (by omega)
      have hMl := hM.len_lt (by omega)
      have heu := euler (a := (X % (Y.toNat : Int)).toNat) hL (by rw [hem]; exact hg1)
      refine WL.call Try.func61 rfl Try.nm61 rfl rfl (Phi_ok Y.toNat (by omega) L hL (by omega) (by omega)) ?_
      rintro _ w15 ⟨rfl, hGw15⟩
      have hB := ext_trans hB hGw15
      refine WL.move rfl rfl ?_
      refine WL.extract rfl rfl rfl ?_
      refine WL.extract rfl rfl rfl ?_
      refine WL.assign rfl rfl ?_
      refine WL.assign rfl rfl ?_
      refine WL.done ?_
      refine W.seq ?_
      refine W.region ?_
      refine WL.move rfl rfl ?_
      refine WL.call Try.func55 rfl Try.nm55 rfl rfl (Factor_ok (phiL L) (by omega) M hM (by omega) (by omega)) ?_
      rintro _ w16 ⟨A17, m18, c19, rfl, hGw16, hf⟩
      have hf := hf.low (b' := w.heap.size) hB.size
      have hB := ext_trans hB hGw16
      have hf_l := hf.rd.plen
      refine WL.move rfl rfl ?_
      refine WL.extract rfl rfl rfl ?_
      refine WL.extract rfl rfl rfl ?_
      refine WL.assign rfl rfl ?_
      refine WL.assign rfl rfl ?_
      refine WL.done ?_
      refine W.seq ?_
      refine W.seq ?_
      refine W.region ?_
      refine WL.move rfl rfl ?_
      refine WL.len Try.underlying69 rfl rfl ?_
      refine WL.move rfl rfl ?_
      refine WL.done ?_
      refine W.block ?_
      refine W.loop (σ := Nat × Nat × Option Addr × Nat × Nat) (fun s w1 => match s with | (i, o, Ao, mo, co) => w.grownBy w1 none ∧ i ≤ M.length ∧ o ∣ phiL L ∧ 0 < o ∧ One Y.toNat ((X % (Y.toNat : Int)).toNat ^ o) ∧ (∀ j, j < i → ¬ (o % (M.getD j (0, 0)).1 = 0 ∧ One Y.toNat ((X % (Y.toNat : Int)).toNat ^ (o / (M.getD j (0, 0)).1)))) ∧ Own w.heap.size w1 73 2 Ao mo co (pc (M))) (fun s => match s with | (i, o, Ao, mo, co) => [(0, .int .i64 (((X % (Y.toNat : Int)).toNat : Nat) : Int)), (1, .int .i64 Y), (8, .int .i64 ((o : Nat) : Int)), (38, .slice Ao mo co), (39, .int .i64 ((mo : Nat) : Int)), (40, .int .i64 ((i : Nat) : Int))]) (fun s => match s with | (i, o, Ao, mo, co) => M.length - i) (0, phiL L, A17, m18, c19) ?_ ?_ ?_
      · exact ⟨hB, by omega, Nat.dvd_refl _, hphi.1, heu, fun j h => by omega, hf⟩
      · exact ⟨iv (by omega), iv (by omega), iv (by omega), rfl, iv (by omega), iv (by omega), trivial⟩
      · rintro ⟨i, o, Ao, mo, co⟩ w20 ⟨hB, hi, hod, ho0, hone, hall, ho⟩
        have ho_l := ho.rd.plen
        have hole := Nat.le_of_dvd hphi.1 hod
        refine W.seq ?_
        refine W.region ?_
        refine WL.lss rfl rfl rfl (fun c21 => ?_) (fun c21 => ?_)
        · refine WL.done ?_
          refine W.seq ?_
          refine W.condT rfl ?_
          refine W.skip ?_
          refine W.seq ?_
          refine W.block ?_
          refine W.seq ?_
          have hil : i < M.length := (by omega); have hpb := hbM _ (getD_pmem hil); have hn2 : 2 ≤ Y.toNat := (by omega)
          · refine W.region ?_
            refine WL.index (i) Try.underlying69 Try.el73 rfl rfl (by omega) (by omega) ho.rd rfl ?_
            refine WL.loadV (cs := [.int .i64 (((M.getD i (0, 0)).1 : Nat) : Int), .int .i64 (((M.getD i (0, 0)).2 : Nat) : Int)]) Try.el73 Try.agg73 rfl rfl (pc_load ho.rd (i) (by first | omega | decide)) rfl ?_
            refine WL.alloc Try.el73 rfl ?_
            intro gp w22 hg_gp hVgp hGw22
            change Own _ _ _ _ _ _ _ [.int .i64 (0 : Int), .int .i64 (0 : Int)] at hVgp
            have hap_ho_gp := ap_old ho hg_gp
            have hVgp := hVgp.low (b' := w.heap.size) hB.size
            have hB := ext_trans hB hGw22
            have ho := ho.ext hGw22
            refine WL.storeV Try.el73 rfl rfl rfl rfl hVgp ?_
            have hOld24 := hVgp
            intro w23 hVgp hGw23
            change Own _ _ _ _ _ _ _ [.int .i64 (((M.getD i (0, 0)).1 : Nat) : Int), .int .i64 (((M.getD i (0, 0)).2 : Nat) : Int)] at hVgp
            have hB := ext_own hB hGw23 (fun g hg => (hOld24.bl_ge g hg).1)
            have ho := ho.grown hGw23 (ap_row (by first | exact hap_ho_gp | exact ap_type ho hOld24 (by decide)))
            refine WL.done ?_
            refine W.block ?_
            refine W.loop (σ := Nat) (fun o w1 => w.grownBy w1 none ∧ o ∣ phiL L ∧ 0 < o ∧ One Y.toNat ((X % (Y.toNat : Int)).toNat ^ o) ∧ (∀ j, j < i → ¬ (o % (M.getD j (0, 0)).1 = 0 ∧ One Y.toNat ((X % (Y.toNat : Int)).toNat ^ (o / (M.getD j (0, 0)).1)))) ∧ Own w.heap.size w1 73 2 Ao mo co (pc (M)) ∧ Own w.heap.size w1 73 2 (some ⟨gp, 0, none⟩) 1 1 [.int .i64 ((((M.getD i (0, 0)).1 : Nat)) : Int), .int .i64 ((((M.getD i (0, 0)).2 : Nat)) : Int)]) (fun o => [(0, .int .i64 (((X % (Y.toNat : Int)).toNat : Nat) : Int)), (1, .int .i64 Y), (8, .int .i64 ((o : Nat) : Int)), (13, .pointer (some ⟨gp, 0, none⟩)), (38, .slice Ao mo co), (39, .int .i64 ((mo : Nat) : Int)), (40, .int .i64 ((i : Nat) : Int))]) (fun o => o) o ?_ ?_ ?_
            · exact ⟨hB, hod, ho0, hone, hall, ho, hVgp⟩
            · exact ⟨iv (by omega), iv (by omega), iv (by omega), rfl, rfl, iv (by omega), iv (by omega), trivial⟩
            · rintro o w25 ⟨hB, hod, ho0, hone, hall, ho, hVgp⟩
              have ho_l := ho.rd.plen
              have hole := Nat.le_of_dvd hphi.1 hod
              have hdl := Nat.div_le_self o (M.getD i (0, 0)).1
              have hdlt := Nat.div_lt_self ho0 hpb.1
              refine W.seq ?_
              refine W.seq ?_
              refine W.region ?_
              refine WL.move rfl rfl ?_
              refine WL.fieldA (off := 0) Try.fla73_0 rfl rfl ?_
              refine WL.load Try.underlying3 rfl rfl (hVgp.vcells 0 _ rfl) rfl ?_
              refine WL.rem (r := ((o % ((M.getD i (0, 0)).1) : Nat) : Int)) rfl rfl (by omega) (tmod_nat (by omega) (by omega)) rfl ?_
              refine WL.eql rfl rfl rfl (fun c26 => ?_) (fun c26 => ?_)
              · refine WL.move rfl rfl ?_
                refine WL.take rfl ?_
                refine WL.move rfl rfl ?_
                refine WL.take rfl ?_
                refine WL.move rfl rfl ?_
                refine WL.take rfl ?_
                refine WL.fieldA (off := 0) Try.fla73_0 rfl rfl ?_
                refine WL.take rfl ?_
                refine WL.load Try.underlying3 rfl rfl (hVgp.vcells 0 _ rfl) rfl ?_
                refine WL.take rfl ?_
                refine WL.quo (r := ((o / ((M.getD i (0, 0)).1) : Nat) : Int)) rfl rfl (by omega) (qi64 (by omega) (by omega) (by omega)) rfl ?_
                refine WL.take rfl ?_
                refine WL.move rfl rfl ?_
                refine WL.take rfl ?_
                refine WL.call Try.func94 rfl Try.nm94 rfl rfl (power_c ((X % (Y.toNat : Int)).toNat) (by omega) (o / ((M.getD i (0, 0)).1)) (by omega) Y.toNat (by omega) (by omega) (by omega) (by omega)) ?_
                rintro _ w27 ⟨rfl, hGw27⟩
                have hB := ext_trans hB hGw27
                have ho := ho.ext hGw27
                have hVgp := hVgp.ext hGw27
                refine WL.take rfl ?_
                refine WL.eql rfl rfl rfl (fun c28 => ?_) (fun c28 => ?_)
                · refine WL.pick rfl rfl rfl ?_
                  refine WL.done ?_
                  refine W.condT rfl ?_
                  refine W.skip ?_
                  refine W.block ?_
                  refine W.region ?_
                  refine WL.move rfl rfl ?_
                  refine WL.fieldA (off := 0) Try.fla73_0 rfl rfl ?_
                  refine WL.load Try.underlying3 rfl rfl (hVgp.vcells 0 _ rfl) rfl ?_
                  refine WL.quo (r := ((o / ((M.getD i (0, 0)).1) : Nat) : Int)) rfl rfl (by omega) (qi64 (by omega) (by omega) (by omega)) rfl ?_
                  refine WL.assign rfl rfl ?_
                  refine WL.done ?_
                  refine ⟨(o / (M.getD i (0, 0)).1), ⟨iv (by omega), iv (by omega), iv (by omega), rfl, rfl, iv (by omega), iv (by omega), trivial⟩, by omega, ?_⟩
                  have hdm : o % (M.getD i (0, 0)).1 = 0 := by omega
                  exact ⟨hB, Nat.dvd_trans (Nat.div_dvd_of_dvd (Nat.dvd_of_mod_eq_zero hdm)) hod, Nat.div_pos (Nat.le_of_dvd ho0 (Nat.dvd_of_mod_eq_zero hdm)) (by omega), (one_eq hn2).1 (by omega), fun j h => ord_keep (by omega) hdm (hall j h), ho, hVgp⟩
                · refine WL.pick rfl rfl rfl ?_
                  refine WL.done ?_
                  refine W.condF rfl ?_
                  refine W.exit ?_
                  refine W.region ?_
                  refine WL.add (r := ((i + 1 : Nat) : Int)) rfl rfl (wi64 (by omega) (by omega) (by omega)) rfl ?_
                  refine WL.move rfl rfl ?_
                  refine WL.done ?_
                  refine ⟨(i + 1, o, Ao, mo, co), ⟨iv (by omega), iv (by omega), iv (by omega), rfl, iv (by omega), iv (by omega), trivial⟩, by (dsimp only; omega), ?_⟩
                  exact ⟨hB, by omega, hod, ho0, hone, fun j h => (by
                    rcases Nat.lt_succ_iff_lt_or_eq.1 h with h1 | h1
                    · exact hall j h1
                    · rw [h1]; rintro ⟨h2, h3⟩; have h4 := (one_eq hn2).2 h3; omega), ho⟩
              · refine WL.move rfl rfl ?_
                refine WL.pass rfl rfl rfl ?_
                refine WL.pass rfl rfl rfl ?_
                refine WL.pass rfl rfl rfl ?_
                refine WL.pass rfl rfl rfl ?_
                refine WL.pass rfl rfl rfl ?_
                refine WL.pass rfl rfl rfl ?_
                refine WL.pass rfl rfl rfl ?_
                refine WL.pass rfl rfl rfl ?_
                refine WL.pick rfl rfl rfl ?_
                refine WL.done ?_
                refine W.condF rfl ?_
                refine W.exit ?_
                refine W.region ?_
                refine WL.add (r := ((i + 1 : Nat) : Int)) rfl rfl (wi64 (by omega) (by omega) (by omega)) rfl ?_
                refine WL.move rfl rfl ?_
                refine WL.done ?_
                refine ⟨(i + 1, o, Ao, mo, co), ⟨iv (by omega), iv (by omega), iv (by omega), rfl, iv (by omega), iv (by omega), trivial⟩, by (dsimp only; omega), ?_⟩
                exact ⟨hB, by omega, hod, ho0, hone, fun j h => (by
                  rcases Nat.lt_succ_iff_lt_or_eq.1 h with h1 | h1
                  · exact hall j h1
                  · rw [h1]; rintro ⟨h2, h3⟩; have h4 := (one_eq hn2).2 h3; omega), ho⟩
        · refine WL.done ?_
          refine W.seq ?_
          refine W.condF rfl ?_
          refine W.exit ?_
          refine W.seq ?_
          refine W.region ?_
          refine WL.move rfl rfl ?_
          refine WL.assign rfl rfl ?_
          refine WL.assign rfl rfl ?_
          refine WL.done ?_
          refine W.ret ?_
          refine ⟨_, rfl, ?_⟩
          first
          | (cases hR with
             | out h => exact ⟨rfl, hB⟩
             | none h1 h2 => exact absurd h1 z
             | ok h1 h2 => exact absurd h1 z)
          | (rw [hem] at c_g; cases hR with
             | out h => exact absurd z h
             | none h1 h2 => exact ⟨rfl, hB⟩
             | ok h1 h2 => omega)
          | (cases hR with
             | out h => exact absurd z h
             | none h1 h2 => exact absurd hg1 h2
             | ok h1 h2 h3 =>
               have h5 : IsOrd (X % (Y.toNat : Int)).toNat Y.toNat K := (by rw [hyt]; exact h3)
               have h4 := (IsOrd.of hM hod ho0 hone (of_getD fun j hj => hall j (by omega))).uniq h5
               exact ⟨by rw [h4]; rfl, hB⟩)
end Go.Proofs.Ytdmgbahognfhbab
set_option linter.unusedSimpArgs false
set_option linter.unusedVariables false
namespace Go.Proofs.Ytdmgbahognfhbab
open Go.RowKit
theorem Product_c {w : World} {Bl : Nat} {Al : Option Addr} {ml cl : Nat} {xl : List Int} (hl : Rd Bl w 1 Al ml cl (is xl)) {X : Int} (hX : -9223372036854775808 ≤ X ∧ X ≤ 9223372036854775807) (hIl : ILim xl) :
    Calls Try.prog 64 #[.int .i64 X, .slice Al ml cl] w fun e w2 => ∃ v, e = .returned v ∧ (fun v w2 => v = .tuple #[.int .i64 (((prodS X xl).1 : Nat) : Int), .int .i64 (((prodS X xl).2 : Nat) : Int)] ∧ w.grownBy w2 none) v w2 := by
  have hl := hl.norm
  have hl_l := hl.ilen
  have hl_x := hl.max
  simp only [maxLen] at hl_x
  have hl_c := hl.cap
  have hl0 := hl
  have hB := ext_refl w
  refine calls_of_W (vs := [.int .i64 X, .slice Al ml cl]) [4, 5] Try.func64 rfl rfl rfl rfl ?_
  refine W.seq ?_
  refine W.region ?_
  refine WL.assign rfl rfl ?_
  refine WL.assign rfl rfl ?_
  refine WL.done ?_
  refine W.seq ?_
  refine W.seq ?_
  refine W.region ?_
  refine WL.move rfl rfl ?_
  refine WL.lss rfl rfl rfl (fun c11 => ?_) (fun c11 => ?_)
  · refine WL.done ?_
    refine W.condT rfl ?_
    refine W.seq ?_
    refine W.region ?_
    refine WL.assign rfl rfl ?_
    refine WL.assign rfl rfl ?_
    refine WL.done ?_
    refine W.ret ?_
    refine ⟨_, rfl, ?_⟩
    first
    | (rw [prodS_most (by omega)]; exact ⟨rfl, hB⟩)
    | (rw [prodS_neg (imem (l := xl) (j := i) (by omega)) (by omega)]; exact ⟨rfl, hB⟩)
    | (rw [prodS_zero (by omega) (of_iget fun j hj => hnn j (by omega)) (hz0 rfl)]; exact ⟨rfl, hB⟩)
    | (have hie : i = xl.length := by omega
       rw [hps, hie, List.take_length]; exact ⟨rfl, hB⟩)
    | (rw [hps, prS_big (show X.toNat < prodI xl by omega), prS_big (show X.toNat < prodI (xl.take i) by omega)]; exact ⟨rfl, hB⟩)
  · refine WL.done ?_
    refine W.condF rfl ?_
    refine W.skip ?_
    refine W.seq ?_
    refine W.region ?_
    refine WL.assign rfl rfl ?_
    refine WL.done ?_
    refine W.seq ?_
    refine W.seq ?_
    refine W.region ?_
    refine WL.move rfl rfl ?_
    refine WL.len Try.underlying27 rfl rfl ?_
    refine WL.move rfl rfl ?_
    refine WL.done ?_
    refine W.block ?_
    refine W.loop (σ := Nat × Bool) (fun s w1 => match s with | (i, zz) => w.grownBy w1 none ∧ i ≤ ml ∧ (∀ j, j < i → 0 ≤ xl.getD j 0) ∧ (zz = true → 0 ∈ xl) ∧ (zz = false → ∀ j, j < i → xl.getD j 0 ≠ 0)) (fun s => match s with | (i, zz) => [(0, .int .i64 X), (1, .slice Al ml cl), (6, .bool zz), (14, .slice Al ml cl), (15, .int .i64 ((ml : Nat) : Int)), (16, .int .i64 ((i : Nat) : Int))]) (fun s => match s with | (i, zz) => ml - i) (0, false) ?_ ?_ ?_
    · exact ⟨hB, by omega, fun j h => by omega, fun h => (by cases h), fun _ j h => by omega⟩
    · exact ⟨iv (by omega), rfl, rfl, rfl, iv (by omega), iv (by omega), trivial⟩
    · rintro ⟨i, zz⟩ w12 ⟨hB, hi, hnn, hz0, hnz⟩
      have hl := hl0.ext hB
      refine W.seq ?_
      refine W.region ?_
      refine WL.lss rfl rfl rfl (fun c13 => ?_) (fun c13 => ?_)
      · refine WL.done ?_
        refine W.seq ?_
        refine W.condT rfl ?_
        refine W.skip ?_
        refine W.seq ?_
        refine W.block ?_
        refine W.seq ?_
        have hIi := hIl.getD i
        · refine W.region ?_
          refine WL.index1 (i) Try.underlying27 Try.el3 rfl rfl (by omega) (by omega) hl rfl ?_
          refine WL.load Try.underlying3 rfl rfl (Rd.at_ hl (is_at (by omega))) rfl ?_
          refine WL.assign rfl rfl ?_
          refine WL.done ?_
          refine W.seq ?_
          refine W.seq ?_
          refine W.region ?_
          refine WL.move rfl rfl ?_
          refine WL.lss rfl rfl rfl (fun c14 => ?_) (fun c14 => ?_)
          · refine WL.done ?_
            refine W.condT rfl ?_
            refine W.seq ?_
            refine W.region ?_
            refine WL.assign rfl rfl ?_
            refine WL.assign rfl rfl ?_
            refine WL.done ?_
            refine W.ret ?_
            refine ⟨_, rfl, ?_⟩
            first
            | (rw [prodS_most (by omega)]; exact ⟨rfl, hB⟩)
            | (rw [prodS_neg (imem (l := xl) (j := i) (by omega)) (by omega)]; exact ⟨rfl, hB⟩)
            | (rw [prodS_zero (by omega) (of_iget fun j hj => hnn j (by omega)) (hz0 rfl)]; exact ⟨rfl, hB⟩)
            | (have hie : i = xl.length := by omega
               rw [hps, hie, List.take_length]; exact ⟨rfl, hB⟩)
            | (rw [hps, prS_big (show X.toNat < prodI xl by omega), prS_big (show X.toNat < prodI (xl.take i) by omega)]; exact ⟨rfl, hB⟩)
          · refine WL.done ?_
            refine W.condF rfl ?_
            refine W.skip ?_
            refine W.region ?_
            refine WL.move rfl rfl ?_
            refine WL.move rfl rfl ?_
            rcases zz with _ | _
            · refine WL.take rfl ?_
              refine WL.move rfl rfl ?_
              refine WL.take rfl ?_
              refine WL.eql rfl rfl rfl (fun c16 => ?_) (fun c16 => ?_)
              · refine WL.pick rfl rfl rfl ?_
                refine WL.assign rfl rfl ?_
                refine WL.done ?_
                refine W.region ?_
                refine WL.add (r := ((i + 1 : Nat) : Int)) rfl rfl (wi64 (by omega) (by omega) (by omega)) rfl ?_
                refine WL.move rfl rfl ?_
                refine WL.done ?_
                refine ⟨(i + 1, true), ⟨iv (by omega), rfl, rfl, rfl, iv (by omega), iv (by omega), trivial⟩, by (dsimp only; omega), ?_⟩
                exact ⟨hB, by omega, fun j h => (by
                  rcases Nat.lt_succ_iff_lt_or_eq.1 h with h1 | h1
                  · exact hnn j h1
                  · rw [h1]; omega), fun _ => (by have h2 := imem (l := xl) (j := i) (by omega); rw [show xl.getD i 0 = 0 by omega] at h2; exact h2), fun h => (by cases h)⟩
              · refine WL.pick rfl rfl rfl ?_
                refine WL.assign rfl rfl ?_
                refine WL.done ?_
                refine W.region ?_
                refine WL.add (r := ((i + 1 : Nat) : Int)) rfl rfl (wi64 (by omega) (by omega) (by omega)) rfl ?_
                refine WL.move rfl rfl ?_
                refine WL.done ?_
                refine ⟨(i + 1, false), ⟨iv (by omega), rfl, rfl, rfl, iv (by omega), iv (by omega), trivial⟩, by (dsimp only; omega), ?_⟩
                exact ⟨hB, by omega, fun j h => (by
                  rcases Nat.lt_succ_iff_lt_or_eq.1 h with h1 | h1
                  · exact hnn j h1
                  · rw [h1]; omega), fun h => (by cases h), fun _ j h => (by
                  rcases Nat.lt_succ_iff_lt_or_eq.1 h with h1 | h1
                  · exact hnz rfl j h1
                  · rw [h1]; omega)⟩
            · refine WL.pass rfl rfl rfl ?_
              refine WL.pass rfl rfl rfl ?_
              refine WL.pick rfl rfl rfl ?_
              refine WL.assign rfl rfl ?_
              refine WL.done ?_
              refine W.region ?_
              refine WL.add (r := ((i + 1 : Nat) : Int)) rfl rfl (wi64 (by omega) (by omega) (by omega)) rfl ?_
              refine WL.move rfl rfl ?_
              refine WL.done ?_
              refine ⟨(i + 1, true), ⟨iv (by omega), rfl, rfl, rfl, iv (by omega), iv (by omega), trivial⟩, by (dsimp only; omega), ?_⟩
              exact ⟨hB, by omega, fun j h => (by
                rcases Nat.lt_succ_iff_lt_or_eq.1 h with h1 | h1
                · exact hnn j h1
                · rw [h1]; omega), fun _ => hz0 rfl, fun h => (by cases h)⟩
      · refine WL.done ?_
        refine W.seq ?_
        refine W.condF rfl ?_
        refine W.exit ?_
        refine W.seq ?_
        refine W.seq ?_
        refine W.region ?_
        refine WL.move rfl rfl ?_
        refine WL.done ?_
        rcases zz with _ | _
        · refine W.condF rfl ?_
          refine W.skip ?_
          refine W.seq ?_
          refine W.region ?_
          refine WL.move rfl rfl ?_
          have hpp : ∀ x ∈ xl, 0 < x := of_iget (fun j hj => by have h1 := hnn j (by omega); have h2 := hnz rfl j (by omega); omega)
          have hM0 : 0 ≤ X := by omega
          have hpm := prodI_mono hpp
          have hpos := prodI_pos hpp
          have hps := prodS_pos hM0 hpp
          refine WL.call Try.func66 rfl Try.nm66 rfl rfl (times_c 1 rfl 1 rfl X.toNat (by omega) (by omega) (by omega) (by omega) (by omega)) ?_
          rintro _ w18 ⟨rfl, hGw18⟩
          have hB := ext_trans hB hGw18
          have hl := hl0.ext hB
          rw [show 1 * 1 = prodI (xl.take 0) from rfl]
          refine WL.move rfl rfl ?_
          refine WL.extract rfl rfl rfl ?_
          refine WL.extract rfl rfl rfl ?_
          refine WL.assign rfl rfl ?_
          refine WL.assign rfl rfl ?_
          refine WL.done ?_
          refine W.seq ?_
          refine W.seq ?_
          refine W.region ?_
          refine WL.assign rfl rfl ?_
          refine WL.done ?_
          refine W.block ?_
          refine W.loop (σ := Nat) (fun i w1 => w.grownBy w1 none ∧ i ≤ ml) (fun i => [(0, .int .i64 X), (1, .slice Al ml cl), (9, .int .i64 (((prS X.toNat (prodI (xl.take i))).1 : Nat) : Int)), (10, .int .i64 (((prS X.toNat (prodI (xl.take i))).2 : Nat) : Int)), (11, .int .i64 ((i : Nat) : Int))]) (fun i => ml - i) 0 ?_ ?_ ?_
          · exact ⟨hB, by omega⟩
          · exact ⟨iv (by omega), rfl, iv (by omega), iv (by omega), iv (by omega), trivial⟩
          · rintro i w19 ⟨hB, hi⟩
            have hl := hl0.ext hB
            have hle := prS_le X.toNat (prodI (xl.take i))
            have hok := @prS_2 X.toNat (prodI (xl.take i))
            have hmi := hpm i
            refine W.seq ?_
            refine W.seq ?_
            refine W.region ?_
            refine WL.move rfl rfl ?_
            refine WL.move rfl rfl ?_
            refine WL.len Try.underlying27 rfl rfl ?_
            refine WL.lss rfl rfl rfl (fun c20 => ?_) (fun c20 => ?_)
            · refine WL.move rfl rfl ?_
              refine WL.take rfl ?_
              refine WL.move rfl rfl ?_
              refine WL.take rfl ?_
              refine WL.eql rfl rfl rfl (fun c21 => ?_) (fun c21 => ?_)
              · refine WL.pick rfl rfl rfl ?_
                refine WL.done ?_
                refine W.condT rfl ?_
                refine W.skip ?_
                refine W.seq ?_
                refine W.block ?_
                have hil : i < xl.length := (by omega); have hIi := hIl.getD i; have hgi := hpp _ (imem hil); have hpt := prodI_take hil; have hok1 : prodI (xl.take i) ≤ X.toNat := (by omega); have hpr := prS_ok hok1; have hp1 : (prS X.toNat (prodI (xl.take i))).1 = prodI (xl.take i) := (by rw [hpr])
                · refine W.region ?_
                  refine WL.move rfl rfl ?_
                  refine WL.move rfl rfl ?_
                  refine WL.move rfl rfl ?_
                  refine WL.index1 (i) Try.underlying27 Try.el3 rfl rfl (by omega) (by omega) hl rfl ?_
                  refine WL.load Try.underlying3 rfl rfl (Rd.at_ hl (is_at (by omega))) rfl ?_
                  refine WL.move rfl rfl ?_
                  refine WL.call Try.func66 rfl Try.nm66 rfl rfl (times_c (prodI (xl.take i)) (by omega) (xl.getD i 0).toNat (by omega) X.toNat (by omega) (by omega) (by omega) (by omega) (by omega)) ?_
                  rintro _ w22 ⟨rfl, hGw22⟩
                  have hB := ext_trans hB hGw22
                  rw [← hpt]
                  refine WL.move rfl rfl ?_
                  refine WL.extract rfl rfl rfl ?_
                  refine WL.extract rfl rfl rfl ?_
                  refine WL.assign rfl rfl ?_
                  refine WL.assign rfl rfl ?_
                  refine WL.done ?_
                  refine W.region ?_
                  refine WL.move rfl rfl ?_
                  refine WL.add (r := ((i + 1 : Nat) : Int)) rfl rfl (wi64 (by omega) (by omega) (by omega)) rfl ?_
                  refine WL.assign rfl rfl ?_
                  refine WL.done ?_
                  refine ⟨i + 1, ⟨iv (by omega), rfl, iv (by omega), iv (by omega), iv (by omega), trivial⟩, by omega, ?_⟩
                  exact ⟨hB, by omega⟩
              · refine WL.pick rfl rfl rfl ?_
                refine WL.done ?_
                refine W.condF rfl ?_
                refine W.exit ?_
                refine W.seq ?_
                refine W.region ?_
                refine WL.move rfl rfl ?_
                refine WL.move rfl rfl ?_
                refine WL.assign rfl rfl ?_
                refine WL.assign rfl rfl ?_
                refine WL.done ?_
                refine W.ret ?_
                refine ⟨_, rfl, ?_⟩
                first
                | (rw [prodS_most (by omega)]; exact ⟨rfl, hB⟩)
                | (rw [prodS_neg (imem (l := xl) (j := i) (by omega)) (by omega)]; exact ⟨rfl, hB⟩)
                | (rw [prodS_zero (by omega) (of_iget fun j hj => hnn j (by omega)) (hz0 rfl)]; exact ⟨rfl, hB⟩)
                | (have hie : i = xl.length := by omega
                   rw [hps, hie, List.take_length]; exact ⟨rfl, hB⟩)
                | (rw [hps, prS_big (show X.toNat < prodI xl by omega), prS_big (show X.toNat < prodI (xl.take i) by omega)]; exact ⟨rfl, hB⟩)
            · refine WL.move rfl rfl ?_
              refine WL.pass rfl rfl rfl ?_
              refine WL.pass rfl rfl rfl ?_
              refine WL.pick rfl rfl rfl ?_
              refine WL.done ?_
              refine W.condF rfl ?_
              refine W.exit ?_
              refine W.seq ?_
              refine W.region ?_
              refine WL.move rfl rfl ?_
              refine WL.move rfl rfl ?_
              refine WL.assign rfl rfl ?_
              refine WL.assign rfl rfl ?_
              refine WL.done ?_
              refine W.ret ?_
              refine ⟨_, rfl, ?_⟩
              first
              | (rw [prodS_most (by omega)]; exact ⟨rfl, hB⟩)
              | (rw [prodS_neg (imem (l := xl) (j := i) (by omega)) (by omega)]; exact ⟨rfl, hB⟩)
              | (rw [prodS_zero (by omega) (of_iget fun j hj => hnn j (by omega)) (hz0 rfl)]; exact ⟨rfl, hB⟩)
              | (have hie : i = xl.length := by omega
                 rw [hps, hie, List.take_length]; exact ⟨rfl, hB⟩)
              | (rw [hps, prS_big (show X.toNat < prodI xl by omega), prS_big (show X.toNat < prodI (xl.take i) by omega)]; exact ⟨rfl, hB⟩)
        · refine W.condT rfl ?_
          refine W.seq ?_
          refine W.region ?_
          refine WL.assign rfl rfl ?_
          refine WL.assign rfl rfl ?_
          refine WL.done ?_
          refine W.ret ?_
          refine ⟨_, rfl, ?_⟩
          first
          | (rw [prodS_most (by omega)]; exact ⟨rfl, hB⟩)
          | (rw [prodS_neg (imem (l := xl) (j := i) (by omega)) (by omega)]; exact ⟨rfl, hB⟩)
          | (rw [prodS_zero (by omega) (of_iget fun j hj => hnn j (by omega)) (hz0 rfl)]; exact ⟨rfl, hB⟩)
          | (have hie : i = xl.length := by omega
             rw [hps, hie, List.take_length]; exact ⟨rfl, hB⟩)
          | (rw [hps, prS_big (show X.toNat < prodI xl by omega), prS_big (show X.toNat < prodI (xl.take i) by omega)]; exact ⟨rfl, hB⟩)
end Go.Proofs.Ytdmgbahognfhbab
set_option linter.unusedSimpArgs false
set_option linter.unusedVariables false
namespace Go.Proofs.Ytdmgbahognfhbab
open Go.RowKit
theorem Exp_neg {w : World} {X : Int} (hX : -9223372036854775808 ≤ X ∧ X ≤ 9223372036854775807) {Y : Int} (hY : -9223372036854775808 ≤ Y ∧ Y ≤ 9223372036854775807) {Z : Int} (hZ : -9223372036854775808 ≤ Z ∧ Z ≤ 9223372036854775807) (hng : X < 0 ∨ Y < 0 ∨ Z < 0) :
    Calls Try.prog 17 #[.int .i64 X, .int .i64 Y, .int .i64 Z] w fun e w2 => ∃ v, e = .returned v ∧ (fun v w2 => v = .tuple #[.int .i64 (((expS X Y Z).1 : Nat) : Int), .int .i64 (((expS X Y Z).2 : Nat) : Int)] ∧ w.grownBy w2 none) v w2 := by
  have hB := ext_refl w
  refine calls_of_W (vs := [.int .i64 X, .int .i64 Y, .int .i64 Z]) [6, 7] Try.func17 rfl rfl rfl rfl ?_
  refine W.seq ?_
  refine W.region ?_
  refine WL.assign rfl rfl ?_
  refine WL.assign rfl rfl ?_
  refine WL.done ?_
  refine W.seq ?_
  refine W.seq ?_
  refine W.region ?_
  refine WL.move rfl rfl ?_
  refine WL.lss rfl rfl rfl (fun c11 => ?_) (fun c11 => ?_)
  · refine WL.move rfl rfl ?_
    refine WL.pass rfl rfl rfl ?_
    refine WL.pass rfl rfl rfl ?_
    refine WL.pick rfl rfl rfl ?_
    refine WL.move rfl rfl ?_
    refine WL.pass rfl rfl rfl ?_
    refine WL.pass rfl rfl rfl ?_
    refine WL.pick rfl rfl rfl ?_
    refine WL.done ?_
    refine W.condT rfl ?_
    refine W.seq ?_
    refine W.region ?_
    refine WL.assign rfl rfl ?_
    refine WL.assign rfl rfl ?_
    refine WL.done ?_
    refine W.ret ?_
    refine ⟨_, rfl, ?_⟩
    rw [expS_neg hng]
    exact ⟨rfl, hB⟩
  · refine WL.move rfl rfl ?_
    refine WL.take rfl ?_
    refine WL.move rfl rfl ?_
    refine WL.take rfl ?_
    refine WL.lss rfl rfl rfl (fun c12 => ?_) (fun c12 => ?_)
    · refine WL.pick rfl rfl rfl ?_
      refine WL.move rfl rfl ?_
      refine WL.pass rfl rfl rfl ?_
      refine WL.pass rfl rfl rfl ?_
      refine WL.pick rfl rfl rfl ?_
      refine WL.done ?_
      refine W.condT rfl ?_
      refine W.seq ?_
      refine W.region ?_
      refine WL.assign rfl rfl ?_
      refine WL.assign rfl rfl ?_
      refine WL.done ?_
      refine W.ret ?_
      refine ⟨_, rfl, ?_⟩
      rw [expS_neg hng]
      exact ⟨rfl, hB⟩
    · refine WL.pick rfl rfl rfl ?_
      refine WL.move rfl rfl ?_
      refine WL.take rfl ?_
      refine WL.move rfl rfl ?_
      refine WL.take rfl ?_
      refine WL.lss rfl rfl rfl (fun c13 => ?_) (fun c13 => ?_)
      · refine WL.pick rfl rfl rfl ?_
        refine WL.done ?_
        refine W.condT rfl ?_
        refine W.seq ?_
        refine W.region ?_
        refine WL.assign rfl rfl ?_
        refine WL.assign rfl rfl ?_
        refine WL.done ?_
        refine W.ret ?_
        refine ⟨_, rfl, ?_⟩
        rw [expS_neg hng]
        exact ⟨rfl, hB⟩
      · exfalso
        omega

theorem Exp_nn {w : World} (q : Nat) {X : Int} (hX : X = q) (k : Nat) {Y : Int} (hY : Y = k) (m : Nat) {Z : Int} (hZ : Z = m) (hq : q < 9223372036854775808) (hk : k < 9223372036854775808) (hm : m < 9223372036854775808) :
    Calls Try.prog 17 #[.int .i64 X, .int .i64 Y, .int .i64 Z] w fun e w2 => ∃ v, e = .returned v ∧ (fun v w2 => v = .tuple #[.int .i64 (((expS X Y Z).1 : Nat) : Int), .int .i64 (((expS X Y Z).2 : Nat) : Int)] ∧ w.grownBy w2 none) v w2 := by
  have hB := ext_refl w
  refine calls_of_W (vs := [.int .i64 X, .int .i64 Y, .int .i64 Z]) [6, 7] Try.func17 rfl rfl rfl rfl ?_
  refine W.seq ?_
  refine W.region ?_
  refine WL.assign rfl rfl ?_
  refine WL.assign rfl rfl ?_
  refine WL.done ?_
  refine W.seq ?_
  refine W.seq ?_
  refine W.region ?_
  refine WL.move rfl rfl ?_
  refine WL.lss rfl rfl rfl (fun c11 => ?_) (fun c11 => ?_)
  · exfalso
    omega
  · refine WL.move rfl rfl ?_
    refine WL.take rfl ?_
    refine WL.move rfl rfl ?_
    refine WL.take rfl ?_
    refine WL.lss rfl rfl rfl (fun c12 => ?_) (fun c12 => ?_)
    · exfalso
      omega
    · refine WL.pick rfl rfl rfl ?_
      refine WL.move rfl rfl ?_
      refine WL.take rfl ?_
      refine WL.move rfl rfl ?_
      refine WL.take rfl ?_
      refine WL.lss rfl rfl rfl (fun c13 => ?_) (fun c13 => ?_)
      · exfalso
        omega
      · refine WL.pick rfl rfl rfl ?_
        refine WL.done ?_
        refine W.condF rfl ?_
        refine W.skip ?_
        refine W.seq ?_
        refine W.seq ?_
        refine W.region ?_
        refine WL.move rfl rfl ?_
        refine WL.eql rfl rfl rfl (fun c14 => ?_) (fun c14 => ?_)
        · refine WL.move rfl rfl ?_
          refine WL.take rfl ?_
          refine WL.move rfl rfl ?_
          refine WL.take rfl ?_
          refine WL.gtr rfl rfl rfl (fun c15 => ?_) (fun c15 => ?_)
          · refine WL.pick rfl rfl rfl ?_
            refine WL.done ?_
            refine W.condT rfl ?_
            refine W.seq ?_
            refine W.region ?_
            refine WL.assign rfl rfl ?_
            refine WL.assign rfl rfl ?_
            refine WL.done ?_
            refine W.ret ?_
            refine ⟨_, rfl, ?_⟩
            first
            | (rw [expS_zero (by omega) (by omega)]; exact ⟨rfl, hB⟩)
            | (rw [hX, hY, hZ, expS_pos (by omega), exp_end hjr hK (by omega)]; exact ⟨rfl, hB⟩)
          · refine WL.pick rfl rfl rfl ?_
            refine WL.done ?_
            refine W.condF rfl ?_
            refine W.skip ?_
            refine W.seq ?_
            refine W.seq ?_
            refine W.region ?_
            refine WL.move rfl rfl ?_
            refine WL.eql rfl rfl rfl (fun c16 => ?_) (fun c16 => ?_)
            · refine WL.done ?_
              refine W.condT rfl ?_
              refine W.region ?_
              refine WL.assign rfl rfl ?_
              refine WL.done ?_
              refine W.seq ?_
              refine W.region ?_
              refine WL.move rfl rfl ?_
              refine WL.call Try.func66 rfl Try.nm66 rfl rfl (times_c 1 rfl 1 rfl m (by omega) (by omega) (by omega) (by omega) (by omega)) ?_
              rintro _ w17 ⟨rfl, hGw17⟩
              have hB := ext_trans hB hGw17
              rw [show 1 * 1 = q ^ 0 from rfl]
              refine WL.move rfl rfl ?_
              refine WL.extract rfl rfl rfl ?_
              refine WL.extract rfl rfl rfl ?_
              refine WL.assign rfl rfl ?_
              refine WL.assign rfl rfl ?_
              refine WL.done ?_
              refine W.seq ?_
              refine W.block ?_
              refine W.loop (σ := Nat × Nat × Nat) (fun s w1 => match s with | (j, r, K) => w.grownBy w1 none ∧ j + r = K ∧ (q = 1 ∧ K = 0 ∨ q ≠ 1 ∧ K = k ∧ (q = 0 → k = 0))) (fun s => match s with | (j, r, K) => [(0, .int .i64 X), (1, .int .i64 ((r : Nat) : Int)), (2, .int .i64 Z), (8, .int .i64 (((prS m (q ^ j)).1 : Nat) : Int)), (9, .int .i64 (((prS m (q ^ j)).2 : Nat) : Int))]) (fun s => match s with | (j, r, K) => r) (0, 0, 0) ?_ ?_ ?_
              · exact ⟨hB, by omega, by omega⟩
              · exact ⟨iv (by omega), iv (by omega), iv (by omega), iv (by omega), iv (by omega), trivial⟩
              · rintro ⟨j, r, K⟩ w18 ⟨hB, hjr, hK⟩
                have hle := prS_le m (q ^ j)
                have hok := @prS_2 m (q ^ j)
                refine W.seq ?_
                refine W.seq ?_
                refine W.region ?_
                refine WL.move rfl rfl ?_
                refine WL.gtr rfl rfl rfl (fun c19 => ?_) (fun c19 => ?_)
                · refine WL.move rfl rfl ?_
                  refine WL.take rfl ?_
                  refine WL.move rfl rfl ?_
                  refine WL.take rfl ?_
                  refine WL.eql rfl rfl rfl (fun c20 => ?_) (fun c20 => ?_)
                  · refine WL.pick rfl rfl rfl ?_
                    refine WL.done ?_
                    refine W.condT rfl ?_
                    refine W.skip ?_
                    refine W.seq ?_
                    refine W.block ?_
                    have hpr := prS_ok (hok.1 (by omega)); have hp1 : (prS m (q ^ j)).1 = q ^ j := (by rw [hpr]); have hok1 := hok.1 (by omega)
                    · refine W.region ?_
                      refine WL.move rfl rfl ?_
                      refine WL.move rfl rfl ?_
                      refine WL.move rfl rfl ?_
                      refine WL.call Try.func66 rfl Try.nm66 rfl rfl (times_c (q ^ j) (by omega) q (by omega) m (by omega) (by omega) (by omega) (by omega) (by omega)) ?_
                      rintro _ w21 ⟨rfl, hGw21⟩
                      have hB := ext_trans hB hGw21
                      rw [← Nat.pow_succ, Nat.succ_eq_add_one]
                      refine WL.move rfl rfl ?_
                      refine WL.extract rfl rfl rfl ?_
                      refine WL.extract rfl rfl rfl ?_
                      refine WL.assign rfl rfl ?_
                      refine WL.assign rfl rfl ?_
                      refine WL.done ?_
                      refine W.region ?_
                      refine WL.move rfl rfl ?_
                      refine WL.sub (r := ((r - 1 : Nat) : Int)) rfl rfl (wi64 (by omega) (by omega) (by omega)) rfl ?_
                      refine WL.assign rfl rfl ?_
                      refine WL.done ?_
                      refine ⟨(j + 1, r - 1, K), ⟨iv (by omega), iv (by omega), iv (by omega), iv (by omega), iv (by omega), trivial⟩, by (dsimp only; omega), ?_⟩
                      exact ⟨hB, by omega, hK⟩
                  · refine WL.pick rfl rfl rfl ?_
                    refine WL.done ?_
                    refine W.condF rfl ?_
                    refine W.exit ?_
                    refine W.seq ?_
                    refine W.region ?_
                    refine WL.move rfl rfl ?_
                    refine WL.move rfl rfl ?_
                    refine WL.assign rfl rfl ?_
                    refine WL.assign rfl rfl ?_
                    refine WL.done ?_
                    refine W.ret ?_
                    refine ⟨_, rfl, ?_⟩
                    first
                    | (rw [expS_zero (by omega) (by omega)]; exact ⟨rfl, hB⟩)
                    | (rw [hX, hY, hZ, expS_pos (by omega), exp_end hjr hK (by omega)]; exact ⟨rfl, hB⟩)
                · refine WL.move rfl rfl ?_
                  refine WL.pass rfl rfl rfl ?_
                  refine WL.pass rfl rfl rfl ?_
                  refine WL.pick rfl rfl rfl ?_
                  refine WL.done ?_
                  refine W.condF rfl ?_
                  refine W.exit ?_
                  refine W.seq ?_
                  refine W.region ?_
                  refine WL.move rfl rfl ?_
                  refine WL.move rfl rfl ?_
                  refine WL.assign rfl rfl ?_
                  refine WL.assign rfl rfl ?_
                  refine WL.done ?_
                  refine W.ret ?_
                  refine ⟨_, rfl, ?_⟩
                  first
                  | (rw [expS_zero (by omega) (by omega)]; exact ⟨rfl, hB⟩)
                  | (rw [hX, hY, hZ, expS_pos (by omega), exp_end hjr hK (by omega)]; exact ⟨rfl, hB⟩)
            · refine WL.done ?_
              refine W.condF rfl ?_
              refine W.skip ?_
              refine W.seq ?_
              refine W.region ?_
              refine WL.move rfl rfl ?_
              refine WL.call Try.func66 rfl Try.nm66 rfl rfl (times_c 1 rfl 1 rfl m (by omega) (by omega) (by omega) (by omega) (by omega)) ?_
              rintro _ w22 ⟨rfl, hGw22⟩
              have hB := ext_trans hB hGw22
              rw [show 1 * 1 = q ^ 0 from rfl]
              refine WL.move rfl rfl ?_
              refine WL.extract rfl rfl rfl ?_
              refine WL.extract rfl rfl rfl ?_
              refine WL.assign rfl rfl ?_
              refine WL.assign rfl rfl ?_
              refine WL.done ?_
              refine W.seq ?_
              refine W.block ?_
              refine W.loop (σ := Nat × Nat × Nat) (fun s w1 => match s with | (j, r, K) => w.grownBy w1 none ∧ j + r = K ∧ (q = 1 ∧ K = 0 ∨ q ≠ 1 ∧ K = k ∧ (q = 0 → k = 0))) (fun s => match s with | (j, r, K) => [(0, .int .i64 X), (1, .int .i64 ((r : Nat) : Int)), (2, .int .i64 Z), (8, .int .i64 (((prS m (q ^ j)).1 : Nat) : Int)), (9, .int .i64 (((prS m (q ^ j)).2 : Nat) : Int))]) (fun s => match s with | (j, r, K) => r) (0, k, k) ?_ ?_ ?_
              · exact ⟨hB, by omega, by omega⟩
              · exact ⟨iv (by omega), iv (by omega), iv (by omega), iv (by omega), iv (by omega), trivial⟩
              · rintro ⟨j, r, K⟩ w23 ⟨hB, hjr, hK⟩
                have hle := prS_le m (q ^ j)
                have hok := @prS_2 m (q ^ j)
                refine W.seq ?_
                refine W.seq ?_
                refine W.region ?_
                refine WL.move rfl rfl ?_
                refine WL.gtr rfl rfl rfl (fun c24 => ?_) (fun c24 => ?_)
                · refine WL.move rfl rfl ?_
                  refine WL.take rfl ?_
                  refine WL.move rfl rfl ?_
                  refine WL.take rfl ?_
                  refine WL.eql rfl rfl rfl (fun c25 => ?_) (fun c25 => ?_)
                  · refine WL.pick rfl rfl rfl ?_
                    refine WL.done ?_
                    refine W.condT rfl ?_
                    refine W.skip ?_
                    refine W.seq ?_
                    refine W.block ?_
                    have hpr := prS_ok (hok.1 (by omega)); have hp1 : (prS m (q ^ j)).1 = q ^ j := (by rw [hpr]); have hok1 := hok.1 (by omega)
                    · refine W.region ?_
                      refine WL.move rfl rfl ?_
                      refine WL.move rfl rfl ?_
                      refine WL.move rfl rfl ?_
                      refine WL.call Try.func66 rfl Try.nm66 rfl rfl (times_c (q ^ j) (by omega) q (by omega) m (by omega) (by omega) (by omega) (by omega) (by omega)) ?_
                      rintro _ w26 ⟨rfl, hGw26⟩
                      have hB := ext_trans hB hGw26
                      rw [← Nat.pow_succ, Nat.succ_eq_add_one]
                      refine WL.move rfl rfl ?_
                      refine WL.extract rfl rfl rfl ?_
                      refine WL.extract rfl rfl rfl ?_
                      refine WL.assign rfl rfl ?_
                      refine WL.assign rfl rfl ?_
                      refine WL.done ?_
                      refine W.region ?_
                      refine WL.move rfl rfl ?_
                      refine WL.sub (r := ((r - 1 : Nat) : Int)) rfl rfl (wi64 (by omega) (by omega) (by omega)) rfl ?_
                      refine WL.assign rfl rfl ?_
                      refine WL.done ?_
                      refine ⟨(j + 1, r - 1, K), ⟨iv (by omega), iv (by omega), iv (by omega), iv (by omega), iv (by omega), trivial⟩, by (dsimp only; omega), ?_⟩
                      exact ⟨hB, by omega, hK⟩
                  · refine WL.pick rfl rfl rfl ?_
                    refine WL.done ?_
                    refine W.condF rfl ?_
                    refine W.exit ?_
                    refine W.seq ?_
                    refine W.region ?_
                    refine WL.move rfl rfl ?_
                    refine WL.move rfl rfl ?_
                    refine WL.assign rfl rfl ?_
                    refine WL.assign rfl rfl ?_
                    refine WL.done ?_
                    refine W.ret ?_
                    refine ⟨_, rfl, ?_⟩
                    first
                    | (rw [expS_zero (by omega) (by omega)]; exact ⟨rfl, hB⟩)
                    | (rw [hX, hY, hZ, expS_pos (by omega), exp_end hjr hK (by omega)]; exact ⟨rfl, hB⟩)
                · refine WL.move rfl rfl ?_
                  refine WL.pass rfl rfl rfl ?_
                  refine WL.pass rfl rfl rfl ?_
                  refine WL.pick rfl rfl rfl ?_
                  refine WL.done ?_
                  refine W.condF rfl ?_
                  refine W.exit ?_
                  refine W.seq ?_
                  refine W.region ?_
                  refine WL.move rfl rfl ?_
                  refine WL.move rfl rfl ?_
                  refine WL.assign rfl rfl ?_
                  refine WL.assign rfl rfl ?_
                  refine WL.done ?_
                  refine W.ret ?_
                  refine ⟨_, rfl, ?_⟩
                  first
                  | (rw [expS_zero (by omega) (by omega)]; exact ⟨rfl, hB⟩)
                  | (rw [hX, hY, hZ, expS_pos (by omega), exp_end hjr hK (by omega)]; exact ⟨rfl, hB⟩)
        · refine WL.move rfl rfl ?_
          refine WL.pass rfl rfl rfl ?_
          refine WL.pass rfl rfl rfl ?_
          refine WL.pick rfl rfl rfl ?_
          refine WL.done ?_
          refine W.condF rfl ?_
          refine W.skip ?_
          refine W.seq ?_
          refine W.seq ?_
          refine W.region ?_
          refine WL.move rfl rfl ?_
          refine WL.eql rfl rfl rfl (fun c27 => ?_) (fun c27 => ?_)
          · refine WL.done ?_
            refine W.condT rfl ?_
            refine W.region ?_
            refine WL.assign rfl rfl ?_
            refine WL.done ?_
            refine W.seq ?_
            refine W.region ?_
            refine WL.move rfl rfl ?_
            refine WL.call Try.func66 rfl Try.nm66 rfl rfl (times_c 1 rfl 1 rfl m (by omega) (by omega) (by omega) (by omega) (by omega)) ?_
            rintro _ w28 ⟨rfl, hGw28⟩
            have hB := ext_trans hB hGw28
            rw [show 1 * 1 = q ^ 0 from rfl]
            refine WL.move rfl rfl ?_
            refine WL.extract rfl rfl rfl ?_
            refine WL.extract rfl rfl rfl ?_
            refine WL.assign rfl rfl ?_
            refine WL.assign rfl rfl ?_
            refine WL.done ?_
            refine W.seq ?_
            refine W.block ?_
            refine W.loop (σ := Nat × Nat × Nat) (fun s w1 => match s with | (j, r, K) => w.grownBy w1 none ∧ j + r = K ∧ (q = 1 ∧ K = 0 ∨ q ≠ 1 ∧ K = k ∧ (q = 0 → k = 0))) (fun s => match s with | (j, r, K) => [(0, .int .i64 X), (1, .int .i64 ((r : Nat) : Int)), (2, .int .i64 Z), (8, .int .i64 (((prS m (q ^ j)).1 : Nat) : Int)), (9, .int .i64 (((prS m (q ^ j)).2 : Nat) : Int))]) (fun s => match s with | (j, r, K) => r) (0, 0, 0) ?_ ?_ ?_
            · exact ⟨hB, by omega, by omega⟩
            · exact ⟨iv (by omega), iv (by omega), iv (by omega), iv (by omega), iv (by omega), trivial⟩
            · rintro ⟨j, r, K⟩ w29 ⟨hB, hjr, hK⟩
              have hle := prS_le m (q ^ j)
              have hok := @prS_2 m (q ^ j)
              refine W.seq ?_
              refine W.seq ?_
              refine W.region ?_
              refine WL.move rfl rfl ?_
              refine WL.gtr rfl rfl rfl (fun c30 => ?_) (fun c30 => ?_)
              · refine WL.move rfl rfl ?_
                refine WL.take rfl ?_
                refine WL.move rfl rfl ?_
                refine WL.take rfl ?_
                refine WL.eql rfl rfl rfl (fun c31 => ?_) (fun c31 => ?_)
                · refine WL.pick rfl rfl rfl ?_
                  refine WL.done ?_
                  refine W.condT rfl ?_
                  refine W.skip ?_
                  refine W.seq ?_
                  refine W.block ?_
                  have hpr := prS_ok (hok.1 (by omega)); have hp1 : (prS m (q ^ j)).1 = q ^ j := (by rw [hpr]); have hok1 := hok.1 (by omega)
                  · refine W.region ?_
                    refine WL.move rfl rfl ?_
                    refine WL.move rfl rfl ?_
                    refine WL.move rfl rfl ?_
                    refine WL.call Try.func66 rfl Try.nm66 rfl rfl (times_c (q ^ j) (by omega) q (by omega) m (by omega) (by omega) (by omega) (by omega) (by omega)) ?_
                    rintro _ w32 ⟨rfl, hGw32⟩
                    have hB := ext_trans hB hGw32
                    rw [← Nat.pow_succ, Nat.succ_eq_add_one]
                    refine WL.move rfl rfl ?_
                    refine WL.extract rfl rfl rfl ?_
                    refine WL.extract rfl rfl rfl ?_
                    refine WL.assign rfl rfl ?_
                    refine WL.assign rfl rfl ?_
                    refine WL.done ?_
                    refine W.region ?_
                    refine WL.move rfl rfl ?_
                    refine WL.sub (r := ((r - 1 : Nat) : Int)) rfl rfl (wi64 (by omega) (by omega) (by omega)) rfl ?_
                    refine WL.assign rfl rfl ?_
                    refine WL.done ?_
                    refine ⟨(j + 1, r - 1, K), ⟨iv (by omega), iv (by omega), iv (by omega), iv (by omega), iv (by omega), trivial⟩, by (dsimp only; omega), ?_⟩
                    exact ⟨hB, by omega, hK⟩
                · refine WL.pick rfl rfl rfl ?_
                  refine WL.done ?_
                  refine W.condF rfl ?_
                  refine W.exit ?_
                  refine W.seq ?_
                  refine W.region ?_
                  refine WL.move rfl rfl ?_
                  refine WL.move rfl rfl ?_
                  refine WL.assign rfl rfl ?_
                  refine WL.assign rfl rfl ?_
                  refine WL.done ?_
                  refine W.ret ?_
                  refine ⟨_, rfl, ?_⟩
                  first
                  | (rw [expS_zero (by omega) (by omega)]; exact ⟨rfl, hB⟩)
                  | (rw [hX, hY, hZ, expS_pos (by omega), exp_end hjr hK (by omega)]; exact ⟨rfl, hB⟩)
              · refine WL.move rfl rfl ?_
                refine WL.pass rfl rfl rfl ?_
                refine WL.pass rfl rfl rfl ?_
                refine WL.pick rfl rfl rfl ?_
                refine WL.done ?_
                refine W.condF rfl ?_
                refine W.exit ?_
                refine W.seq ?_
                refine W.region ?_
                refine WL.move rfl rfl ?_
                refine WL.move rfl rfl ?_
                refine WL.assign rfl rfl ?_
                refine WL.assign rfl rfl ?_
                refine WL.done ?_
                refine W.ret ?_
                refine ⟨_, rfl, ?_⟩
                first
                | (rw [expS_zero (by omega) (by omega)]; exact ⟨rfl, hB⟩)
                | (rw [hX, hY, hZ, expS_pos (by omega), exp_end hjr hK (by omega)]; exact ⟨rfl, hB⟩)
          · refine WL.done ?_
            refine W.condF rfl ?_
            refine W.skip ?_
            refine W.seq ?_
            refine W.region ?_
            refine WL.move rfl rfl ?_
            refine WL.call Try.func66 rfl Try.nm66 rfl rfl (times_c 1 rfl 1 rfl m (by omega) (by omega) (by omega) (by omega) (by omega)) ?_
            rintro _ w33 ⟨rfl, hGw33⟩
            have hB := ext_trans hB hGw33
            rw [show 1 * 1 = q ^ 0 from rfl]
            refine WL.move rfl rfl ?_
            refine WL.extract rfl rfl rfl ?_
            refine WL.extract rfl rfl rfl ?_
            refine WL.assign rfl rfl ?_
            refine WL.assign rfl rfl ?_
            refine WL.done ?_
            refine W.seq ?_
            refine W.block ?_
            refine W.loop (σ := Nat × Nat × Nat) (fun s w1 => match s with | (j, r, K) => w.grownBy w1 none ∧ j + r = K ∧ (q = 1 ∧ K = 0 ∨ q ≠ 1 ∧ K = k ∧ (q = 0 → k = 0))) (fun s => match s with | (j, r, K) => [(0, .int .i64 X), (1, .int .i64 ((r : Nat) : Int)), (2, .int .i64 Z), (8, .int .i64 (((prS m (q ^ j)).1 : Nat) : Int)), (9, .int .i64 (((prS m (q ^ j)).2 : Nat) : Int))]) (fun s => match s with | (j, r, K) => r) (0, k, k) ?_ ?_ ?_
            · exact ⟨hB, by omega, by omega⟩
            · exact ⟨iv (by omega), iv (by omega), iv (by omega), iv (by omega), iv (by omega), trivial⟩
            · rintro ⟨j, r, K⟩ w34 ⟨hB, hjr, hK⟩
              have hle := prS_le m (q ^ j)
              have hok := @prS_2 m (q ^ j)
              refine W.seq ?_
              refine W.seq ?_
              refine W.region ?_
              refine WL.move rfl rfl ?_
              refine WL.gtr rfl rfl rfl (fun c35 => ?_) (fun c35 => ?_)
              · refine WL.move rfl rfl ?_
                refine WL.take rfl ?_
                refine WL.move rfl rfl ?_
                refine WL.take rfl ?_
                refine WL.eql rfl rfl rfl (fun c36 => ?_) (fun c36 => ?_)
                · refine WL.pick rfl rfl rfl ?_
                  refine WL.done ?_
                  refine W.condT rfl ?_
                  refine W.skip ?_
                  refine W.seq ?_
                  refine W.block ?_
                  have hpr := prS_ok (hok.1 (by omega)); have hp1 : (prS m (q ^ j)).1 = q ^ j := (by rw [hpr]); have hok1 := hok.1 (by omega)
                  · refine W.region ?_
                    refine WL.move rfl rfl ?_
                    refine WL.move rfl rfl ?_
                    refine WL.move rfl rfl ?_
                    refine WL.call Try.func66 rfl Try.nm66 rfl rfl (times_c (q ^ j) (by omega) q (by omega) m (by omega) (by omega) (by omega) (by omega) (by omega)) ?_
                    rintro _ w37 ⟨rfl, hGw37⟩
                    have hB := ext_trans hB hGw37
                    rw [← Nat.pow_succ, Nat.succ_eq_add_one]
                    refine WL.move rfl rfl ?_
                    refine WL.extract rfl rfl rfl ?_
                    refine WL.extract rfl rfl rfl ?_
                    refine WL.assign rfl rfl ?_
                    refine WL.assign rfl rfl ?_
                    refine WL.done ?_
                    refine W.region ?_
                    refine WL.move rfl rfl ?_
                    refine WL.sub (r := ((r - 1 : Nat) : Int)) rfl rfl (wi64 (by omega) (by omega) (by omega)) rfl ?_
                    refine WL.assign rfl rfl ?_
                    refine WL.done ?_
                    refine ⟨(j + 1, r - 1, K), ⟨iv (by omega), iv (by omega), iv (by omega), iv (by omega), iv (by omega), trivial⟩, by (dsimp only; omega), ?_⟩
                    exact ⟨hB, by omega, hK⟩
                · refine WL.pick rfl rfl rfl ?_
                  refine WL.done ?_
                  refine W.condF rfl ?_
                  refine W.exit ?_
                  refine W.seq ?_
                  refine W.region ?_
                  refine WL.move rfl rfl ?_
                  refine WL.move rfl rfl ?_
                  refine WL.assign rfl rfl ?_
                  refine WL.assign rfl rfl ?_
                  refine WL.done ?_
                  refine W.ret ?_
                  refine ⟨_, rfl, ?_⟩
                  first
                  | (rw [expS_zero (by omega) (by omega)]; exact ⟨rfl, hB⟩)
                  | (rw [hX, hY, hZ, expS_pos (by omega), exp_end hjr hK (by omega)]; exact ⟨rfl, hB⟩)
              · refine WL.move rfl rfl ?_
                refine WL.pass rfl rfl rfl ?_
                refine WL.pass rfl rfl rfl ?_
                refine WL.pick rfl rfl rfl ?_
                refine WL.done ?_
                refine W.condF rfl ?_
                refine W.exit ?_
                refine W.seq ?_
                refine W.region ?_
                refine WL.move rfl rfl ?_
                refine WL.move rfl rfl ?_
                refine WL.assign rfl rfl ?_
                refine WL.assign rfl rfl ?_
                refine WL.done ?_
                refine W.ret ?_
                refine ⟨_, rfl, ?_⟩
                first
                | (rw [expS_zero (by omega) (by omega)]; exact ⟨rfl, hB⟩)
                | (rw [hX, hY, hZ, expS_pos (by omega), exp_end hjr hK (by omega)]; exact ⟨rfl, hB⟩)

theorem Exp_c {w : World} {X : Int} (hX : -9223372036854775808 ≤ X ∧ X ≤ 9223372036854775807) {Y : Int} (hY : -9223372036854775808 ≤ Y ∧ Y ≤ 9223372036854775807) {Z : Int} (hZ : -9223372036854775808 ≤ Z ∧ Z ≤ 9223372036854775807) : Calls Try.prog 17 #[.int .i64 X, .int .i64 Y, .int .i64 Z] w fun e w2 => ∃ v, e = .returned v ∧ (fun v w2 => v = .tuple #[.int .i64 (((expS X Y Z).1 : Nat) : Int), .int .i64 (((expS X Y Z).2 : Nat) : Int)] ∧ w.grownBy w2 none) v w2 := by
  by_cases h : X < 0 ∨ Y < 0 ∨ Z < 0
  · exact Exp_neg hX hY hZ h
  · exact Exp_nn X.toNat (by omega) Y.toNat (by omega) Z.toNat (by omega) (by omega) (by omega) (by omega)

theorem Choose_neg {w : World} {X : Int} (hX : -9223372036854775808 ≤ X ∧ X ≤ 9223372036854775807) {Y : Int} (hY : -9223372036854775808 ≤ Y ∧ Y ≤ 9223372036854775807) {Z : Int} (hZ : -9223372036854775808 ≤ Z ∧ Z ≤ 9223372036854775807) (hng : X < 0 ∨ Y < 0 ∨ Z < 0) :
    Calls Try.prog 16 #[.int .i64 X, .int .i64 Y, .int .i64 Z] w fun e w2 => ∃ v, e = .returned v ∧ (fun v w2 => v = .tuple #[.int .i64 (((chooseS X Y Z).1 : Nat) : Int), .int .i64 (((chooseS X Y Z).2 : Nat) : Int)] ∧ w.grownBy w2 none) v w2 := by
  have hB := ext_refl w
  refine calls_of_W (vs := [.int .i64 X, .int .i64 Y, .int .i64 Z]) [6, 7] Try.func16 rfl rfl rfl rfl ?_
  refine W.seq ?_
  refine W.region ?_
  refine WL.assign rfl rfl ?_
  refine WL.assign rfl rfl ?_
  refine WL.done ?_
  refine W.seq ?_
  refine W.seq ?_
  refine W.region ?_
  refine WL.move rfl rfl ?_
  refine WL.lss rfl rfl rfl (fun c11 => ?_) (fun c11 => ?_)
  · refine WL.move rfl rfl ?_
    refine WL.pass rfl rfl rfl ?_
    refine WL.pass rfl rfl rfl ?_
    refine WL.pick rfl rfl rfl ?_
    refine WL.move rfl rfl ?_
    refine WL.pass rfl rfl rfl ?_
    refine WL.pass rfl rfl rfl ?_
    refine WL.pick rfl rfl rfl ?_
    refine WL.done ?_
    refine W.condT rfl ?_
    refine W.seq ?_
    refine W.region ?_
    refine WL.assign rfl rfl ?_
    refine WL.assign rfl rfl ?_
    refine WL.done ?_
    refine W.ret ?_
    refine ⟨_, rfl, ?_⟩
    rw [chooseS_neg hng]
    exact ⟨rfl, hB⟩
  · refine WL.move rfl rfl ?_
    refine WL.take rfl ?_
    refine WL.move rfl rfl ?_
    refine WL.take rfl ?_
    refine WL.lss rfl rfl rfl (fun c12 => ?_) (fun c12 => ?_)
    · refine WL.pick rfl rfl rfl ?_
      refine WL.move rfl rfl ?_
      refine WL.pass rfl rfl rfl ?_
      refine WL.pass rfl rfl rfl ?_
      refine WL.pick rfl rfl rfl ?_
      refine WL.done ?_
      refine W.condT rfl ?_
      refine W.seq ?_
      refine W.region ?_
      refine WL.assign rfl rfl ?_
      refine WL.assign rfl rfl ?_
      refine WL.done ?_
      refine W.ret ?_
      refine ⟨_, rfl, ?_⟩
      rw [chooseS_neg hng]
      exact ⟨rfl, hB⟩
    · refine WL.pick rfl rfl rfl ?_
      refine WL.move rfl rfl ?_
      refine WL.take rfl ?_
      refine WL.move rfl rfl ?_
      refine WL.take rfl ?_
      refine WL.lss rfl rfl rfl (fun c13 => ?_) (fun c13 => ?_)
      · refine WL.pick rfl rfl rfl ?_
        refine WL.done ?_
        refine W.condT rfl ?_
        refine W.seq ?_
        refine W.region ?_
        refine WL.assign rfl rfl ?_
        refine WL.assign rfl rfl ?_
        refine WL.done ?_
        refine W.ret ?_
        refine ⟨_, rfl, ?_⟩
        rw [chooseS_neg hng]
        exact ⟨rfl, hB⟩
      · exfalso
        omega

theorem Choose_nn {w : World} (q : Nat) {X : Int} (hX : X = q) (k : Nat) {Y : Int} (hY : Y = k) (m : Nat) {Z : Int} (hZ : Z = m) (hq : q < 9223372036854775808) (hk : k < 9223372036854775808) (hm : m < 9223372036854775808) :
    Calls Try.prog 16 #[.int .i64 X, .int .i64 Y, .int .i64 Z] w fun e w2 => ∃ v, e = .returned v ∧ (fun v w2 => v = .tuple #[.int .i64 (((chooseS X Y Z).1 : Nat) : Int), .int .i64 (((chooseS X Y Z).2 : Nat) : Int)] ∧ w.grownBy w2 none) v w2 := by
  have hB := ext_refl w
  refine calls_of_W (vs := [.int .i64 X, .int .i64 Y, .int .i64 Z]) [6, 7] Try.func16 rfl rfl rfl rfl ?_
  refine W.seq ?_
  refine W.region ?_
  refine WL.assign rfl rfl ?_
  refine WL.assign rfl rfl ?_
  refine WL.done ?_
  refine W.seq ?_
  refine W.seq ?_
  refine W.region ?_
  refine WL.move rfl rfl ?_
  refine WL.lss rfl rfl rfl (fun c11 => ?_) (fun c11 => ?_)
  · exfalso
    omega
  · refine WL.move rfl rfl ?_
    refine WL.take rfl ?_
    refine WL.move rfl rfl ?_
    refine WL.take rfl ?_
    refine WL.lss rfl rfl rfl (fun c12 => ?_) (fun c12 => ?_)
    · exfalso
      omega
    · refine WL.pick rfl rfl rfl ?_
      refine WL.move rfl rfl ?_
      refine WL.take rfl ?_
      refine WL.move rfl rfl ?_
      refine WL.take rfl ?_
      refine WL.lss rfl rfl rfl (fun c13 => ?_) (fun c13 => ?_)
      · exfalso
        omega
      · refine WL.pick rfl rfl rfl ?_
        refine WL.done ?_
        refine W.condF rfl ?_
        refine W.skip ?_
        refine W.seq ?_
        refine W.seq ?_
        refine W.region ?_
        refine WL.move rfl rfl ?_
        refine WL.move rfl rfl ?_
        refine WL.gtr rfl rfl rfl (fun c14 => ?_) (fun c14 => ?_)
        · refine WL.done ?_
          refine W.condT rfl ?_
          refine W.seq ?_
          refine W.region ?_
          refine WL.assign rfl rfl ?_
          refine WL.assign rfl rfl ?_
          refine WL.done ?_
          refine W.ret ?_
          refine ⟨_, rfl, ?_⟩
          first
          | (rw [chooseS_zero (by omega) (by omega)]; exact ⟨rfl, hB⟩)
          | (have hie : i = min k (q - k) := by omega
             rw [hX, hY, hZ, chooseS_pos (by omega), ← hce, hie]; exact ⟨rfl, hB⟩)
          | (rw [hX, hY, hZ, chooseS_pos (by omega), prS_big (show m < choose q k by omega), prS_big (show m < choose (q - min k (q - k) + i) i by omega)]; exact ⟨rfl, hB⟩)
        · refine WL.done ?_
          refine W.condF rfl ?_
          refine W.skip ?_
          refine W.seq ?_
          refine W.region ?_
          refine WL.move rfl rfl ?_
          refine WL.move rfl rfl ?_
          refine WL.move rfl rfl ?_
          refine WL.sub (r := ((q - k : Nat) : Int)) rfl rfl (wi64 (by omega) (by omega) (by omega)) rfl ?_
          refine WL.min2 (r := ((min k (q - k) : Nat) : Int)) rfl rfl (by omega) rfl ?_
          refine WL.assign rfl rfl ?_
          refine WL.done ?_
          refine W.seq ?_
          refine W.region ?_
          refine WL.move rfl rfl ?_
          refine WL.call Try.func66 rfl Try.nm66 rfl rfl (times_c 1 rfl 1 rfl m (by omega) (by omega) (by omega) (by omega) (by omega)) ?_
          rintro _ w15 ⟨rfl, hGw15⟩
          have hB := ext_trans hB hGw15
          rw [show 1 * 1 = choose (q - min k (q - k) + 0) 0 from (choose_zero _).symm]
          refine WL.move rfl rfl ?_
          refine WL.extract rfl rfl rfl ?_
          refine WL.extract rfl rfl rfl ?_
          refine WL.assign rfl rfl ?_
          refine WL.assign rfl rfl ?_
          refine WL.done ?_
          refine W.seq ?_
          refine W.seq ?_
          refine W.region ?_
          refine WL.assign rfl rfl ?_
          refine WL.done ?_
          refine W.block ?_
          refine W.loop (σ := Nat) (fun i w1 => w.grownBy w1 none ∧ i ≤ min k (q - k)) (fun i => [(0, .int .i64 X), (1, .int .i64 ((min k (q - k) : Nat) : Int)), (2, .int .i64 Z), (8, .int .i64 (((prS m (choose (q - min k (q - k) + i) i)).1 : Nat) : Int)), (9, .int .i64 (((prS m (choose (q - min k (q - k) + i) i)).2 : Nat) : Int)), (10, .int .i64 ((i + 1 : Nat) : Int))]) (fun i => min k (q - k) - i) 0 ?_ ?_ ?_
          · exact ⟨hB, by omega⟩
          · exact ⟨iv (by omega), iv (by omega), iv (by omega), iv (by omega), iv (by omega), iv (by omega), trivial⟩
          · rintro i w16 ⟨hB, hi⟩
            have hle := prS_le m (choose (q - min k (q - k) + i) i)
            have hok := @prS_2 m (choose (q - min k (q - k) + i) i)
            have hcm := choose_mono (q - min k (q - k)) hi
            have hce : choose (q - min k (q - k) + min k (q - k)) (min k (q - k)) = choose q k := by rw [show q - min k (q - k) + min k (q - k) = q by omega]; exact choose_min (by omega)
            refine W.seq ?_
            refine W.seq ?_
            refine W.region ?_
            refine WL.move rfl rfl ?_
            refine WL.move rfl rfl ?_
            refine WL.leq rfl rfl rfl (fun c17 => ?_) (fun c17 => ?_)
            · refine WL.move rfl rfl ?_
              refine WL.take rfl ?_
              refine WL.move rfl rfl ?_
              refine WL.take rfl ?_
              refine WL.eql rfl rfl rfl (fun c18 => ?_) (fun c18 => ?_)
              · refine WL.pick rfl rfl rfl ?_
                refine WL.done ?_
                refine W.condT rfl ?_
                refine W.skip ?_
                refine W.seq ?_
                refine W.block ?_
                refine W.seq ?_
                have hok1 := hok.1 (by omega); have hpr := prS_ok hok1; have hp1 : (prS m (choose (q - min k (q - k) + i) i)).1 = choose (q - min k (q - k) + i) i := (by rw [hpr]); have hcp : 0 < choose (q - min k (q - k) + i) i := choose_pos (by omega); obtain ⟨hdv, hip, hval⟩ := choose_red (c := choose (q - min k (q - k) + i) i) (i := i + 1) (s := q - min k (q - k) + i + 1) (by omega) hcp (choose_step (q - min k (q - k)) i); have hgp : 0 < Nat.gcd (choose (q - min k (q - k) + i) i) (i + 1) := Nat.gcd_pos_of_pos_right _ (by omega); have hd1 := Nat.div_le_self (choose (q - min k (q - k) + i) i) (Nat.gcd (choose (q - min k (q - k) + i) i) (i + 1)); have hd2 := Nat.div_le_self (i + 1) (Nat.gcd (choose (q - min k (q - k) + i) i) (i + 1)); have hd3 := Nat.div_le_self (q - min k (q - k) + i + 1) ((i + 1) / Nat.gcd (choose (q - min k (q - k) + i) i) (i + 1)); have hup : 0 < (q - min k (q - k) + i + 1) / ((i + 1) / Nat.gcd (choose (q - min k (q - k) + i) i) (i + 1)) := Nat.div_pos (Nat.le_of_dvd (by omega) hdv) hip
                · refine W.region ?_
                  refine WL.move rfl rfl ?_
                  refine WL.move rfl rfl ?_
                  refine WL.call Try.func67 rfl Try.nm67 rfl rfl (cofactor_c (choose (q - min k (q - k) + i) i) (by omega) (i + 1) (by omega) (by omega) (by omega)) ?_
                  rintro _ w19 ⟨hZ0, rfl, hGw19, hZd, hZl, hZh⟩
                  have hB := ext_trans hB hGw19
                  refine WL.move rfl rfl ?_
                  refine WL.extract rfl rfl rfl ?_
                  refine WL.extract rfl rfl rfl ?_
                  refine WL.assign rfl rfl ?_
                  refine WL.assign rfl rfl ?_
                  refine WL.done ?_
                  refine W.drawT 18 [⟨[], [8], true⟩, ⟨[], [11], true⟩, ⟨[0, 1], [], true⟩, ⟨[], [0], true⟩, ⟨[], [1], true⟩, ⟨[3, 4], [], true⟩, ⟨[], [10], true⟩, ⟨[5, 6], [], true⟩, ⟨[], [10], true⟩, ⟨[], [11], true⟩, ⟨[8, 9], [], true⟩, ⟨[7, 10], [], true⟩, ⟨[], [2], true⟩, ⟨[2, 11, 12], [], false⟩, ⟨[13], [], true⟩, ⟨[14], [], true⟩, ⟨[14], [], true⟩, ⟨[15], [], true⟩] [[(8, .int .i64 (((prS m (choose (q - min k (q - k) + i) i)).1 : Nat) : Int))], [(11, .int .i64 ((Nat.gcd (choose (q - min k (q - k) + i) i) (i + 1) : Nat) : Int))], [], [(0, .int .i64 X)], [(1, .int .i64 ((min k (q - k) : Nat) : Int))], [], [(10, .int .i64 ((i + 1 : Nat) : Int))], [], [(10, .int .i64 ((i + 1 : Nat) : Int))], [(11, .int .i64 ((Nat.gcd (choose (q - min k (q - k) + i) i) (i + 1) : Nat) : Int))], [], [], [(2, .int .i64 Z)], [], [], [], [], []] (fun iQ => [fun v wQ => v = .int .i64 (((prS m (choose (q - min k (q - k) + i) i)).1 : Nat) : Int), fun v wQ => v = .int .i64 ((Nat.gcd (choose (q - min k (q - k) + i) i) (i + 1) : Nat) : Int), fun v wQ => v = .int .i64 (((choose (q - min k (q - k) + i) i) / Nat.gcd (choose (q - min k (q - k) + i) i) (i + 1) : Nat) : Int), fun v wQ => v = .int .i64 X, fun v wQ => v = .int .i64 ((min k (q - k) : Nat) : Int), fun v wQ => v = .int .i64 ((q - min k (q - k) : Nat) : Int), fun v wQ => v = .int .i64 ((i + 1 : Nat) : Int), fun v wQ => v = .int .i64 ((q - min k (q - k) + i + 1 : Nat) : Int), fun v wQ => v = .int .i64 ((i + 1 : Nat) : Int), fun v wQ => v = .int .i64 ((Nat.gcd (choose (q - min k (q - k) + i) i) (i + 1) : Nat) : Int), fun v wQ => v = .int .i64 (((i + 1) / Nat.gcd (choose (q - min k (q - k) + i) i) (i + 1) : Nat) : Int), fun v wQ => v = .int .i64 (((q - min k (q - k) + i + 1) / ((i + 1) / Nat.gcd (choose (q - min k (q - k) + i) i) (i + 1)) : Nat) : Int), fun v wQ => v = .int .i64 Z, fun v wQ => v = .tuple #[.int .i64 (((prS m (choose (q - min k (q - k) + (i + 1)) (i + 1))).1 : Nat) : Int), .int .i64 (((prS m (choose (q - min k (q - k) + (i + 1)) (i + 1))).2 : Nat) : Int)], fun v wQ => v = .tuple #[.int .i64 (((prS m (choose (q - min k (q - k) + (i + 1)) (i + 1))).1 : Nat) : Int), .int .i64 (((prS m (choose (q - min k (q - k) + (i + 1)) (i + 1))).2 : Nat) : Int)], fun v wQ => v = .int .i64 (((prS m (choose (q - min k (q - k) + (i + 1)) (i + 1))).1 : Nat) : Int), fun v wQ => v = .int .i64 (((prS m (choose (q - min k (q - k) + (i + 1)) (i + 1))).2 : Nat) : Int), fun v wQ => v = .int .i64 (((prS m (choose (q - min k (q - k) + (i + 1)) (i + 1))).1 : Nat) : Int)].getD iQ (fun _ _ => True)) Try.mixed (by kernel_rfl) ?_ ?_ ?_
                  · refine Vs_monoT _ ?_
                    intro VQ hVQ vQ wQ1 wQ2 hQ1 hQ2
                    simp only [List.mem_cons, List.not_mem_nil, or_false] at hVQ
                    rcases hVQ with rfl | rfl | rfl | rfl | rfl | rfl | rfl | rfl | rfl | rfl | rfl | rfl | rfl | rfl | rfl | rfl | rfl | rfl
                    · exact hQ1
                    · exact hQ1
                    · exact hQ1
                    · exact hQ1
                    · exact hQ1
                    · exact hQ1
                    · exact hQ1
                    · exact hQ1
                    · exact hQ1
                    · exact hQ1
                    · exact hQ1
                    · exact hQ1
                    · exact hQ1
                    · exact hQ1
                    · exact hQ1
                    · exact hQ1
                    · exact hQ1
                    · exact hQ1
                  · refine ⟨⟨rfl, ⟨rfl, trivial⟩, ?_⟩, ⟨rfl, ⟨rfl, trivial⟩, ?_⟩, ⟨rfl, trivial, ?_⟩, ⟨rfl, ⟨rfl, trivial⟩, ?_⟩, ⟨rfl, ⟨rfl, trivial⟩, ?_⟩, ⟨rfl, trivial, ?_⟩, ⟨rfl, ⟨rfl, trivial⟩, ?_⟩, ⟨rfl, trivial, ?_⟩, ⟨rfl, ⟨rfl, trivial⟩, ?_⟩, ⟨rfl, ⟨rfl, trivial⟩, ?_⟩, ⟨rfl, trivial, ?_⟩, ⟨rfl, trivial, ?_⟩, ⟨rfl, ⟨rfl, trivial⟩, ?_⟩, ⟨rfl, trivial, ?_⟩, ⟨rfl, trivial, ?_⟩, ⟨rfl, trivial, ?_⟩, ⟨rfl, trivial, ?_⟩, ⟨rfl, trivial, ?_⟩, trivial⟩
                    · intro w20 hE
                      intro R
                      refine WL.move rfl rfl ?_
                      exact WL.done ⟨_, rfl, rfl, rfl⟩
                    · intro w21 hE
                      intro R
                      refine WL.move rfl rfl ?_
                      exact WL.done ⟨_, rfl, rfl, rfl⟩
                    · intro w22 hE
                      rintro _ rfl
                      rintro _ rfl
                      intro R
                      refine WL.quo (r := (((choose (q - min k (q - k) + i) i) / Nat.gcd (choose (q - min k (q - k) + i) i) (i + 1) : Nat) : Int)) rfl rfl (by omega) (qi64 (a := choose (q - min k (q - k) + i) i) (by omega) (by omega) (by omega)) rfl ?_
                      exact WL.done ⟨_, rfl, rfl, rfl⟩
                    · intro w23 hE
                      intro R
                      refine WL.move rfl rfl ?_
                      exact WL.done ⟨_, rfl, rfl, rfl⟩
                    · intro w24 hE
                      intro R
                      refine WL.move rfl rfl ?_
                      exact WL.done ⟨_, rfl, rfl, rfl⟩
                    · intro w25 hE
                      rintro _ rfl
                      rintro _ rfl
                      intro R
                      refine WL.sub (r := ((q - min k (q - k) : Nat) : Int)) rfl rfl (wi64 (by omega) (by omega) (by omega)) rfl ?_
                      exact WL.done ⟨_, rfl, rfl, rfl⟩
                    · intro w26 hE
                      intro R
                      refine WL.move rfl rfl ?_
                      exact WL.done ⟨_, rfl, rfl, rfl⟩
                    · intro w27 hE
                      rintro _ rfl
                      rintro _ rfl
                      intro R
                      refine WL.add (r := ((q - min k (q - k) + i + 1 : Nat) : Int)) rfl rfl (wi64 (by omega) (by omega) (by omega)) rfl ?_
                      exact WL.done ⟨_, rfl, rfl, rfl⟩
                    · intro w28 hE
                      intro R
                      refine WL.move rfl rfl ?_
                      exact WL.done ⟨_, rfl, rfl, rfl⟩
                    · intro w29 hE
                      intro R
                      refine WL.move rfl rfl ?_
                      exact WL.done ⟨_, rfl, rfl, rfl⟩
                    · intro w30 hE
                      rintro _ rfl
                      rintro _ rfl
                      intro R
                      refine WL.quo (r := (((i + 1) / Nat.gcd (choose (q - min k (q - k) + i) i) (i + 1) : Nat) : Int)) rfl rfl (by omega) (qi64 (by omega) (by omega) (by omega)) rfl ?_
                      exact WL.done ⟨_, rfl, rfl, rfl⟩
                    · intro w31 hE
                      rintro _ rfl
                      rintro _ rfl
                      intro R
                      refine WL.quo (r := (((q - min k (q - k) + i + 1) / ((i + 1) / Nat.gcd (choose (q - min k (q - k) + i) i) (i + 1)) : Nat) : Int)) rfl rfl (by omega) (qi64 (by omega) (by omega) (by omega)) rfl ?_
                      exact WL.done ⟨_, rfl, rfl, rfl⟩
                    · intro w32 hE
                      intro R
                      refine WL.move rfl rfl ?_
                      exact WL.done ⟨_, rfl, rfl, rfl⟩
                    · intro w33 hE
                      have hE := hE rfl
                      have hB := ext_trans hB hE
                      rintro _ rfl
                      rintro _ rfl
                      rintro _ rfl
                      intro R
                      refine WL.call Try.func66 rfl Try.nm66 rfl rfl (times_c ((choose (q - min k (q - k) + i) i) / Nat.gcd (choose (q - min k (q - k) + i) i) (i + 1)) (by omega) ((q - min k (q - k) + i + 1) / ((i + 1) / Nat.gcd (choose (q - min k (q - k) + i) i) (i + 1))) (by omega) m (by omega) (by omega) (by omega) (by omega) (by omega)) ?_
                      rintro _ w34 ⟨rfl, hGw34⟩
                      have hB := ext_trans hB hGw34
                      rw [hval, show q - min k (q - k) + i + 1 = q - min k (q - k) + (i + 1) from rfl]
                      exact WL.done ⟨_, rfl, hGw34, rfl⟩
                    · intro w35 hE
                      rintro _ rfl
                      intro R
                      refine WL.move rfl rfl ?_
                      exact WL.done ⟨_, rfl, rfl, rfl⟩
                    · intro w36 hE
                      rintro _ rfl
                      intro R
                      refine WL.extract rfl rfl rfl ?_
                      exact WL.done ⟨_, rfl, rfl, rfl⟩
                    · intro w37 hE
                      rintro _ rfl
                      intro R
                      refine WL.extract rfl rfl rfl ?_
                      exact WL.done ⟨_, rfl, rfl, rfl⟩
                    · intro w38 hE
                      rintro _ rfl
                      intro R
                      refine WL.assign rfl rfl ?_
                      exact WL.done ⟨_, rfl, rfl, rfl⟩
                  · intro vals w39 hT hVs
                    have hB := ext_trans hB hT
                    have hv0 : vals 0 = _ := hVs 0 (by decide)
                    have hv1 : vals 1 = _ := hVs 1 (by decide)
                    have hv2 : vals 2 = _ := hVs 2 (by decide)
                    have hv3 : vals 3 = _ := hVs 3 (by decide)
                    have hv4 : vals 4 = _ := hVs 4 (by decide)
                    have hv5 : vals 5 = _ := hVs 5 (by decide)
                    have hv6 : vals 6 = _ := hVs 6 (by decide)
                    have hv7 : vals 7 = _ := hVs 7 (by decide)
                    have hv8 : vals 8 = _ := hVs 8 (by decide)
                    have hv9 : vals 9 = _ := hVs 9 (by decide)
                    have hv10 : vals 10 = _ := hVs 10 (by decide)
                    have hv11 : vals 11 = _ := hVs 11 (by decide)
                    have hv12 : vals 12 = _ := hVs 12 (by decide)
                    have hv13 : vals 13 = _ := hVs 13 (by decide)
                    have hv14 : vals 14 = _ := hVs 14 (by decide)
                    have hv15 : vals 15 = _ := hVs 15 (by decide)
                    have hv16 : vals 16 = _ := hVs 16 (by decide)
                    have hv17 : vals 17 = _ := hVs 17 (by decide)
                    rw [show (List.filterMap (fun i => Option.map (fun t => (t, vals i)) (dstAt _ i)) (List.range _)) = [(52, .int .i64 (((prS m (choose (q - min k (q - k) + i) i)).1 : Nat) : Int)), (53, .int .i64 ((Nat.gcd (choose (q - min k (q - k) + i) i) (i + 1) : Nat) : Int)), (54, .int .i64 (((choose (q - min k (q - k) + i) i) / Nat.gcd (choose (q - min k (q - k) + i) i) (i + 1) : Nat) : Int)), (55, .int .i64 X), (56, .int .i64 ((min k (q - k) : Nat) : Int)), (57, .int .i64 ((q - min k (q - k) : Nat) : Int)), (58, .int .i64 ((i + 1 : Nat) : Int)), (59, .int .i64 ((q - min k (q - k) + i + 1 : Nat) : Int)), (60, .int .i64 ((i + 1 : Nat) : Int)), (61, .int .i64 ((Nat.gcd (choose (q - min k (q - k) + i) i) (i + 1) : Nat) : Int)), (62, .int .i64 (((i + 1) / Nat.gcd (choose (q - min k (q - k) + i) i) (i + 1) : Nat) : Int)), (63, .int .i64 (((q - min k (q - k) + i + 1) / ((i + 1) / Nat.gcd (choose (q - min k (q - k) + i) i) (i + 1)) : Nat) : Int)), (64, .int .i64 Z), (65, .tuple #[.int .i64 (((prS m (choose (q - min k (q - k) + (i + 1)) (i + 1))).1 : Nat) : Int), .int .i64 (((prS m (choose (q - min k (q - k) + (i + 1)) (i + 1))).2 : Nat) : Int)]), (51, .tuple #[.int .i64 (((prS m (choose (q - min k (q - k) + (i + 1)) (i + 1))).1 : Nat) : Int), .int .i64 (((prS m (choose (q - min k (q - k) + (i + 1)) (i + 1))).2 : Nat) : Int)]), (66, .int .i64 (((prS m (choose (q - min k (q - k) + (i + 1)) (i + 1))).1 : Nat) : Int)), (67, .int .i64 (((prS m (choose (q - min k (q - k) + (i + 1)) (i + 1))).2 : Nat) : Int)), (8, .int .i64 (((prS m (choose (q - min k (q - k) + (i + 1)) (i + 1))).1 : Nat) : Int))] from by
                      show [(52, vals 0), (53, vals 1), (54, vals 2), (55, vals 3), (56, vals 4), (57, vals 5), (58, vals 6), (59, vals 7), (60, vals 8), (61, vals 9), (62, vals 10), (63, vals 11), (64, vals 12), (65, vals 13), (51, vals 14), (66, vals 15), (67, vals 16), (8, vals 17)] = _
                      rw [hv0, hv1, hv2, hv3, hv4, hv5, hv6, hv7, hv8, hv9, hv10, hv11, hv12, hv13, hv14, hv15, hv16, hv17]]
                    refine WA.step [18] (by decide +kernel) rfl ?_
                    intro iQ hQ
                    simp only [List.mem_cons, List.not_mem_nil, or_false] at hQ
                    obtain rfl := hQ
                    · refine ⟨_, rfl, ?_⟩
                      refine WL.assign rfl rfl ?_
                      refine WL.done ?_
                      refine WA.done (by decide +kernel) ?_
                      refine W.region ?_
                      refine WL.move rfl rfl ?_
                      refine WL.add (r := (((i + 1) + 1 : Nat) : Int)) rfl rfl (wi64 (by omega) (by omega) (by omega)) rfl ?_
                      refine WL.assign rfl rfl ?_
                      refine WL.done ?_
                      refine ⟨(i + 1), ⟨iv (by omega), iv (by omega), iv (by omega), iv (by omega), iv (by omega), iv (by omega), trivial⟩, by omega, ?_⟩
                      exact ⟨hB, by omega⟩
              · refine WL.pick rfl rfl rfl ?_
                refine WL.done ?_
                refine W.condF rfl ?_
                refine W.exit ?_
                refine W.seq ?_
                refine W.region ?_
                refine WL.move rfl rfl ?_
                refine WL.move rfl rfl ?_
                refine WL.assign rfl rfl ?_
                refine WL.assign rfl rfl ?_
                refine WL.done ?_
                refine W.ret ?_
                refine ⟨_, rfl, ?_⟩
                first
                | (rw [chooseS_zero (by omega) (by omega)]; exact ⟨rfl, hB⟩)
                | (have hie : i = min k (q - k) := by omega
                   rw [hX, hY, hZ, chooseS_pos (by omega), ← hce, hie]; exact ⟨rfl, hB⟩)
                | (rw [hX, hY, hZ, chooseS_pos (by omega), prS_big (show m < choose q k by omega), prS_big (show m < choose (q - min k (q - k) + i) i by omega)]; exact ⟨rfl, hB⟩)
            · refine WL.move rfl rfl ?_
              refine WL.pass rfl rfl rfl ?_
              refine WL.pass rfl rfl rfl ?_
              refine WL.pick rfl rfl rfl ?_
              refine WL.done ?_
              refine W.condF rfl ?_
              refine W.exit ?_
              refine W.seq ?_
              refine W.region ?_
              refine WL.move rfl rfl ?_
              refine WL.move rfl rfl ?_
              refine WL.assign rfl rfl ?_
              refine WL.assign rfl rfl ?_
              refine WL.done ?_
              refine W.ret ?_
              refine ⟨_, rfl, ?_⟩
              first
              | (rw [chooseS_zero (by omega) (by omega)]; exact ⟨rfl, hB⟩)
              | (have hie : i = min k (q - k) := by omega
                 rw [hX, hY, hZ, chooseS_pos (by omega), ← hce, hie]; exact ⟨rfl, hB⟩)
              | (rw [hX, hY, hZ, chooseS_pos (by omega), prS_big (show m < choose q k by omega), prS_big (show m < choose (q - min k (q - k) + i) i by omega)]; exact ⟨rfl, hB⟩)

theorem Choose_c {w : World} {X : Int} (hX : -9223372036854775808 ≤ X ∧ X ≤ 9223372036854775807) {Y : Int} (hY : -9223372036854775808 ≤ Y ∧ Y ≤ 9223372036854775807) {Z : Int} (hZ : -9223372036854775808 ≤ Z ∧ Z ≤ 9223372036854775807) : Calls Try.prog 16 #[.int .i64 X, .int .i64 Y, .int .i64 Z] w fun e w2 => ∃ v, e = .returned v ∧ (fun v w2 => v = .tuple #[.int .i64 (((chooseS X Y Z).1 : Nat) : Int), .int .i64 (((chooseS X Y Z).2 : Nat) : Int)] ∧ w.grownBy w2 none) v w2 := by
  by_cases h : X < 0 ∨ Y < 0 ∨ Z < 0
  · exact Choose_neg hX hY hZ h
  · exact Choose_nn X.toNat (by omega) Y.toNat (by omega) Z.toNat (by omega) (by omega) (by omega) (by omega)
end Go.Proofs.Ytdmgbahognfhbab
set_option linter.unusedSimpArgs false
set_option linter.unusedVariables false
namespace Go.Proofs.Ytdmgbahognfhbab
open Go.RowKit
theorem Chinese_c {w : World} {Br : Nat} {Ar : Option Addr} {mr cr : Nat} {xr : List Int} (hr : Rd Br w 1 Ar mr cr (is xr)) {Bm : Nat} {Am : Option Addr} {mm cm : Nat} {xm : List Int} (hm : Rd Bm w 1 Am mm cm (is xm)) (hIr : ILim xr) (hIm : ILim xm) (X Q er : Nat) (hR : ChiR xr xm X Q er) :
    Calls Try.prog 63 #[.slice Ar mr cr, .slice Am mm cm] w fun e w2 => ∃ v, e = .returned v ∧ (fun v w2 => v = .tuple #[.int .i64 ((X : Nat) : Int), .int .i64 ((Q : Nat) : Int), .int .i64 ((er : Nat) : Int)] ∧ w.grownBy w2 none) v w2 := by
  have hr := hr.norm
  have hr_l := hr.ilen
  have hr_x := hr.max
  simp only [maxLen] at hr_x
  have hr_c := hr.cap
  have hr0 := hr
  have hm := hm.norm
  have hm_l := hm.ilen
  have hm_x := hm.max
  simp only [maxLen] at hm_x
  have hm_c := hm.cap
  have hm0 := hm
  have hB := ext_refl w
  refine calls_of_W (vs := [.slice Ar mr cr, .slice Am mm cm]) [4, 5, 6] Try.func63 rfl rfl rfl rfl ?_
  refine W.seq ?_
  refine W.region ?_
  refine WL.assign rfl rfl ?_
  refine WL.assign rfl rfl ?_
  refine WL.assign rfl rfl ?_
  refine WL.done ?_
  refine W.seq ?_
  refine W.seq ?_
  refine W.region ?_
  refine WL.move rfl rfl ?_
  refine WL.len Try.underlying27 rfl rfl ?_
  refine WL.move rfl rfl ?_
  refine WL.len Try.underlying27 rfl rfl ?_
  refine WL.neq rfl rfl rfl (fun c11 => ?_) (fun c11 => ?_)
  · refine WL.done ?_
    refine W.condT rfl ?_
    refine W.seq ?_
    refine W.region ?_
    refine WL.assign rfl rfl ?_
    refine WL.assign rfl rfl ?_
    refine WL.assign rfl rfl ?_
    refine WL.done ?_
    refine W.ret ?_
    refine ⟨_, rfl, ?_⟩
    first
    | (obtain ⟨k1, k2, k3⟩ := chi_shape hR (by omega); subst k1 k2 k3; exact ⟨rfl, hB⟩)
    | (obtain ⟨k1, k2, k3⟩ := chi_range hR (by omega) (imem (l := xm) (j := i) (by omega)) z; subst k1 k2 k3; exact ⟨rfl, hB⟩)
    | (have hbg : 2147483647 < prodI xm := (by rcases Nat.lt_or_ge 2147483647 (prodI xm) with h9 | h9; exact h9; rw [hpm, prS_ok h9] at c_p; exact absurd rfl c_p)
       obtain ⟨k1, k2, k3⟩ := chi_big hR (by omega) hall hbg; subst k1 k2 k3; rw [hpm, prS_big hbg]; exact ⟨rfl, hB⟩)
    | (obtain ⟨q1, q2, q3⟩ := invR_err hIV hmr (fun h => by subst h; exact c_e rfl)
       have k0 := hC.failI (by omega) (by rw [show xm.getD i 0 = (((xm.getD i 0).toNat : Nat) : Int) by omega, Int.natAbs_natCast]; simpa using q3)
       rcases hRR with ⟨_, k1, k2, k3⟩ | ⟨k1, _⟩
       · subst k1 k2 k3 q2; exact ⟨rfl, hB⟩
       · rw [k0] at k1; cases k1)
    | (have k0 := hC.doneI (by omega)
       rcases hRR with ⟨k1, _⟩ | ⟨k1, k3⟩
       · rw [k0] at k1; cases k1
       · rw [k0] at k1; cases k1; subst k3; exact ⟨rfl, hB⟩)
  · refine WL.done ?_
    refine W.condF rfl ?_
    refine W.skip ?_
    refine W.seq ?_
    refine W.seq ?_
    refine W.region ?_
    refine WL.move rfl rfl ?_
    refine WL.len Try.underlying27 rfl rfl ?_
    refine WL.move rfl rfl ?_
    refine WL.done ?_
    refine W.block ?_
    refine W.loop (σ := Nat) (fun i w1 => w.grownBy w1 none ∧ i ≤ mm ∧ (∀ j, j < i → 1 ≤ xm.getD j 0 ∧ xm.getD j 0 ≤ 2147483647)) (fun i => [(0, .slice Ar mr cr), (1, .slice Am mm cm), (23, .slice Am mm cm), (24, .int .i64 ((mm : Nat) : Int)), (25, .int .i64 ((i : Nat) : Int))]) (fun i => mm - i) 0 ?_ ?_ ?_
    · exact ⟨hB, by omega, fun j h => by omega⟩
    · exact ⟨rfl, rfl, rfl, iv (by omega), iv (by omega), trivial⟩
    · rintro i w12 ⟨hB, hi, hal⟩
      have hr := hr0.ext hB
      have hm := hm0.ext hB
      refine W.seq ?_
      refine W.region ?_
      refine WL.lss rfl rfl rfl (fun c13 => ?_) (fun c13 => ?_)
      · refine WL.done ?_
        refine W.seq ?_
        refine W.condT rfl ?_
        refine W.skip ?_
        refine W.seq ?_
        refine W.block ?_
        refine W.seq ?_
        have hIi := hIm.getD i
        · refine W.region ?_
          refine WL.index1 (i) Try.underlying27 Try.el3 rfl rfl (by omega) (by omega) hm rfl ?_
          refine WL.load Try.underlying3 rfl rfl (Rd.at_ hm (is_at (by omega))) rfl ?_
          refine WL.assign rfl rfl ?_
          refine WL.done ?_
          refine W.seq ?_
          refine W.region ?_
          refine WL.move rfl rfl ?_
          refine WL.call Try.func88 rfl Try.nm88 rfl rfl (isPos_c (by omega)) ?_
          rintro _ w14 ⟨bz, rfl, hGw14, z_t, z_f⟩
          have hB := ext_trans hB hGw14
          rcases bz with _ | _
          · have z := z_f rfl
            refine WL.not rfl rfl ?_
            refine WL.done ?_
            refine W.condT rfl ?_
            refine W.seq ?_
            refine W.region ?_
            refine WL.assign rfl rfl ?_
            refine WL.assign rfl rfl ?_
            refine WL.assign rfl rfl ?_
            refine WL.done ?_
            refine W.ret ?_
            refine ⟨_, rfl, ?_⟩
            first
            | (obtain ⟨k1, k2, k3⟩ := chi_shape hR (by omega); subst k1 k2 k3; exact ⟨rfl, hB⟩)
            | (obtain ⟨k1, k2, k3⟩ := chi_range hR (by omega) (imem (l := xm) (j := i) (by omega)) z; subst k1 k2 k3; exact ⟨rfl, hB⟩)
            | (have hbg : 2147483647 < prodI xm := (by rcases Nat.lt_or_ge 2147483647 (prodI xm) with h9 | h9; exact h9; rw [hpm, prS_ok h9] at c_p; exact absurd rfl c_p)
               obtain ⟨k1, k2, k3⟩ := chi_big hR (by omega) hall hbg; subst k1 k2 k3; rw [hpm, prS_big hbg]; exact ⟨rfl, hB⟩)
            | (obtain ⟨q1, q2, q3⟩ := invR_err hIV hmr (fun h => by subst h; exact c_e rfl)
               have k0 := hC.failI (by omega) (by rw [show xm.getD i 0 = (((xm.getD i 0).toNat : Nat) : Int) by omega, Int.natAbs_natCast]; simpa using q3)
               rcases hRR with ⟨_, k1, k2, k3⟩ | ⟨k1, _⟩
               · subst k1 k2 k3 q2; exact ⟨rfl, hB⟩
               · rw [k0] at k1; cases k1)
            | (have k0 := hC.doneI (by omega)
               rcases hRR with ⟨k1, _⟩ | ⟨k1, k3⟩
               · rw [k0] at k1; cases k1
               · rw [k0] at k1; cases k1; subst k3; exact ⟨rfl, hB⟩)
          · have z := z_t rfl
            refine WL.not rfl rfl ?_
            refine WL.done ?_
            refine W.condF rfl ?_
            refine W.skip ?_
            refine W.region ?_
            refine WL.add (r := ((i + 1 : Nat) : Int)) rfl rfl (wi64 (by omega) (by omega) (by omega)) rfl ?_
            refine WL.move rfl rfl ?_
            refine WL.done ?_
            refine ⟨i + 1, ⟨rfl, rfl, rfl, iv (by omega), iv (by omega), trivial⟩, by omega, ?_⟩
            exact ⟨hB, by omega, fun j h => by
              rcases Nat.lt_succ_iff_lt_or_eq.1 h with h1 | h1
              · exact hal j h1
              · rw [h1]; exact z⟩
      · refine WL.done ?_
        refine W.seq ?_
        refine W.condF rfl ?_
        refine W.exit ?_
        refine W.seq ?_
        refine W.seq ?_
        refine W.region ?_
        refine WL.move rfl rfl ?_
        have hall := of_iget (P := fun m => 1 ≤ m ∧ m ≤ 2147483647) (l := xm) (fun j hj => hal j (by omega))
        have hpm := prodS_max hall
        refine WL.call Try.func64 rfl Try.nm64 rfl rfl (Product_c hm (by omega) hIm) ?_
        rintro _ w15 ⟨rfl, hGw15⟩
        have hB := ext_trans hB hGw15
        have hr := hr0.ext hB
        have hm := hm0.ext hB
        skip
        refine WL.move rfl rfl ?_
        refine WL.extract rfl rfl rfl ?_
        refine WL.extract rfl rfl rfl ?_
        refine WL.assign rfl rfl ?_
        refine WL.assign rfl rfl ?_
        refine WL.done ?_
        refine W.seq ?_
        refine W.region ?_
        refine WL.move rfl rfl ?_
        refine WL.neq rfl rfl rfl (fun c_p => ?_) (fun c_p => ?_)
        · refine WL.done ?_
          refine W.condT rfl ?_
          refine W.seq ?_
          refine W.region ?_
          refine WL.move rfl rfl ?_
          refine WL.assign rfl rfl ?_
          refine WL.assign rfl rfl ?_
          refine WL.assign rfl rfl ?_
          refine WL.done ?_
          refine W.ret ?_
          refine ⟨_, rfl, ?_⟩
          first
          | (obtain ⟨k1, k2, k3⟩ := chi_shape hR (by omega); subst k1 k2 k3; exact ⟨rfl, hB⟩)
          | (obtain ⟨k1, k2, k3⟩ := chi_range hR (by omega) (imem (l := xm) (j := i) (by omega)) z; subst k1 k2 k3; exact ⟨rfl, hB⟩)
          | (have hbg : 2147483647 < prodI xm := (by rcases Nat.lt_or_ge 2147483647 (prodI xm) with h9 | h9; exact h9; rw [hpm, prS_ok h9] at c_p; exact absurd rfl c_p)
             obtain ⟨k1, k2, k3⟩ := chi_big hR (by omega) hall hbg; subst k1 k2 k3; rw [hpm, prS_big hbg]; exact ⟨rfl, hB⟩)
          | (obtain ⟨q1, q2, q3⟩ := invR_err hIV hmr (fun h => by subst h; exact c_e rfl)
             have k0 := hC.failI (by omega) (by rw [show xm.getD i 0 = (((xm.getD i 0).toNat : Nat) : Int) by omega, Int.natAbs_natCast]; simpa using q3)
             rcases hRR with ⟨_, k1, k2, k3⟩ | ⟨k1, _⟩
             · subst k1 k2 k3 q2; exact ⟨rfl, hB⟩
             · rw [k0] at k1; cases k1)
          | (have k0 := hC.doneI (by omega)
             rcases hRR with ⟨k1, _⟩ | ⟨k1, k3⟩
             · rw [k0] at k1; cases k1
             · rw [k0] at k1; cases k1; subst k3; exact ⟨rfl, hB⟩)
        · refine WL.done ?_
          refine W.condF rfl ?_
          refine W.skip ?_
          refine W.seq ?_
          refine W.region ?_
          have hbd : prodI xm ≤ 2147483647 := (by rcases Nat.lt_or_ge 2147483647 (prodI xm) with h9 | h9; (rw [hpm, prS_big h9] at c_p; exact absurd c_p (by decide)); exact h9)
          obtain ⟨R0, hC0, hRR⟩ := chi_fin hR (by omega) hall hbd
          have hmono := prodI_mono (l := xm) (fun x hx => by have := hall x hx; omega)
          refine WL.assign rfl rfl ?_
          refine WL.assign rfl rfl ?_
          refine WL.done ?_
          refine W.seq ?_
          refine W.seq ?_
          refine W.region ?_
          refine WL.move rfl rfl ?_
          refine WL.len Try.underlying27 rfl rfl ?_
          refine WL.move rfl rfl ?_
          refine WL.done ?_
          refine W.block ?_
          refine W.loop (σ := Nat × Nat × Nat) (fun s w1 => match s with | (i, x, p) => w.grownBy w1 none ∧ i ≤ mm ∧ Chin xr xm i x p R0 ∧ p = prodI (xm.take i) ∧ x < p) (fun s => match s with | (i, x, p) => [(0, .slice Ar mr cr), (1, .slice Am mm cm), (11, .int .i64 ((x : Nat) : Int)), (12, .int .i64 ((p : Nat) : Int)), (41, .slice Am mm cm), (42, .int .i64 ((mm : Nat) : Int)), (43, .int .i64 ((i : Nat) : Int))]) (fun s => match s with | (i, x, p) => mm - i) (0, 0, 1) ?_ ?_ ?_
          · exact ⟨hB, by omega, hC0, rfl, by omega⟩
          · exact ⟨rfl, rfl, iv (by omega), iv (by omega), rfl, iv (by omega), iv (by omega), trivial⟩
          · rintro ⟨i, x, p⟩ w17 ⟨hB, hi, hC, hp, hxp⟩
            have hr := hr0.ext hB
            have hm := hm0.ext hB
            refine W.seq ?_
            refine W.region ?_
            refine WL.lss rfl rfl rfl (fun c18 => ?_) (fun c18 => ?_)
            · refine WL.done ?_
              refine W.seq ?_
              refine W.condT rfl ?_
              refine W.skip ?_
              refine W.seq ?_
              refine W.block ?_
              refine W.seq ?_
              have hil : i < xm.length := (by omega); have hmr := hall _ (imem hil); have hmt : (((xm.getD i 0).toNat : Nat) : Int) = xm.getD i 0 := (by omega); have hpt := prodI_take hil; have hpn := hmono (i + 1); have hpi := hmono i; have hIr := hIr.getD i; obtain ⟨y, e1, hIV⟩ := InvR.ex ((p : Nat) : Int) (xm.getD i 0); have hry := Int.emod_nonneg (xr.getD i 0) (show (((xm.getD i 0).toNat : Nat) : Int) ≠ 0 by omega); have hrz := Int.emod_lt_of_pos (xr.getD i 0) (show 0 < (((xm.getD i 0).toNat : Nat) : Int) by omega)
              · refine W.region ?_
                refine WL.move rfl rfl ?_
                refine WL.index1 (i) Try.underlying27 Try.el3 rfl rfl (by omega) (by omega) hm rfl ?_
                refine WL.load Try.underlying3 rfl rfl (Rd.at_ hm (is_at (by omega))) rfl ?_
                refine WL.assign rfl rfl ?_
                refine WL.assign rfl rfl ?_
                refine WL.done ?_
                refine W.seq ?_
                refine W.region ?_
                refine WL.move rfl rfl ?_
                refine WL.move rfl rfl ?_
                refine WL.call Try.func58 rfl Try.nm58 rfl rfl (Inverse_c (by omega) (by omega) y e1 hIV) ?_
                rintro _ w19 ⟨rfl, hGw19⟩
                have hB := ext_trans hB hGw19
                have hr := hr0.ext hB
                refine WL.move rfl rfl ?_
                refine WL.extract rfl rfl rfl ?_
                refine WL.extract rfl rfl rfl ?_
                refine WL.assign rfl rfl ?_
                refine WL.assign rfl rfl ?_
                refine WL.done ?_
                refine W.seq ?_
                refine W.seq ?_
                refine W.region ?_
                refine WL.move rfl rfl ?_
                refine WL.neq rfl rfl rfl (fun c_e => ?_) (fun c_e => ?_)
                · refine WL.done ?_
                  refine W.condT rfl ?_
                  refine W.seq ?_
                  refine W.region ?_
                  refine WL.move rfl rfl ?_
                  refine WL.assign rfl rfl ?_
                  refine WL.assign rfl rfl ?_
                  refine WL.assign rfl rfl ?_
                  refine WL.done ?_
                  refine W.ret ?_
                  refine ⟨_, rfl, ?_⟩
                  first
                  | (obtain ⟨k1, k2, k3⟩ := chi_shape hR (by omega); subst k1 k2 k3; exact ⟨rfl, hB⟩)
                  | (obtain ⟨k1, k2, k3⟩ := chi_range hR (by omega) (imem (l := xm) (j := i) (by omega)) z; subst k1 k2 k3; exact ⟨rfl, hB⟩)
                  | (have hbg : 2147483647 < prodI xm := (by rcases Nat.lt_or_ge 2147483647 (prodI xm) with h9 | h9; exact h9; rw [hpm, prS_ok h9] at c_p; exact absurd rfl c_p)
                     obtain ⟨k1, k2, k3⟩ := chi_big hR (by omega) hall hbg; subst k1 k2 k3; rw [hpm, prS_big hbg]; exact ⟨rfl, hB⟩)
                  | (obtain ⟨q1, q2, q3⟩ := invR_err hIV hmr (fun h => by subst h; exact c_e rfl)
                     have k0 := hC.failI (by omega) (by rw [show xm.getD i 0 = (((xm.getD i 0).toNat : Nat) : Int) by omega, Int.natAbs_natCast]; simpa using q3)
                     rcases hRR with ⟨_, k1, k2, k3⟩ | ⟨k1, _⟩
                     · subst k1 k2 k3 q2; exact ⟨rfl, hB⟩
                     · rw [k0] at k1; cases k1)
                  | (have k0 := hC.doneI (by omega)
                     rcases hRR with ⟨k1, _⟩ | ⟨k1, k3⟩
                     · rw [k0] at k1; cases k1
                     · rw [k0] at k1; cases k1; subst k3; exact ⟨rfl, hB⟩)
                · refine WL.done ?_
                  refine W.condF rfl ?_
                  refine W.skip ?_
                  refine W.seq ?_
                  refine W.region ?_
                  refine WL.move rfl rfl ?_
                  refine WL.move rfl rfl ?_
                  refine WL.index1 (i) Try.underlying27 Try.el3 rfl rfl (by omega) (by omega) hr rfl ?_
                  refine WL.load Try.underlying3 rfl rfl (Rd.at_ hr (is_at (by omega))) rfl ?_
                  refine WL.move rfl rfl ?_
                  refine WL.call Try.func93 rfl Try.nm93 rfl rfl (residue_c (by omega) (xm.getD i 0).toNat (by omega) (by omega) (by omega)) ?_
                  rintro _ w21 ⟨rfl, hGw21⟩
                  have hB := ext_trans hB hGw21
                  refine WL.move rfl rfl ?_
                  refine WL.sub (r := (((((xr.getD i 0) % ((xm.getD i 0).toNat : Int)).toNat : Nat) : Int) - ((x : Nat) : Int))) rfl rfl (wi64 (by omega) (by omega) (by omega)) rfl ?_
                  refine WL.move rfl rfl ?_
                  refine WL.call Try.func93 rfl Try.nm93 rfl rfl (residue_c (by omega) (xm.getD i 0).toNat (by omega) (by omega) (by omega)) ?_
                  rintro _ w22 ⟨rfl, hGw22⟩
                  have hB := ext_trans hB hGw22
                  rw [sub_emod_nat (show 0 < (xm.getD i 0).toNat by omega)]
                  refine WL.assign rfl rfl ?_
                  refine WL.done ?_
                  refine W.seq ?_
                  have hinv := invR_ok hIV (by omega); have hyl := hinv.lt; obtain ⟨u, hu⟩ : ∃ u, u = ((xr.getD i 0 - x) % ((xm.getD i 0).toNat : Int)).toNat := ⟨_, rfl⟩; have hul : u < (xm.getD i 0).toNat := (by have h1 := Int.emod_lt_of_pos (xr.getD i 0 - x) (show 0 < (((xm.getD i 0).toNat : Nat) : Int) by omega); have h2 := Int.emod_nonneg (xr.getD i 0 - x) (show (((xm.getD i 0).toNat : Nat) : Int) ≠ 0 by omega); omega); have huy : u * y ≤ 2147483647 * 2147483647 := Nat.mul_le_mul (by omega) (by omega); have hum := Nat.mod_lt (u * y) (show 0 < (xm.getD i 0).toNat by omega); have hpk : p * (u * y % (xm.getD i 0).toNat + 1) ≤ p * (xm.getD i 0).toNat := Nat.mul_le_mul_left p hum; rw [Nat.mul_add, Nat.mul_one] at hpk; rw [← hp] at hpt; rw [hpt] at hpn; rw [hu] at hul huy hum hpk; clear hu
                  · refine W.region ?_
                    refine WL.move rfl rfl ?_
                    refine WL.move rfl rfl ?_
                    refine WL.move rfl rfl ?_
                    refine WL.move rfl rfl ?_
                    refine WL.mul (r := ((((xr.getD i 0 - x) % ((xm.getD i 0).toNat : Int)).toNat * y : Nat) : Int)) rfl rfl (by rw [← Int.natCast_mul]; exact wi64n (by omega)) rfl ?_
                    refine WL.move rfl rfl ?_
                    refine WL.rem (r := ((((xr.getD i 0 - x) % ((xm.getD i 0).toNat : Int)).toNat * y % (xm.getD i 0).toNat : Nat) : Int)) rfl rfl (by omega) (tmod_nat rfl (by omega)) rfl ?_
                    refine WL.mul (r := ((p * (((xr.getD i 0 - x) % ((xm.getD i 0).toNat : Int)).toNat * y % (xm.getD i 0).toNat) : Nat) : Int)) rfl rfl (by rw [← Int.natCast_mul]; exact wi64n (by omega)) rfl ?_
                    refine WL.add (r := ((x + p * (((xr.getD i 0 - x) % ((xm.getD i 0).toNat : Int)).toNat * y % (xm.getD i 0).toNat) : Nat) : Int)) rfl rfl (wi64 (by omega) (by omega) (by omega)) rfl ?_
                    refine WL.assign rfl rfl ?_
                    refine WL.done ?_
                    refine W.region ?_
                    refine WL.move rfl rfl ?_
                    refine WL.move rfl rfl ?_
                    refine WL.mul (r := ((p * (xm.getD i 0).toNat : Nat) : Int)) rfl rfl (by rw [← hmt, ← Int.natCast_mul]; exact wi64n (by omega)) rfl ?_
                    refine WL.assign rfl rfl ?_
                    refine WL.done ?_
                    refine W.region ?_
                    refine WL.add (r := ((i + 1 : Nat) : Int)) rfl rfl (wi64 (by omega) (by omega) (by omega)) rfl ?_
                    refine WL.move rfl rfl ?_
                    refine WL.done ?_
                    refine ⟨(i + 1, x + p * (((xr.getD i 0 - x) % ((xm.getD i 0).toNat : Int)).toNat * y % (xm.getD i 0).toNat), p * (xm.getD i 0).toNat), ⟨rfl, rfl, iv (by omega), iv (by omega), rfl, iv (by omega), iv (by omega), trivial⟩, by (dsimp only; omega), ?_⟩
                    exact ⟨hB, by omega, hC.stepI (by omega) (by omega) hinv, by rw [hpt, hp], by omega⟩
            · refine WL.done ?_
              refine W.seq ?_
              refine W.condF rfl ?_
              refine W.exit ?_
              refine W.seq ?_
              refine W.region ?_
              refine WL.move rfl rfl ?_
              refine WL.move rfl rfl ?_
              refine WL.assign rfl rfl ?_
              refine WL.assign rfl rfl ?_
              refine WL.assign rfl rfl ?_
              refine WL.done ?_
              refine W.ret ?_
              refine ⟨_, rfl, ?_⟩
              first
              | (obtain ⟨k1, k2, k3⟩ := chi_shape hR (by omega); subst k1 k2 k3; exact ⟨rfl, hB⟩)
              | (obtain ⟨k1, k2, k3⟩ := chi_range hR (by omega) (imem (l := xm) (j := i) (by omega)) z; subst k1 k2 k3; exact ⟨rfl, hB⟩)
              | (have hbg : 2147483647 < prodI xm := (by rcases Nat.lt_or_ge 2147483647 (prodI xm) with h9 | h9; exact h9; rw [hpm, prS_ok h9] at c_p; exact absurd rfl c_p)
                 obtain ⟨k1, k2, k3⟩ := chi_big hR (by omega) hall hbg; subst k1 k2 k3; rw [hpm, prS_big hbg]; exact ⟨rfl, hB⟩)
              | (obtain ⟨q1, q2, q3⟩ := invR_err hIV hmr (fun h => by subst h; exact c_e rfl)
                 have k0 := hC.failI (by omega) (by rw [show xm.getD i 0 = (((xm.getD i 0).toNat : Nat) : Int) by omega, Int.natAbs_natCast]; simpa using q3)
                 rcases hRR with ⟨_, k1, k2, k3⟩ | ⟨k1, _⟩
                 · subst k1 k2 k3 q2; exact ⟨rfl, hB⟩
                 · rw [k0] at k1; cases k1)
              | (have k0 := hC.doneI (by omega)
                 rcases hRR with ⟨k1, _⟩ | ⟨k1, k3⟩
                 · rw [k0] at k1; cases k1
                 · rw [k0] at k1; cases k1; subst k3; exact ⟨rfl, hB⟩)
end Go.Proofs.Ytdmgbahognfhbab
