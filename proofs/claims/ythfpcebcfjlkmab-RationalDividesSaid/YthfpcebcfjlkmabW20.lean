/- Contracts of functions of the program, and what they lean on. -/
import Derived.Test.YthfpcebcfjlkmabW19
set_option linter.unusedSimpArgs false
set_option linter.unusedVariables false
namespace Go.Proofs.Ythfpcebcfjlkmab
open Go.RowKit
theorem qIs_d {w : World} {Ban : Nat} {Aan : Option Addr} {man can : Nat} {xan : List Nat} (han : Rd Ban w 1 Aan man can (us xan)) {Bad : Nat} {Aad : Option Addr} {mad cad : Nat} {xad : List Nat} (had : Rd Bad w 1 Aad mad cad (us xad)) {na : Bool} (hLan : Lim xan) (hLad : Lim xad) (qa : Rat) (hqa : val na (nv xan) (nv xad) = qa) (hsa : man ≤ 4194304 ∧ mad ≤ 4194304) : Calls Try.prog 21 #[.agg #[.bool na, .slice Aan man can, .slice Aad mad cad]] w fun e w2 => ∃ v, e = .returned v ∧ (fun v w2 => v = .bool (decide (na = qneg qa ∧ xan = digs (qnum qa) ∧ xad = digs (Rat.den qa))) ∧ w.grownBy w2 none) v w2 :=
  (qIs_c han had hLan hLad qa hqa hsa).mono fun e w2 ⟨v, he, b, hv, hw, h1, h2⟩ => ⟨v, he, by rw [hv]; cases b with | true => rw [decide_eq_true (h1 rfl)] | false => rw [decide_eq_false (h2 rfl)], hw⟩

theorem rqIs_d {w : World} {Ban : Nat} {Aan : Option Addr} {man can : Nat} {xan : List Nat} (han : Rd Ban w 1 Aan man can (us xan)) {Bad : Nat} {Aad : Option Addr} {mad cad : Nat} {xad : List Nat} (had : Rd Bad w 1 Aad mad cad (us xad)) {na : Bool} (hLan : Lim xan) (hLad : Lim xad) (qa : Rat) (hqa : val na (nv xan) (nv xad) = qa) (hsa : man ≤ 4194304 ∧ mad ≤ 4194304) : Calls Try.prog 22 #[.agg #[.bool na, .slice Aan man can, .slice Aad mad cad]] w fun e w2 => ∃ v, e = .returned v ∧ (fun v w2 => v = .bool (decide (na = qneg qa ∧ xan = digs (qnum qa) ∧ xad = digs (Rat.den qa))) ∧ w.grownBy w2 none) v w2 :=
  (rqIs_c han had hLan hLad qa hqa hsa).mono fun e w2 ⟨v, he, b, hv, hw, h1, h2⟩ => ⟨v, he, by rw [hv]; cases b with | true => rw [decide_eq_true (h1 rfl)] | false => rw [decide_eq_false (h2 rfl)], hw⟩

theorem isT {q : Rat} : decide (qneg q = qneg q ∧ digs (qnum q) = digs (qnum q) ∧ digs q.den = digs q.den) = true := decide_eq_true ⟨rfl, rfl, rfl⟩

theorem qIs_t {w : World} {Ban : Nat} {Aan : Option Addr} {man can : Nat} {Bad : Nat} {Aad : Option Addr} {mad cad : Nat} {qa : Rat} (han : Rd Ban w 1 Aan man can (us (digs (qnum qa)))) (had : Rd Bad w 1 Aad mad cad (us (digs (Rat.den qa)))) (hLan : Lim (digs (qnum qa))) (hLad : Lim (digs (Rat.den qa))) (q : Rat) (hq : val (qneg qa) (nv (digs (qnum qa))) (nv (digs (Rat.den qa))) = q) (hsa : man ≤ 4194304 ∧ mad ≤ 4194304) :
    Calls Try.prog 21 #[.agg #[.bool (qneg qa), .slice Aan man can, .slice Aad mad cad]] w fun e w2 => ∃ v, e = .returned v ∧ (fun v w2 => v = .bool true ∧ w.grownBy w2 none) v w2 :=
  (qIs_d han had hLan hLad qa (val_canon qa) hsa).mono fun e w2 ⟨v, he, hv, hw⟩ => ⟨v, he, by rw [hv, isT], hw⟩

theorem long_c {w : World} {X : Int} {most : Nat} {Bl BNl : Nat} {Al : Option Addr} {ml cl : Nat} {cel : List Value} {rl : List Fr3} (hl : Rd Bl w 3 Al ml cl cel) (hNl : RatsR BNl w cel rl) (hX : X = most) (hK : RLen 140737488355328 rl) :
    Calls Try.prog 17 #[.int .i64 X, .slice Al ml cl] w fun e w2 => ∃ v, e = .returned v ∧ (fun v w2 => ∃ b : Bool, v = .bool b ∧ w.grownBy w2 none ∧ (b = true → True) ∧ (b = false → ∀ j, j < rl.length → (rl.getD j fr0).2.1.length + (rl.getD j fr0).2.2.length ≤ most)) v w2 := by
  have hl := hl.norm
  have hNl := hNl.norm
  have hl_n := hl.len
  have hl_nn := hNl.len
  have hl_l : rl.length = ml := by omega
  have hl_x := hl.max
  simp only [maxLen] at hl_x
  have hl_c := hl.cap
  have hl0 := hl
  have hNl0 := hNl
  have hB := ext_refl w
  refine calls_of_W (vs := [.int .i64 X, .slice Al ml cl]) [4] Try.func17 rfl rfl rfl rfl ?_
  refine W.seq ?_
  refine W.region ?_
  refine WL.assign rfl rfl ?_
  refine WL.done ?_
  refine W.seq ?_
  refine W.seq ?_
  refine W.region ?_
  refine WL.assign rfl rfl ?_
  refine WL.done ?_
  refine W.block ?_
  refine W.loop (σ := Nat) (fun j w1 => w.grownBy w1 none ∧ j ≤ ml ∧ ∀ i, i < j → (rl.getD i fr0).2.1.length + (rl.getD i fr0).2.2.length ≤ most) (fun j => [(0, .int .i64 X), (1, .slice Al ml cl), (5, .int .i64 ((j : Nat) : Int))]) (fun j => ml - j) 0 ?_ ?_ ?_
  · exact ⟨hB, by omega, fun i h => by omega⟩
  · exact ⟨iv (by omega), rfl, iv (by omega), trivial⟩
  · rintro j w11 ⟨hB, hj, hin⟩
    have hl := hl0.ext hB
    have hNl := hNl0.ext hB
    refine W.seq ?_
    refine W.seq ?_
    refine W.region ?_
    refine WL.move rfl rfl ?_
    refine WL.move rfl rfl ?_
    refine WL.len Try.underlying44 rfl rfl ?_
    refine WL.lss rfl rfl rfl (fun c12 => ?_) (fun c12 => ?_)
    · refine WL.done ?_
      refine W.condT rfl ?_
      refine W.skip ?_
      refine W.seq ?_
      refine W.block ?_
      refine W.seq ?_
      obtain ⟨hk1, hk2⟩ := hK j (by omega); have hu1 := (hNl0.rd1 j (by omega)).ulen; have hu2 := (hNl0.rd2 j (by omega)).ulen
      · refine W.draw [⟨[], [1], true⟩, ⟨[], [5], true⟩, ⟨[0, 1], [], true⟩, ⟨[2], [], true⟩, ⟨[3], [], false⟩, ⟨[4], [], true⟩, ⟨[], [1], true⟩, ⟨[], [5], true⟩, ⟨[6, 7], [], true⟩, ⟨[8], [], true⟩, ⟨[9], [], false⟩, ⟨[10], [], true⟩, ⟨[5, 11], [], true⟩, ⟨[], [0], true⟩, ⟨[12, 13], [], true⟩] [[(1, .slice Al ml cl)], [(5, .int .i64 ((j : Nat) : Int))], [], [], [], [], [(1, .slice Al ml cl)], [(5, .int .i64 ((j : Nat) : Int))], [], [], [], [], [], [(0, .int .i64 X)], []] (fun iQ => [fun v wQ => v = .slice Al ml cl, fun v wQ => v = .int .i64 ((j : Nat) : Int), fun v wQ => v = .pointer (some ((adOf Al).add (j * 3))), fun v wQ => v = .pointer (some (((adOf Al).add (j * 3)).add 1)), fun v wQ => v = .slice (sA (cel.getD (j * 3 + 1) undef)) (sM (cel.getD (j * 3 + 1) undef)) (sC (cel.getD (j * 3 + 1) undef)), fun v wQ => v = .int .i64 (((sM (cel.getD (j * 3 + 1) undef)) : Nat) : Int), fun v wQ => v = .slice Al ml cl, fun v wQ => v = .int .i64 ((j : Nat) : Int), fun v wQ => v = .pointer (some ((adOf Al).add (j * 3))), fun v wQ => v = .pointer (some (((adOf Al).add (j * 3)).add 2)), fun v wQ => v = .slice (sA (cel.getD (j * 3 + 2) undef)) (sM (cel.getD (j * 3 + 2) undef)) (sC (cel.getD (j * 3 + 2) undef)), fun v wQ => v = .int .i64 (((sM (cel.getD (j * 3 + 2) undef)) : Nat) : Int), fun v wQ => v = .int .i64 (((sM (cel.getD (j * 3 + 1) undef)) + (sM (cel.getD (j * 3 + 2) undef)) : Nat) : Int), fun v wQ => v = .int .i64 X, fun v wQ => v = .bool (decide (X < (((sM (cel.getD (j * 3 + 1) undef)) + (sM (cel.getD (j * 3 + 2) undef)) : Nat) : Int)))].getD iQ (fun _ _ => True)) (fun _ => True) 15 Try.mixed (by kernel_rfl) ?_ ?_ ?_
        · refine Vs_mono _ ?_
          intro VQ hVQ vQ wQ1 wQ2 hQ1 hQ2
          have hQ2 := hQ2.resolve_right (by decide)
          simp only [List.mem_cons, List.not_mem_nil, or_false] at hVQ
          rcases hVQ with rfl | rfl | rfl | rfl | rfl | rfl | rfl | rfl | rfl | rfl | rfl | rfl | rfl | rfl | rfl
          · exact hQ1
          · exact hQ1
          · exact hQ1
          · exact hQ1
          · exact hQ1
          · exact hQ1
          · exact hQ1
          · exact hQ1
          · exact hQ1
          · exact hQ1
          · exact hQ1
          · exact hQ1
          · exact hQ1
          · exact hQ1
          · exact hQ1
        · refine ⟨⟨rfl, ⟨rfl, trivial⟩, ?_⟩, ⟨rfl, ⟨rfl, trivial⟩, ?_⟩, ⟨rfl, trivial, ?_⟩, ⟨rfl, trivial, ?_⟩, ⟨rfl, trivial, ?_⟩, ⟨rfl, trivial, ?_⟩, ⟨rfl, ⟨rfl, trivial⟩, ?_⟩, ⟨rfl, ⟨rfl, trivial⟩, ?_⟩, ⟨rfl, trivial, ?_⟩, ⟨rfl, trivial, ?_⟩, ⟨rfl, trivial, ?_⟩, ⟨rfl, trivial, ?_⟩, ⟨rfl, trivial, ?_⟩, ⟨rfl, ⟨rfl, trivial⟩, ?_⟩, ⟨rfl, trivial, ?_⟩, trivial⟩
          · intro w13 hE
            intro R
            refine WL.move rfl rfl ?_
            exact WL.done ⟨_, rfl, rfl, rfl⟩
          · intro w14 hE
            intro R
            refine WL.move rfl rfl ?_
            exact WL.done ⟨_, rfl, rfl, rfl⟩
          · intro w15 hE
            rintro _ rfl
            rintro _ rfl
            intro R
            refine WL.index (j) Try.underlying44 Try.el31 rfl rfl (by omega) (by omega) hl rfl ?_
            exact WL.done ⟨_, rfl, rfl, rfl⟩
          · intro w16 hE
            rintro _ rfl
            intro R
            refine WL.fieldA (off := 1) Try.fla31_1 rfl rfl ?_
            exact WL.done ⟨_, rfl, rfl, rfl⟩
          · intro w17 hE
            have hE := hE rfl
            have hB := ext_trans hB hE
            have hl := hl0.ext hB
            have hNl := hNl0.ext hB
            rintro _ rfl
            intro R
            refine WL.load Try.underlying23 rfl rfl (by rw [add_add]; exact Rd.at_ hl (hNl.c1 j (by omega))) rfl ?_
            exact WL.done ⟨_, rfl, ext_refl _, rfl⟩
          · intro w18 hE
            rintro _ rfl
            intro R
            refine WL.len Try.underlying23 rfl rfl ?_
            exact WL.done ⟨_, rfl, rfl, rfl⟩
          · intro w19 hE
            intro R
            refine WL.move rfl rfl ?_
            exact WL.done ⟨_, rfl, rfl, rfl⟩
          · intro w20 hE
            intro R
            refine WL.move rfl rfl ?_
            exact WL.done ⟨_, rfl, rfl, rfl⟩
          · intro w21 hE
            rintro _ rfl
            rintro _ rfl
            intro R
            refine WL.index (j) Try.underlying44 Try.el31 rfl rfl (by omega) (by omega) hl rfl ?_
            exact WL.done ⟨_, rfl, rfl, rfl⟩
          · intro w22 hE
            rintro _ rfl
            intro R
            refine WL.fieldA (off := 2) Try.fla31_2 rfl rfl ?_
            exact WL.done ⟨_, rfl, rfl, rfl⟩
          · intro w23 hE
            have hE := hE rfl
            have hB := ext_trans hB hE
            have hl := hl0.ext hB
            have hNl := hNl0.ext hB
            rintro _ rfl
            intro R
            refine WL.load Try.underlying23 rfl rfl (by rw [add_add]; exact Rd.at_ hl (hNl.c2 j (by omega))) rfl ?_
            exact WL.done ⟨_, rfl, ext_refl _, rfl⟩
          · intro w24 hE
            rintro _ rfl
            intro R
            refine WL.len Try.underlying23 rfl rfl ?_
            exact WL.done ⟨_, rfl, rfl, rfl⟩
          · intro w25 hE
            rintro _ rfl
            rintro _ rfl
            intro R
            refine WL.add (r := (((sM (cel.getD (j * 3 + 1) undef)) + (sM (cel.getD (j * 3 + 2) undef)) : Nat) : Int)) rfl rfl (wi64 (by omega) (by omega) (by omega)) rfl ?_
            exact WL.done ⟨_, rfl, rfl, rfl⟩
          · intro w26 hE
            intro R
            refine WL.move rfl rfl ?_
            exact WL.done ⟨_, rfl, rfl, rfl⟩
          · intro w27 hE
            rintro _ rfl
            rintro _ rfl
            intro R
            refine WL.gtrD rfl rfl rfl ?_
            exact WL.done ⟨_, rfl, rfl, rfl⟩
        · intro vals w28 hT hVs
          rw [if_neg (by decide)] at hT
          have hB := ext_trans hB hT
          have hv0 : vals 0 = _ := hVs 0 (by decide) (by decide)
          have hv1 : vals 1 = _ := hVs 1 (by decide) (by decide)
          have hv2 : vals 2 = _ := hVs 2 (by decide) (by decide)
          have hv3 : vals 3 = _ := hVs 3 (by decide) (by decide)
          have hv4 : vals 4 = _ := hVs 4 (by decide) (by decide)
          have hv5 : vals 5 = _ := hVs 5 (by decide) (by decide)
          have hv6 : vals 6 = _ := hVs 6 (by decide) (by decide)
          have hv7 : vals 7 = _ := hVs 7 (by decide) (by decide)
          have hv8 : vals 8 = _ := hVs 8 (by decide) (by decide)
          have hv9 : vals 9 = _ := hVs 9 (by decide) (by decide)
          have hv10 : vals 10 = _ := hVs 10 (by decide) (by decide)
          have hv11 : vals 11 = _ := hVs 11 (by decide) (by decide)
          have hv12 : vals 12 = _ := hVs 12 (by decide) (by decide)
          have hv13 : vals 13 = _ := hVs 13 (by decide) (by decide)
          have hv14 : vals 14 = _ := hVs 14 (by decide) (by decide)
          rw [show (List.filterMap (fun i => Option.map (fun t => (t, vals i)) (dstAt _ i)) (List.range _)) = [(12, .slice Al ml cl), (13, .int .i64 ((j : Nat) : Int)), (14, .pointer (some ((adOf Al).add (j * 3)))), (15, .pointer (some (((adOf Al).add (j * 3)).add 1))), (16, .slice (sA (cel.getD (j * 3 + 1) undef)) (sM (cel.getD (j * 3 + 1) undef)) (sC (cel.getD (j * 3 + 1) undef))), (17, .int .i64 (((sM (cel.getD (j * 3 + 1) undef)) : Nat) : Int)), (18, .slice Al ml cl), (19, .int .i64 ((j : Nat) : Int)), (20, .pointer (some ((adOf Al).add (j * 3)))), (21, .pointer (some (((adOf Al).add (j * 3)).add 2))), (22, .slice (sA (cel.getD (j * 3 + 2) undef)) (sM (cel.getD (j * 3 + 2) undef)) (sC (cel.getD (j * 3 + 2) undef))), (23, .int .i64 (((sM (cel.getD (j * 3 + 2) undef)) : Nat) : Int)), (24, .int .i64 (((sM (cel.getD (j * 3 + 1) undef)) + (sM (cel.getD (j * 3 + 2) undef)) : Nat) : Int)), (25, .int .i64 X), (26, .bool (decide (X < (((sM (cel.getD (j * 3 + 1) undef)) + (sM (cel.getD (j * 3 + 2) undef)) : Nat) : Int))))] from by
            show [(12, vals 0), (13, vals 1), (14, vals 2), (15, vals 3), (16, vals 4), (17, vals 5), (18, vals 6), (19, vals 7), (20, vals 8), (21, vals 9), (22, vals 10), (23, vals 11), (24, vals 12), (25, vals 13), (26, vals 14)] = _
            rw [hv0, hv1, hv2, hv3, hv4, hv5, hv6, hv7, hv8, hv9, hv10, hv11, hv12, hv13, hv14]]
          refine W.cond2 rfl (fun c29 => ?_) (fun c29 => ?_)
          · have c29 := of_decide_eq_true c29
            refine W.seq ?_
            refine W.region ?_
            refine WL.assign rfl rfl ?_
            refine WL.done ?_
            refine W.ret ?_
            refine ⟨_, rfl, ?_⟩
            exact ⟨true, rfl, hB, (fun _ => trivial), fun h => by cases h⟩
          · have c29 := of_decide_eq_false c29
            refine W.skip ?_
            refine W.region ?_
            refine WL.move rfl rfl ?_
            refine WL.add (r := ((j + 1 : Nat) : Int)) rfl rfl (wi64 (by omega) (by omega) (by omega)) rfl ?_
            refine WL.assign rfl rfl ?_
            refine WL.done ?_
            refine ⟨j + 1, ⟨iv (by omega), rfl, iv (by omega), trivial⟩, by omega, ?_⟩
            refine ⟨hB, by omega, fun i hi => ?_⟩
            rcases Nat.lt_succ_iff_lt_or_eq.1 hi with h | rfl
            · exact hin i h
            · omega
    · refine WL.done ?_
      refine W.condF rfl ?_
      refine W.exit ?_
      refine W.seq ?_
      refine W.region ?_
      refine WL.assign rfl rfl ?_
      refine WL.done ?_
      refine W.ret ?_
      refine ⟨_, rfl, ?_⟩
      exact ⟨false, rfl, hB, (fun h => by cases h), fun _ i hi => hin i (by omega)⟩

theorem RationalForms_c {w : World} {Ban : Nat} {Aan : Option Addr} {man can : Nat} {xan : List Nat} (han : Rd Ban w 1 Aan man can (us xan)) {Bad : Nat} {Aad : Option Addr} {mad cad : Nat} {xad : List Nat} (had : Rd Bad w 1 Aad mad cad (us xad)) {na : Bool} (hLan : Lim xan) (hLad : Lim xad) (hza : man * 4 ≤ 140737488351232 ∧ mad * 4 ≤ 140737488351232) :
    Calls Try.prog 4 #[.agg #[.bool na, .slice Aan man can, .slice Aad mad cad]] w fun e w2 => ∃ v, e = .returned v ∧ (fun v w2 => v = .bool true ∧ w.grownBy w2 none) v w2 := by
  have han := han.norm
  have han_l := han.ulen
  have han_x := han.max
  simp only [maxLen] at han_x
  have han_c := han.cap
  have had := had.norm
  have had_l := had.ulen
  have had_x := had.max
  simp only [maxLen] at had_x
  have had_c := had.cap
  have han0 := han
  have had0 := had
  obtain ⟨qa, hqa⟩ : ∃ q, val na (nv xan) (nv xad) = q := ⟨_, rfl⟩
  have hB := ext_refl w
  refine calls_of_W (vs := [.agg #[.bool na, .slice Aan man can, .slice Aad mad cad]]) [2] Try.func4 rfl rfl rfl rfl ?_
  refine W.seq ?_
  refine W.region ?_
  refine WL.box Try.el31 rfl rfl rfl ?_
  intro g11 w12 hg_g11 hVg11 hGw12
  change Own _ _ _ _ _ _ _ [.bool na, .slice Aan man can, .slice Aad mad cad] at hVg11
  have hVg11 := hVg11.low (b' := w.heap.size) hB.size
  have hB := ext_trans hB hGw12
  have han := han0.ext hB
  have had := had0.ext hB
  refine WL.assign rfl rfl ?_
  refine WL.done ?_
  refine W.seq ?_
  refine W.seq ?_
  refine W.region ?_
  refine WL.loadV (cs := [.bool na, .slice Aan man can, .slice Aad mad cad]) Try.el31 Try.agg31 rfl rfl hVg11.vcells rfl ?_
  refine WL.lit (b := w12.heap.size) (cells := [.bool na, .slice Aan man can, .slice Aad mad cad]) Try.underlying44 Try.el31 (by decide) ⟨_, rfl, by kernel_rfl⟩ rfl (Nat.le_refl _) rfl ?_
  rintro A13 w14 - hO15 hGw14
  have hO15 := hO15.low (b' := w.heap.size) hB.size
  have hB := ext_trans hB hGw14
  have han := han0.ext hB
  have had := had0.ext hB
  have hVg11 := hVg11.ext hGw14
  have hN16 : RatsR w14.heap.size w14 [.bool na, .slice Aan man can, .slice Aad mad cad] [(na, xan, xad)] := (RatsR.cons han.norm had.norm (RatsR.nil _ _))
  refine WL.call Try.func17 rfl Try.nm17 rfl rfl (long_c hO15.rd hN16 rfl (RLen.cons (by first | omega | (simp; done) | (simp; omega)) (by first | omega | (simp; done) | (simp; omega)) (RLen.nil _))) ?_
  rintro _ w17 ⟨bhlo, rfl, hGw17, hlo_t, hlo_f⟩
  have hB := ext_trans hB hGw17
  have han := han0.ext hB
  have had := had0.ext hB
  have hVg11 := hVg11.ext hGw17
  rcases bhlo with _ | _
  · have hlo := hlo_f rfl
    have hla : xan.length + xad.length ≤ 40 := hlo 0 (by simp)
    refine WL.done ?_
    refine W.condF rfl ?_
    refine W.skip ?_
    refine W.seq ?_
    refine W.drawT 26 [⟨[], [1], false⟩, ⟨[0], [], false⟩, ⟨[], [1], false⟩, ⟨[2], [], false⟩, ⟨[1, 3], [], false⟩, ⟨[4], [], true⟩, ⟨[5], [1], false⟩, ⟨[5, 6], [], false⟩, ⟨[5], [1], false⟩, ⟨[5, 8], [], false⟩, ⟨[5, 7, 9], [], true⟩, ⟨[5, 10], [], true⟩, ⟨[11], [], true⟩, ⟨[12], [1], false⟩, ⟨[12, 13], [], false⟩, ⟨[12], [1], false⟩, ⟨[12, 15], [], false⟩, ⟨[12, 14, 16], [], true⟩, ⟨[12, 17], [], true⟩, ⟨[18], [], true⟩, ⟨[19], [1], false⟩, ⟨[19, 20], [], false⟩, ⟨[19], [1], false⟩, ⟨[19, 22], [], false⟩, ⟨[19, 21, 23], [], false⟩, ⟨[19, 24], [], true⟩] [[(1, .pointer (some ⟨g11, 0, none⟩))], [], [(1, .pointer (some ⟨g11, 0, none⟩))], [], [], [], [(1, .pointer (some ⟨g11, 0, none⟩))], [], [(1, .pointer (some ⟨g11, 0, none⟩))], [], [], [], [], [(1, .pointer (some ⟨g11, 0, none⟩))], [], [(1, .pointer (some ⟨g11, 0, none⟩))], [], [], [], [], [(1, .pointer (some ⟨g11, 0, none⟩))], [], [(1, .pointer (some ⟨g11, 0, none⟩))], [], [], []] (fun iQ => [fun v wQ => v = .agg #[.bool na, .slice Aan man can, .slice Aad mad cad], fun v wQ => ∃ A21 m22 c23 A24 m25 c26, v = .agg #[.bool (qneg (qa)), .slice A21 m22 c23, .slice A24 m25 c26] ∧ (Own w.heap.size wQ 43 1 A21 m22 c23 (us (digs (qnum (qa))))) ∧ (Own w.heap.size wQ 43 1 A24 m25 c26 (us (digs (Rat.den (qa))))) ∧ (m22 ≤ man ∧ m25 ≤ mad + 1) ∧ (∀ k, bl A21 = some k → k ≠ g11) ∧ (∀ k, bl A24 = some k → k ≠ g11), fun v wQ => v = .agg #[.bool na, .slice Aan man can, .slice Aad mad cad], fun v wQ => ∃ A30 m31 c32 A33 m34 c35, v = .agg #[.bool (qneg (qa)), .slice A30 m31 c32, .slice A33 m34 c35] ∧ (Own w.heap.size wQ 43 1 A30 m31 c32 (us (digs (qnum (qa))))) ∧ (Own w.heap.size wQ 43 1 A33 m34 c35 (us (digs (Rat.den (qa))))) ∧ (m31 ≤ man ∧ m34 ≤ mad + 1) ∧ (∀ k, bl A30 = some k → k ≠ g11) ∧ (∀ k, bl A33 = some k → k ≠ g11), fun v wQ => v = .bool true, fun v wQ => v = .bool true, fun v wQ => v = .agg #[.bool na, .slice Aan man can, .slice Aad mad cad], fun v wQ => v = .bool (decide (na = qneg (qa) ∧ xan = digs (qnum (qa)) ∧ xad = digs (Rat.den (qa)))), fun v wQ => v = .agg #[.bool na, .slice Aan man can, .slice Aad mad cad], fun v wQ => v = .bool (decide (na = qneg (qa) ∧ xan = digs (qnum (qa)) ∧ xad = digs (Rat.den (qa)))), fun v wQ => v = .bool true, fun v wQ => v = .bool true, fun v wQ => v = .bool true, fun v wQ => v = .agg #[.bool na, .slice Aan man can, .slice Aad mad cad], fun v wQ => v = .int .i64 (sg (qa)), fun v wQ => v = .agg #[.bool na, .slice Aan man can, .slice Aad mad cad], fun v wQ => v = .int .i64 (sg (qa)), fun v wQ => v = .bool true, fun v wQ => v = .bool true, fun v wQ => v = .bool true, fun v wQ => v = .agg #[.bool na, .slice Aan man can, .slice Aad mad cad], fun v wQ => ∃ A60 m61 c62 A63 m64 c65, v = .agg #[.bool (qneg (-(qa))), .slice A60 m61 c62, .slice A63 m64 c65] ∧ (Own w.heap.size wQ 43 1 A60 m61 c62 (us (digs (qnum (-(qa)))))) ∧ (Own w.heap.size wQ 43 1 A63 m64 c65 (us (digs (Rat.den (-(qa)))))) ∧ (m61 ≤ man ∧ m64 ≤ mad + 1) ∧ (∀ k, bl A60 = some k → k ≠ g11) ∧ (∀ k, bl A63 = some k → k ≠ g11), fun v wQ => v = .agg #[.bool na, .slice Aan man can, .slice Aad mad cad], fun v wQ => ∃ A69 m70 c71 A72 m73 c74, v = .agg #[.bool (qneg (-(qa))), .slice A69 m70 c71, .slice A72 m73 c74] ∧ (Own w.heap.size wQ 43 1 A69 m70 c71 (us (digs (qnum (-(qa)))))) ∧ (Own w.heap.size wQ 43 1 A72 m73 c74 (us (digs (Rat.den (-(qa)))))) ∧ (m70 ≤ man ∧ m73 ≤ mad + 2) ∧ (∀ k, bl A69 = some k → k ≠ g11) ∧ (∀ k, bl A72 = some k → k ≠ g11), fun v wQ => v = .bool true, fun v wQ => v = .bool true].getD iQ (fun _ _ => True)) Try.mixed (by kernel_rfl) ?_ ?_ ?_
    · refine Vs_monoT _ ?_
      intro VQ hVQ vQ wQ1 wQ2 hQ1 hQ2
      simp only [List.mem_cons, List.not_mem_nil, or_false] at hVQ
      rcases hVQ with rfl | rfl | rfl | rfl | rfl | rfl | rfl | rfl | rfl | rfl | rfl | rfl | rfl | rfl | rfl | rfl | rfl | rfl | rfl | rfl | rfl | rfl | rfl | rfl | rfl | rfl
      · exact hQ1
      · obtain ⟨A21, m22, c23, A24, m25, c26, hQe, h1n, h1d, h1m, hap_h1n_g11, hap_h1d_g11⟩ := hQ1
        exact ⟨A21, m22, c23, A24, m25, c26, hQe, h1n.ext hQ2, h1d.ext hQ2, h1m, hap_h1n_g11, hap_h1d_g11⟩
      · exact hQ1
      · obtain ⟨A30, m31, c32, A33, m34, c35, hQe, h2n, h2d, h2m, hap_h2n_g11, hap_h2d_g11⟩ := hQ1
        exact ⟨A30, m31, c32, A33, m34, c35, hQe, h2n.ext hQ2, h2d.ext hQ2, h2m, hap_h2n_g11, hap_h2d_g11⟩
      · exact hQ1
      · exact hQ1
      · exact hQ1
      · exact hQ1
      · exact hQ1
      · exact hQ1
      · exact hQ1
      · exact hQ1
      · exact hQ1
      · exact hQ1
      · exact hQ1
      · exact hQ1
      · exact hQ1
      · exact hQ1
      · exact hQ1
      · exact hQ1
      · exact hQ1
      · obtain ⟨A60, m61, c62, A63, m64, c65, hQe, h3n, h3d, h3m, hap_h3n_g11, hap_h3d_g11⟩ := hQ1
        exact ⟨A60, m61, c62, A63, m64, c65, hQe, h3n.ext hQ2, h3d.ext hQ2, h3m, hap_h3n_g11, hap_h3d_g11⟩
      · exact hQ1
      · obtain ⟨A69, m70, c71, A72, m73, c74, hQe, h4n, h4d, h4m, hap_h4n_g11, hap_h4d_g11⟩ := hQ1
        exact ⟨A69, m70, c71, A72, m73, c74, hQe, h4n.ext hQ2, h4d.ext hQ2, h4m, hap_h4n_g11, hap_h4d_g11⟩
      · exact hQ1
      · exact hQ1
    · refine ⟨⟨rfl, ⟨rfl, trivial⟩, ?_⟩, ⟨rfl, trivial, ?_⟩, ⟨rfl, ⟨rfl, trivial⟩, ?_⟩, ⟨rfl, trivial, ?_⟩, ⟨rfl, trivial, ?_⟩, ⟨rfl, trivial, ?_⟩, ⟨rfl, ⟨rfl, trivial⟩, ?_⟩, ⟨rfl, trivial, ?_⟩, ⟨rfl, ⟨rfl, trivial⟩, ?_⟩, ⟨rfl, trivial, ?_⟩, ⟨rfl, trivial, ?_⟩, ⟨rfl, trivial, ?_⟩, ⟨rfl, trivial, ?_⟩, ⟨rfl, ⟨rfl, trivial⟩, ?_⟩, ⟨rfl, trivial, ?_⟩, ⟨rfl, ⟨rfl, trivial⟩, ?_⟩, ⟨rfl, trivial, ?_⟩, ⟨rfl, trivial, ?_⟩, ⟨rfl, trivial, ?_⟩, ⟨rfl, trivial, ?_⟩, ⟨rfl, ⟨rfl, trivial⟩, ?_⟩, ⟨rfl, trivial, ?_⟩, ⟨rfl, ⟨rfl, trivial⟩, ?_⟩, ⟨rfl, trivial, ?_⟩, ⟨rfl, trivial, ?_⟩, ⟨rfl, trivial, ?_⟩, trivial⟩
      · intro w18 hE
        have hE := hE rfl
        have hB := ext_trans hB hE
        have hVg11 := hVg11.ext hE
        intro R
        refine WL.loadV (cs := [.bool na, .slice Aan man can, .slice Aad mad cad]) Try.el31 Try.agg31 rfl rfl hVg11.vcells rfl ?_
        exact WL.done ⟨_, rfl, ext_refl _, rfl⟩
      · intro w19 hE
        have hE := hE rfl
        have hB := ext_trans hB hE
        have han := han0.ext hB
        have had := had0.ext hB
        have hVg11 := hVg11.ext hE
        rintro _ rfl
        intro R
        refine WL.call Try.func19 rfl Try.nm19 rfl rfl (qTrim_c han had hLan hLad qa hqa (by omega)) ?_
        rintro _ w20 ⟨A21, m22, c23, A24, m25, c26, rfl, hGw20, h1n, h1d, h1m⟩
        have hap_h1n_g11 := ap_new h1n (hVg11.bl_ge _ rfl).2
        have hap_h1d_g11 := ap_new h1d (hVg11.bl_ge _ rfl).2
        have h1n := h1n.low (b' := w.heap.size) hB.size
        have h1d := h1d.low (b' := w.heap.size) hB.size
        have hB := ext_trans hB hGw20
        have h1n_l := h1n.rd.ulen
        have h1d_l := h1d.rd.ulen
        exact WL.done ⟨_, rfl, hGw20, ⟨A21, m22, c23, A24, m25, c26, rfl, h1n, h1d, h1m, hap_h1n_g11, hap_h1d_g11⟩⟩
      · intro w27 hE
        have hE := hE rfl
        have hB := ext_trans hB hE
        have hVg11 := hVg11.ext hE
        intro R
        refine WL.loadV (cs := [.bool na, .slice Aan man can, .slice Aad mad cad]) Try.el31 Try.agg31 rfl rfl hVg11.vcells rfl ?_
        exact WL.done ⟨_, rfl, ext_refl _, rfl⟩
      · intro w28 hE
        have hE := hE rfl
        have hB := ext_trans hB hE
        have han := han0.ext hB
        have had := had0.ext hB
        have hVg11 := hVg11.ext hE
        rintro _ rfl
        intro R
        refine WL.call Try.func20 rfl Try.nm20 rfl rfl (rqTrim_c han had hLan hLad qa hqa (by omega)) ?_
        rintro _ w29 ⟨A30, m31, c32, A33, m34, c35, rfl, hGw29, h2n, h2d, h2m⟩
        have hap_h2n_g11 := ap_new h2n (hVg11.bl_ge _ rfl).2
        have hap_h2d_g11 := ap_new h2d (hVg11.bl_ge _ rfl).2
        have h2n := h2n.low (b' := w.heap.size) hB.size
        have h2d := h2d.low (b' := w.heap.size) hB.size
        have hB := ext_trans hB hGw29
        have h2n_l := h2n.rd.ulen
        have h2d_l := h2d.rd.ulen
        exact WL.done ⟨_, rfl, hGw29, ⟨A30, m31, c32, A33, m34, c35, rfl, h2n, h2d, h2m, hap_h2n_g11, hap_h2d_g11⟩⟩
      · intro w36 hE
        have hE := hE rfl
        have hB := ext_trans hB hE
        rintro _ ⟨A21, m22, c23, A24, m25, c26, rfl, h1n, h1d, h1m, hap_h1n_g11, hap_h1d_g11⟩
        rintro _ ⟨A30, m31, c32, A33, m34, c35, rfl, h2n, h2d, h2m, hap_h2n_g11, hap_h2d_g11⟩
        intro R
        refine WL.call Try.func18 rfl Try.nm18 rfl rfl (qsame_t h1n.rd h1d.rd h2n.rd h2d.rd ⟨rfl, rfl, rfl⟩) ?_
        rintro _ w37 ⟨rfl, hGw37⟩
        have hB := ext_trans hB hGw37
        exact WL.done ⟨_, rfl, hGw37, rfl⟩
      · intro w38 hE
        rintro _ rfl
        intro R
        refine WL.move rfl rfl ?_
        exact WL.done ⟨_, rfl, rfl, rfl⟩
      · intro w39 hE
        have hE := hE rfl
        have hB := ext_trans hB hE
        have hVg11 := hVg11.ext hE
        rintro _ rfl
        intro R
        refine WL.take rfl ?_
        refine WL.loadV (cs := [.bool na, .slice Aan man can, .slice Aad mad cad]) Try.el31 Try.agg31 rfl rfl hVg11.vcells rfl ?_
        exact WL.done ⟨_, rfl, ext_refl _, rfl⟩
      · intro w40 hE
        have hE := hE rfl
        have hB := ext_trans hB hE
        have han := han0.ext hB
        have had := had0.ext hB
        rintro _ rfl
        rintro _ rfl
        intro R
        refine WL.take rfl ?_
        refine WL.call Try.func21 rfl Try.nm21 rfl rfl (qIs_d han had hLan hLad qa hqa (by omega)) ?_
        rintro _ w41 ⟨rfl, hGw41⟩
        have hB := ext_trans hB hGw41
        exact WL.done ⟨_, rfl, hGw41, rfl⟩
      · intro w42 hE
        have hE := hE rfl
        have hB := ext_trans hB hE
        have hVg11 := hVg11.ext hE
        rintro _ rfl
        intro R
        refine WL.take rfl ?_
        refine WL.loadV (cs := [.bool na, .slice Aan man can, .slice Aad mad cad]) Try.el31 Try.agg31 rfl rfl hVg11.vcells rfl ?_
        exact WL.done ⟨_, rfl, ext_refl _, rfl⟩
      · intro w43 hE
        have hE := hE rfl
        have hB := ext_trans hB hE
        have han := han0.ext hB
        have had := had0.ext hB
        rintro _ rfl
        rintro _ rfl
        intro R
        refine WL.take rfl ?_
        refine WL.call Try.func22 rfl Try.nm22 rfl rfl (rqIs_d han had hLan hLad qa hqa (by omega)) ?_
        rintro _ w44 ⟨rfl, hGw44⟩
        have hB := ext_trans hB hGw44
        exact WL.done ⟨_, rfl, hGw44, rfl⟩
      · intro w45 hE
        rintro _ rfl
        rintro _ rfl
        rintro _ rfl
        intro R
        refine WL.take rfl ?_
        refine WL.eqB (r := true) rfl rfl Try.underlying4 (beq_self_eq_true _) rfl ?_
        exact WL.done ⟨_, rfl, rfl, rfl⟩
      · intro w46 hE
        rintro _ rfl
        rintro _ rfl
        intro R
        refine WL.pick rfl rfl rfl ?_
        exact WL.done ⟨_, rfl, rfl, rfl⟩
      · intro w47 hE
        rintro _ rfl
        intro R
        refine WL.move rfl rfl ?_
        exact WL.done ⟨_, rfl, rfl, rfl⟩
      · intro w48 hE
        have hE := hE rfl
        have hB := ext_trans hB hE
        have hVg11 := hVg11.ext hE
        rintro _ rfl
        intro R
        refine WL.take rfl ?_
        refine WL.loadV (cs := [.bool na, .slice Aan man can, .slice Aad mad cad]) Try.el31 Try.agg31 rfl rfl hVg11.vcells rfl ?_
        exact WL.done ⟨_, rfl, ext_refl _, rfl⟩
      · intro w49 hE
        have hE := hE rfl
        have hB := ext_trans hB hE
        have han := han0.ext hB
        have had := had0.ext hB
        rintro _ rfl
        rintro _ rfl
        intro R
        refine WL.take rfl ?_
        refine WL.call Try.func23 rfl Try.nm23 rfl rfl (qSign_c han had hLan hLad qa hqa (by omega)) ?_
        rintro _ w50 ⟨rfl, hGw50⟩
        have hB := ext_trans hB hGw50
        exact WL.done ⟨_, rfl, hGw50, rfl⟩
      · intro w51 hE
        have hE := hE rfl
        have hB := ext_trans hB hE
        have hVg11 := hVg11.ext hE
        rintro _ rfl
        intro R
        refine WL.take rfl ?_
        refine WL.loadV (cs := [.bool na, .slice Aan man can, .slice Aad mad cad]) Try.el31 Try.agg31 rfl rfl hVg11.vcells rfl ?_
        exact WL.done ⟨_, rfl, ext_refl _, rfl⟩
      · intro w52 hE
        have hE := hE rfl
        have hB := ext_trans hB hE
        have han := han0.ext hB
        have had := had0.ext hB
        rintro _ rfl
        rintro _ rfl
        intro R
        refine WL.take rfl ?_
        refine WL.call Try.func24 rfl Try.nm24 rfl rfl (rqSign_c han had hLan hLad qa hqa (by omega)) ?_
        rintro _ w53 ⟨rfl, hGw53⟩
        have hB := ext_trans hB hGw53
        exact WL.done ⟨_, rfl, hGw53, rfl⟩
      · intro w54 hE
        rintro _ rfl
        rintro _ rfl
        rintro _ rfl
        intro R
        refine WL.take rfl ?_
        refine WL.eqlD rfl rfl rfl ?_
        rw [show decide ((sg (qa)) = (sg (qa))) = true from decide_eq_true rfl]
        exact WL.done ⟨_, rfl, rfl, rfl⟩
      · intro w55 hE
        rintro _ rfl
        rintro _ rfl
        intro R
        refine WL.pick rfl rfl rfl ?_
        exact WL.done ⟨_, rfl, rfl, rfl⟩
      · intro w56 hE
        rintro _ rfl
        intro R
        refine WL.move rfl rfl ?_
        exact WL.done ⟨_, rfl, rfl, rfl⟩
      · intro w57 hE
        have hE := hE rfl
        have hB := ext_trans hB hE
        have hVg11 := hVg11.ext hE
        rintro _ rfl
        intro R
        refine WL.take rfl ?_
        refine WL.loadV (cs := [.bool na, .slice Aan man can, .slice Aad mad cad]) Try.el31 Try.agg31 rfl rfl hVg11.vcells rfl ?_
        exact WL.done ⟨_, rfl, ext_refl _, rfl⟩
      · intro w58 hE
        have hE := hE rfl
        have hB := ext_trans hB hE
        have han := han0.ext hB
        have had := had0.ext hB
        have hVg11 := hVg11.ext hE
        rintro _ rfl
        rintro _ rfl
        intro R
        refine WL.take rfl ?_
        refine WL.call Try.func25 rfl Try.nm25 rfl rfl (qNeg_c han had hLan hLad qa hqa (by omega)) ?_
        rintro _ w59 ⟨A60, m61, c62, A63, m64, c65, rfl, hGw59, h3n, h3d, h3m⟩
        have hap_h3n_g11 := ap_new h3n (hVg11.bl_ge _ rfl).2
        have hap_h3d_g11 := ap_new h3d (hVg11.bl_ge _ rfl).2
        have h3n := h3n.low (b' := w.heap.size) hB.size
        have h3d := h3d.low (b' := w.heap.size) hB.size
        have hB := ext_trans hB hGw59
        have h3n_l := h3n.rd.ulen
        have h3d_l := h3d.rd.ulen
        exact WL.done ⟨_, rfl, hGw59, ⟨A60, m61, c62, A63, m64, c65, rfl, h3n, h3d, h3m, hap_h3n_g11, hap_h3d_g11⟩⟩
      · intro w66 hE
        have hE := hE rfl
        have hB := ext_trans hB hE
        have hVg11 := hVg11.ext hE
        rintro _ rfl
        intro R
        refine WL.take rfl ?_
        refine WL.loadV (cs := [.bool na, .slice Aan man can, .slice Aad mad cad]) Try.el31 Try.agg31 rfl rfl hVg11.vcells rfl ?_
        exact WL.done ⟨_, rfl, ext_refl _, rfl⟩
      · intro w67 hE
        have hE := hE rfl
        have hB := ext_trans hB hE
        have han := han0.ext hB
        have had := had0.ext hB
        have hVg11 := hVg11.ext hE
        rintro _ rfl
        rintro _ rfl
        intro R
        refine WL.take rfl ?_
        refine WL.call Try.func26 rfl Try.nm26 rfl rfl (rqNeg_c han had hLan hLad qa hqa (by omega)) ?_
        rintro _ w68 ⟨A69, m70, c71, A72, m73, c74, rfl, hGw68, h4n, h4d, h4m⟩
        have hap_h4n_g11 := ap_new h4n (hVg11.bl_ge _ rfl).2
        have hap_h4d_g11 := ap_new h4d (hVg11.bl_ge _ rfl).2
        have h4n := h4n.low (b' := w.heap.size) hB.size
        have h4d := h4d.low (b' := w.heap.size) hB.size
        have hB := ext_trans hB hGw68
        have h4n_l := h4n.rd.ulen
        have h4d_l := h4d.rd.ulen
        exact WL.done ⟨_, rfl, hGw68, ⟨A69, m70, c71, A72, m73, c74, rfl, h4n, h4d, h4m, hap_h4n_g11, hap_h4d_g11⟩⟩
      · intro w75 hE
        have hE := hE rfl
        have hB := ext_trans hB hE
        rintro _ rfl
        rintro _ ⟨A60, m61, c62, A63, m64, c65, rfl, h3n, h3d, h3m, hap_h3n_g11, hap_h3d_g11⟩
        rintro _ ⟨A69, m70, c71, A72, m73, c74, rfl, h4n, h4d, h4m, hap_h4n_g11, hap_h4d_g11⟩
        intro R
        refine WL.take rfl ?_
        refine WL.call Try.func18 rfl Try.nm18 rfl rfl (qsame_t h3n.rd h3d.rd h4n.rd h4d.rd ⟨rfl, rfl, rfl⟩) ?_
        rintro _ w76 ⟨rfl, hGw76⟩
        have hB := ext_trans hB hGw76
        exact WL.done ⟨_, rfl, hGw76, rfl⟩
      · intro w77 hE
        rintro _ rfl
        rintro _ rfl
        intro R
        refine WL.pick rfl rfl rfl ?_
        exact WL.done ⟨_, rfl, rfl, rfl⟩
    · intro vals w78 hT hVs
      have hB := ext_trans hB hT
      have hv0 : vals 0 = _ := hVs 0 (by decide)
      obtain ⟨A21, m22, c23, A24, m25, c26, hv1, h1n, h1d, h1m, hap_h1n_g11, hap_h1d_g11⟩ := hVs 1 (by decide)
      have hv2 : vals 2 = _ := hVs 2 (by decide)
      obtain ⟨A30, m31, c32, A33, m34, c35, hv3, h2n, h2d, h2m, hap_h2n_g11, hap_h2d_g11⟩ := hVs 3 (by decide)
      have hv4 : vals 4 = _ := hVs 4 (by decide)
      have hv5 : vals 5 = _ := hVs 5 (by decide)
      have hv6 : vals 6 = _ := hVs 6 (by decide)
      have hv7 : vals 7 = _ := hVs 7 (by decide)
      have hv8 : vals 8 = _ := hVs 8 (by decide)
      have hv9 : vals 9 = _ := hVs 9 (by decide)
      have hv10 : vals 10 = _ := hVs 10 (by decide)
      have hv11 : vals 11 = _ := hVs 11 (by decide)
      have hv12 : vals 12 = _ := hVs 12 (by decide)
      have hv13 : vals 13 = _ := hVs 13 (by decide)
      have hv14 : vals 14 = _ := hVs 14 (by decide)
      have hv15 : vals 15 = _ := hVs 15 (by decide)
      have hv16 : vals 16 = _ := hVs 16 (by decide)
      have hv17 : vals 17 = _ := hVs 17 (by decide)
      have hv18 : vals 18 = _ := hVs 18 (by decide)
      have hv19 : vals 19 = _ := hVs 19 (by decide)
      have hv20 : vals 20 = _ := hVs 20 (by decide)
      obtain ⟨A60, m61, c62, A63, m64, c65, hv21, h3n, h3d, h3m, hap_h3n_g11, hap_h3d_g11⟩ := hVs 21 (by decide)
      have hv22 : vals 22 = _ := hVs 22 (by decide)
      obtain ⟨A69, m70, c71, A72, m73, c74, hv23, h4n, h4d, h4m, hap_h4n_g11, hap_h4d_g11⟩ := hVs 23 (by decide)
      have hv24 : vals 24 = _ := hVs 24 (by decide)
      have hv25 : vals 25 = _ := hVs 25 (by decide)
      rw [show (List.filterMap (fun i => Option.map (fun t => (t, vals i)) (dstAt _ i)) (List.range _)) = [(6, .agg #[.bool na, .slice Aan man can, .slice Aad mad cad]), (7, .agg #[.bool (qneg (qa)), .slice A21 m22 c23, .slice A24 m25 c26]), (8, .agg #[.bool na, .slice Aan man can, .slice Aad mad cad]), (9, .agg #[.bool (qneg (qa)), .slice A30 m31 c32, .slice A33 m34 c35]), (10, .bool true), (11, .bool true), (12, .agg #[.bool na, .slice Aan man can, .slice Aad mad cad]), (13, .bool (decide (na = qneg (qa) ∧ xan = digs (qnum (qa)) ∧ xad = digs (Rat.den (qa))))), (14, .agg #[.bool na, .slice Aan man can, .slice Aad mad cad]), (15, .bool (decide (na = qneg (qa) ∧ xan = digs (qnum (qa)) ∧ xad = digs (Rat.den (qa))))), (16, .bool true), (17, .bool true), (18, .bool true), (19, .agg #[.bool na, .slice Aan man can, .slice Aad mad cad]), (20, .int .i64 (sg (qa))), (21, .agg #[.bool na, .slice Aan man can, .slice Aad mad cad]), (22, .int .i64 (sg (qa))), (23, .bool true), (24, .bool true), (25, .bool true), (26, .agg #[.bool na, .slice Aan man can, .slice Aad mad cad]), (27, .agg #[.bool (qneg (-(qa))), .slice A60 m61 c62, .slice A63 m64 c65]), (28, .agg #[.bool na, .slice Aan man can, .slice Aad mad cad]), (29, .agg #[.bool (qneg (-(qa))), .slice A69 m70 c71, .slice A72 m73 c74]), (30, .bool true), (31, .bool true)] from by
        show [(6, vals 0), (7, vals 1), (8, vals 2), (9, vals 3), (10, vals 4), (11, vals 5), (12, vals 6), (13, vals 7), (14, vals 8), (15, vals 9), (16, vals 10), (17, vals 11), (18, vals 12), (19, vals 13), (20, vals 14), (21, vals 15), (22, vals 16), (23, vals 17), (24, vals 18), (25, vals 19), (26, vals 20), (27, vals 21), (28, vals 22), (29, vals 23), (30, vals 24), (31, vals 25)] = _
        rw [hv0, hv1, hv2, hv3, hv4, hv5, hv6, hv7, hv8, hv9, hv10, hv11, hv12, hv13, hv14, hv15, hv16, hv17, hv18, hv19, hv20, hv21, hv22, hv23, hv24, hv25]]
      refine WA.step [26] (by decide +kernel) rfl ?_
      intro iQ hQ
      simp only [List.mem_cons, List.not_mem_nil, or_false] at hQ
      obtain rfl := hQ
      · refine ⟨_, rfl, ?_⟩
        refine WL.assign rfl rfl ?_
        refine WL.done ?_
        refine WA.done (by decide +kernel) ?_
        refine W.ret ?_
        refine ⟨_, rfl, ?_⟩
        exact ⟨rfl, hB⟩
  · have hlo := hlo_t rfl
    refine WL.done ?_
    refine W.condT rfl ?_
    refine W.seq ?_
    refine W.region ?_
    refine WL.assign rfl rfl ?_
    refine WL.done ?_
    refine W.ret ?_
    refine ⟨_, rfl, ?_⟩
    exact ⟨rfl, hB⟩

theorem RationalMakes_z {w : World} {X : Int} (hX : -9223372036854775808 ≤ X ∧ X ≤ 9223372036854775807) :
    Calls Try.prog 5 #[.int .i64 X, .int .i64 0] w fun e w2 => ∃ v, e = .returned v ∧ (fun v w2 => v = .bool true ∧ w.grownBy w2 none) v w2 := by
  have hB := ext_refl w
  refine calls_of_W (vs := [.int .i64 X, .int .i64 0]) [4] Try.func5 rfl rfl rfl rfl ?_
  refine W.seq ?_
  refine W.region ?_
  refine WL.assign rfl rfl ?_
  refine WL.done ?_
  refine W.seq ?_
  refine W.region ?_
  refine WL.move rfl rfl ?_
  refine WL.move rfl rfl ?_
  refine WL.call Try.func27 rfl Try.nm27 rfl rfl (qOf_z (by omega)) ?_
  rintro _ w11 ⟨rfl, hGw11⟩
  have hB := ext_trans hB hGw11
  refine WL.move rfl rfl ?_
  refine WL.extract rfl rfl rfl ?_
  refine WL.extract rfl rfl rfl ?_
  refine WL.alloc Try.el31 rfl ?_
  intro g12 w13 hg_g12 hVg12 hGw13
  change Own _ _ _ _ _ _ _ [.bool false, .slice none 0 0, .slice none 0 0] at hVg12
  have hVg12 := hVg12.low (b' := w.heap.size) hB.size
  have hB := ext_trans hB hGw13
  refine WL.storeV Try.el31 rfl rfl rfl rfl hVg12 ?_
  have hOld15 := hVg12
  intro w14 hVg12 hGw14
  change Own _ _ _ _ _ _ _ [.bool false, .slice none 0 0, .slice none 0 0] at hVg12
  have hB := ext_own hB hGw14 (fun g hg => (hOld15.bl_ge g hg).1)
  refine WL.assign rfl rfl ?_
  refine WL.done ?_
  refine W.seq ?_
  refine W.seq ?_
  refine W.region ?_
  refine WL.move rfl rfl ?_
  refine WL.eql rfl rfl rfl (fun c16 => ?_) (fun c16 => ?_)
  · refine WL.done ?_
    refine W.condT rfl ?_
    refine W.seq ?_
    refine W.region ?_
    refine WL.move rfl rfl ?_
    refine WL.eql rfl rfl rfl (fun c17 => ?_) (fun c17 => ?_)
    · refine WL.move rfl rfl ?_
      refine WL.take rfl ?_
      refine WL.loadV (cs := [.bool false, .slice none 0 0, .slice none 0 0]) Try.el31 Try.agg31 rfl rfl hVg12.vcells rfl ?_
      refine WL.take rfl ?_
      refine WL.call Try.func28 rfl Try.nm28 rfl rfl (rNil_c) ?_
      rintro _ w18 ⟨rfl, hGw18⟩
      have hB := ext_trans hB hGw18
      refine WL.pick rfl rfl rfl ?_
      refine WL.assign rfl rfl ?_
      refine WL.done ?_
      refine W.ret ?_
      refine ⟨_, rfl, ?_⟩
      exact ⟨rfl, hB⟩
    · exfalso
      omega
  · exfalso
    omega

theorem RationalMakes_ok {w : World} {X Y : Int} (hX : -9223372036854775808 ≤ X ∧ X ≤ 9223372036854775807) (hY : -9223372036854775808 ≤ Y ∧ Y ≤ 9223372036854775807) (hY0 : Y ≠ 0) :
    Calls Try.prog 5 #[.int .i64 X, .int .i64 Y] w fun e w2 => ∃ v, e = .returned v ∧ (fun v w2 => v = .bool true ∧ w.grownBy w2 none) v w2 := by
  have hB := ext_refl w
  refine calls_of_W (vs := [.int .i64 X, .int .i64 Y]) [4] Try.func5 rfl rfl rfl rfl ?_
  refine W.seq ?_
  refine W.region ?_
  refine WL.assign rfl rfl ?_
  refine WL.done ?_
  refine W.seq ?_
  refine W.region ?_
  refine WL.move rfl rfl ?_
  refine WL.move rfl rfl ?_
  refine WL.call Try.func27 rfl Try.nm27 rfl rfl (qOf_ok (by omega) (by omega) (by omega)) ?_
  rintro _ w11 ⟨A12, m13, c14, A15, m16, c17, rfl, hGw11, h1n, h1d, h1m⟩
  have h1n := h1n.low (b' := w.heap.size) hB.size
  have h1d := h1d.low (b' := w.heap.size) hB.size
  have hB := ext_trans hB hGw11
  have h1n_l := h1n.rd.ulen
  have h1d_l := h1d.rd.ulen
  refine WL.move rfl rfl ?_
  refine WL.extract rfl rfl rfl ?_
  refine WL.extract rfl rfl rfl ?_
  refine WL.alloc Try.el31 rfl ?_
  intro g18 w19 hg_g18 hVg18 hGw19
  change Own _ _ _ _ _ _ _ [.bool false, .slice none 0 0, .slice none 0 0] at hVg18
  have hap_h1n_g18 := ap_old h1n hg_g18
  have hap_h1d_g18 := ap_old h1d hg_g18
  have hVg18 := hVg18.low (b' := w.heap.size) hB.size
  have hB := ext_trans hB hGw19
  have h1n := h1n.ext hGw19
  have h1d := h1d.ext hGw19
  refine WL.storeV Try.el31 rfl rfl rfl rfl hVg18 ?_
  have hOld21 := hVg18
  intro w20 hVg18 hGw20
  change Own _ _ _ _ _ _ _ [.bool (qneg (qOf X Y)), .slice A12 m13 c14, .slice A15 m16 c17] at hVg18
  have hB := ext_own hB hGw20 (fun g hg => (hOld21.bl_ge g hg).1)
  have h1n := h1n.grown hGw20 (ap_row hap_h1n_g18)
  have h1d := h1d.grown hGw20 (ap_row hap_h1d_g18)
  refine WL.assign rfl rfl ?_
  refine WL.done ?_
  refine W.seq ?_
  refine W.seq ?_
  refine W.region ?_
  refine WL.move rfl rfl ?_
  refine WL.eql rfl rfl rfl (fun c22 => ?_) (fun c22 => ?_)
  · exfalso
    omega
  · refine WL.done ?_
    refine W.condF rfl ?_
    refine W.skip ?_
    refine W.seq ?_
    refine W.drawT 7 [⟨[], [6], true⟩, ⟨[0], [], true⟩, ⟨[1], [], true⟩, ⟨[2], [5], false⟩, ⟨[2], [0], true⟩, ⟨[2], [1], true⟩, ⟨[2, 4, 5], [], false⟩] [[(6, .int .i64 (0 : Int))], [], [], [(5, .pointer (some ⟨g18, 0, none⟩))], [(0, .int .i64 X)], [(1, .int .i64 Y)], []] (fun iQ => [fun v wQ => v = .int .i64 (0 : Int), fun v wQ => v = .bool true, fun v wQ => v = .bool true, fun v wQ => v = .agg #[.bool (qneg (qOf X Y)), .slice A12 m13 c14, .slice A15 m16 c17], fun v wQ => v = .int .i64 X, fun v wQ => v = .int .i64 Y, fun v wQ => ∃ A31 m32 c33 A34 m35 c36, v = .agg #[.bool (qneg (qOf X Y)), .slice A31 m32 c33, .slice A34 m35 c36] ∧ (Own w.heap.size wQ 43 1 A31 m32 c33 (us (digs (qnum (qOf X Y))))) ∧ (Own w.heap.size wQ 43 1 A34 m35 c36 (us (digs (Rat.den (qOf X Y))))) ∧ (m32 ≤ 2 ∧ m35 ≤ 3) ∧ (∀ k, bl A31 = some k → k ≠ g18) ∧ (∀ k, bl A34 = some k → k ≠ g18)].getD iQ (fun _ _ => True)) Try.mixed (by kernel_rfl) ?_ ?_ ?_
    · refine Vs_monoT _ ?_
      intro VQ hVQ vQ wQ1 wQ2 hQ1 hQ2
      simp only [List.mem_cons, List.not_mem_nil, or_false] at hVQ
      rcases hVQ with rfl | rfl | rfl | rfl | rfl | rfl | rfl
      · exact hQ1
      · exact hQ1
      · exact hQ1
      · exact hQ1
      · exact hQ1
      · exact hQ1
      · obtain ⟨A31, m32, c33, A34, m35, c36, hQe, h2n, h2d, h2m, hap_h2n_g18, hap_h2d_g18⟩ := hQ1
        exact ⟨A31, m32, c33, A34, m35, c36, hQe, h2n.ext hQ2, h2d.ext hQ2, h2m, hap_h2n_g18, hap_h2d_g18⟩
    · refine ⟨⟨rfl, ⟨rfl, trivial⟩, ?_⟩, ⟨rfl, trivial, ?_⟩, ⟨rfl, trivial, ?_⟩, ⟨rfl, ⟨rfl, trivial⟩, ?_⟩, ⟨rfl, ⟨rfl, trivial⟩, ?_⟩, ⟨rfl, ⟨rfl, trivial⟩, ?_⟩, ⟨rfl, trivial, ?_⟩, trivial⟩
      · intro w23 hE
        intro R
        refine WL.move rfl rfl ?_
        exact WL.done ⟨_, rfl, rfl, rfl⟩
      · intro w24 hE
        rintro _ rfl
        intro R
        refine WL.eqlD rfl rfl rfl ?_
        exact WL.done ⟨_, rfl, rfl, rfl⟩
      · intro w25 hE
        rintro _ rfl
        intro R
        refine WL.move rfl rfl ?_
        exact WL.done ⟨_, rfl, rfl, rfl⟩
      · intro w26 hE
        have hE := hE rfl
        have hB := ext_trans hB hE
        have hVg18 := hVg18.ext hE
        rintro _ rfl
        intro R
        refine WL.take rfl ?_
        refine WL.loadV (cs := [.bool (qneg (qOf X Y)), .slice A12 m13 c14, .slice A15 m16 c17]) Try.el31 Try.agg31 rfl rfl hVg18.vcells rfl ?_
        exact WL.done ⟨_, rfl, ext_refl _, rfl⟩
      · intro w27 hE
        rintro _ rfl
        intro R
        refine WL.take rfl ?_
        refine WL.move rfl rfl ?_
        exact WL.done ⟨_, rfl, rfl, rfl⟩
      · intro w28 hE
        rintro _ rfl
        intro R
        refine WL.take rfl ?_
        refine WL.move rfl rfl ?_
        exact WL.done ⟨_, rfl, rfl, rfl⟩
      · intro w29 hE
        have hE := hE rfl
        have hB := ext_trans hB hE
        have hVg18 := hVg18.ext hE
        rintro _ rfl
        rintro _ rfl
        rintro _ rfl
        intro R
        refine WL.take rfl ?_
        refine WL.call Try.func29 rfl Try.nm29 rfl rfl (rqOf_c (by omega) (by omega)) ?_
        rintro _ w30 ⟨A31, m32, c33, A34, m35, c36, rfl, hGw30, h2n, h2d, h2m⟩
        have hap_h2n_g18 := ap_new h2n (hVg18.bl_ge _ rfl).2
        have hap_h2d_g18 := ap_new h2d (hVg18.bl_ge _ rfl).2
        have h2n := h2n.low (b' := w.heap.size) hB.size
        have h2d := h2d.low (b' := w.heap.size) hB.size
        have hB := ext_trans hB hGw30
        have h2n_l := h2n.rd.ulen
        have h2d_l := h2d.rd.ulen
        exact WL.done ⟨_, rfl, hGw30, ⟨A31, m32, c33, A34, m35, c36, rfl, h2n, h2d, h2m, hap_h2n_g18, hap_h2d_g18⟩⟩
    · intro vals w37 hT hVs
      have hB := ext_trans hB hT
      have h1n := h1n.ext hT
      have h1d := h1d.ext hT
      have hv0 : vals 0 = _ := hVs 0 (by decide)
      have hv1 : vals 1 = _ := hVs 1 (by decide)
      have hv2 : vals 2 = _ := hVs 2 (by decide)
      have hv3 : vals 3 = _ := hVs 3 (by decide)
      have hv4 : vals 4 = _ := hVs 4 (by decide)
      have hv5 : vals 5 = _ := hVs 5 (by decide)
      obtain ⟨A31, m32, c33, A34, m35, c36, hv6, h2n, h2d, h2m, hap_h2n_g18, hap_h2d_g18⟩ := hVs 6 (by decide)
      rw [show (List.filterMap (fun i => Option.map (fun t => (t, vals i)) (dstAt _ i)) (List.range _)) = [(21, .int .i64 (0 : Int)), (22, .bool true), (23, .bool true), (24, .agg #[.bool (qneg (qOf X Y)), .slice A12 m13 c14, .slice A15 m16 c17]), (25, .int .i64 X), (26, .int .i64 Y), (27, .agg #[.bool (qneg (qOf X Y)), .slice A31 m32 c33, .slice A34 m35 c36])] from by
        show [(21, vals 0), (22, vals 1), (23, vals 2), (24, vals 3), (25, vals 4), (26, vals 5), (27, vals 6)] = _
        rw [hv0, hv1, hv2, hv3, hv4, hv5, hv6]]
      refine WA.step [7] (by decide +kernel) rfl ?_
      intro iQ hQ
      simp only [List.mem_cons, List.not_mem_nil, or_false] at hQ
      obtain rfl := hQ
      · refine ⟨_, rfl, ?_⟩
        refine WL.take rfl ?_
        refine WL.call Try.func18 rfl Try.nm18 rfl rfl (qsame_t h1n.rd h1d.rd h2n.rd h2d.rd ⟨rfl, rfl, rfl⟩) ?_
        rintro _ w38 ⟨rfl, hGw38⟩
        have hB := ext_trans hB hGw38
        refine WL.done ?_
        refine WA.step [8] (by decide +kernel) rfl ?_
        intro iQ hQ
        simp only [List.mem_cons, List.not_mem_nil, or_false] at hQ
        obtain rfl := hQ
        · refine ⟨_, rfl, ?_⟩
          refine WL.pick rfl rfl rfl ?_
          refine WL.done ?_
          refine WA.step [9] (by decide +kernel) rfl ?_
          intro iQ hQ
          simp only [List.mem_cons, List.not_mem_nil, or_false] at hQ
          obtain rfl := hQ
          · refine ⟨_, rfl, ?_⟩
            refine WL.assign rfl rfl ?_
            refine WL.done ?_
            refine WA.done (by decide +kernel) ?_
            refine W.ret ?_
            refine ⟨_, rfl, ?_⟩
            exact ⟨rfl, hB⟩

theorem RationalMakes_c {w : World} {X Y : Int} (hX : -9223372036854775808 ≤ X ∧ X ≤ 9223372036854775807) (hY : -9223372036854775808 ≤ Y ∧ Y ≤ 9223372036854775807) : Calls Try.prog 5 #[.int .i64 X, .int .i64 Y] w fun e w2 => ∃ v, e = .returned v ∧ (fun v w2 => v = .bool true ∧ w.grownBy w2 none) v w2 := by
  by_cases h : Y = 0
  · subst h; exact RationalMakes_z hX
  · exact RationalMakes_ok hX hY h

theorem RationalRatios_z {w : World} {Bn : Nat} {An : Option Addr} {mn cn : Nat} {xn : List Nat} (hn : Rd Bn w 1 An mn cn (us xn)) {Bd : Nat} {Ad : Option Addr} {md cd : Nat} {xd : List Nat} (hd : Rd Bd w 1 Ad md cd (us xd)) (hLn : Lim xn) (hLd : Lim xd) (hzn : mn * 4 ≤ 140737488351232) (hzd : md * 4 ≤ 140737488351232) (hz : nv xd = 0) :
    Calls Try.prog 6 #[.slice An mn cn, .slice Ad md cd] w fun e w2 => ∃ v, e = .returned v ∧ (fun v w2 => v = .bool true ∧ w.grownBy w2 none) v w2 := by
  have hn := hn.norm
  have hn_l := hn.ulen
  have hn_x := hn.max
  simp only [maxLen] at hn_x
  have hn_c := hn.cap
  have hd := hd.norm
  have hd_l := hd.ulen
  have hd_x := hd.max
  simp only [maxLen] at hd_x
  have hd_c := hd.cap
  have hn0 := hn
  have hd0 := hd
  have hB := ext_refl w
  refine calls_of_W (vs := [.slice An mn cn, .slice Ad md cd]) [4] Try.func6 rfl rfl rfl rfl ?_
  refine W.seq ?_
  refine W.region ?_
  refine WL.assign rfl rfl ?_
  refine WL.done ?_
  refine W.seq ?_
  refine W.seq ?_
  refine W.region ?_
  refine WL.move rfl rfl ?_
  refine WL.len Try.underlying23 rfl rfl ?_
  refine WL.move rfl rfl ?_
  refine WL.len Try.underlying23 rfl rfl ?_
  refine WL.add (r := ((mn + md : Nat) : Int)) rfl rfl (wi64 (by omega) (by omega) (by omega)) rfl ?_
  refine WL.gtr rfl rfl rfl (fun hlen => ?_) (fun hlen => ?_)
  · refine WL.done ?_
    refine W.condT rfl ?_
    refine W.seq ?_
    refine W.region ?_
    refine WL.assign rfl rfl ?_
    refine WL.done ?_
    refine W.ret ?_
    refine ⟨_, rfl, ?_⟩
    exact ⟨rfl, hB⟩
  · refine WL.done ?_
    refine W.condF rfl ?_
    refine W.skip ?_
    refine W.seq ?_
    refine W.region ?_
    refine WL.move rfl rfl ?_
    refine WL.move rfl rfl ?_
    refine WL.call Try.func30 rfl Try.nm30 rfl rfl (qRatio_z hn hd hLn hLd (by omega) (by omega) (by omega)) ?_
    rintro _ w12 ⟨rfl, hGw12⟩
    have hB := ext_trans hB hGw12
    have hd := hd0.ext hB
    refine WL.move rfl rfl ?_
    refine WL.extract rfl rfl rfl ?_
    refine WL.extract rfl rfl rfl ?_
    refine WL.alloc Try.el31 rfl ?_
    intro g13 w14 hg_g13 hVg13 hGw14
    change Own _ _ _ _ _ _ _ [.bool false, .slice none 0 0, .slice none 0 0] at hVg13
    have hVg13 := hVg13.low (b' := w.heap.size) hB.size
    have hB := ext_trans hB hGw14
    have hd := hd0.ext hB
    refine WL.storeV Try.el31 rfl rfl rfl rfl hVg13 ?_
    have hOld16 := hVg13
    intro w15 hVg13 hGw15
    change Own _ _ _ _ _ _ _ [.bool false, .slice none 0 0, .slice none 0 0] at hVg13
    have hB := ext_own hB hGw15 (fun g hg => (hOld16.bl_ge g hg).1)
    have hd := hd0.ext hB
    refine WL.assign rfl rfl ?_
    refine WL.done ?_
    refine W.seq ?_
    refine W.region ?_
    refine WL.move rfl rfl ?_
    refine WL.lit1 (b := w15.heap.size) Try.underlying23 Try.el43 rfl rfl rfl rfl (by intro v hv; simp only [List.mem_cons, List.not_mem_nil, or_false] at hv; rcases hv with rfl <;> rfl) (Nat.le_refl _) rfl ?_
    rintro A17 w18 - h8 hGw18
    have h8 := h8.low (b' := w.heap.size) hB.size
    have hB := ext_trans hB hGw18
    have hd := hd0.ext hB
    have hVg13 := hVg13.ext hGw18
    change Own _ _ _ _ _ _ _ (us [1]) at h8
    refine WL.call Try.func31 rfl Try.nm31 rfl rfl (rMake_c hd h8.rd hLd (by intro x hx; simp only [List.mem_cons, List.not_mem_nil, or_false] at hx; omega) (by omega) (by omega) (val false (nv xd) 1) (by rw [nv_one])) ?_
    rintro _ w19 ⟨A20, m21, c22, A23, m24, c25, rfl, hGw19, h9n, h9d, h9m⟩
    have h9n := h9n.low (b' := w.heap.size) hB.size
    have h9d := h9d.low (b' := w.heap.size) hB.size
    have hB := ext_trans hB hGw19
    have hVg13 := hVg13.ext hGw19
    have h9n_l := h9n.rd.ulen
    have h9d_l := h9d.rd.ulen
    refine WL.alloc Try.el31 rfl ?_
    intro g26 w27 hg_g26 hVg26 hGw27
    change Own _ _ _ _ _ _ _ [.bool false, .slice none 0 0, .slice none 0 0] at hVg26
    have hlt_g13_g26 : g13 < g26 := by rw [hg_g26]; exact (hVg13.bl_ge _ rfl).2
    have hap_h9n_g26 := ap_old h9n hg_g26
    have hap_h9d_g26 := ap_old h9d hg_g26
    have hVg26 := hVg26.low (b' := w.heap.size) hB.size
    have hB := ext_trans hB hGw27
    have hVg13 := hVg13.ext hGw27
    have h9n := h9n.ext hGw27
    have h9d := h9d.ext hGw27
    refine WL.storeV Try.el31 rfl rfl rfl rfl hVg26 ?_
    have hOld29 := hVg26
    intro w28 hVg26 hGw28
    change Own _ _ _ _ _ _ _ [.bool (qneg (val false (nv xd) 1)), .slice A20 m21 c22, .slice A23 m24 c25] at hVg26
    have hB := ext_own hB hGw28 (fun g hg => (hOld29.bl_ge g hg).1)
    have hVg13 := hVg13.grown hGw28 (apart (by omega))
    have h9n := h9n.grown hGw28 (ap_row hap_h9n_g26)
    have h9d := h9d.grown hGw28 (ap_row hap_h9d_g26)
    refine WL.done ?_
    refine W.seq ?_
    refine W.seq ?_
    refine W.region ?_
    refine WL.loadV (cs := [.bool (qneg (val false (nv xd) 1)), .slice A20 m21 c22, .slice A23 m24 c25]) Try.el31 Try.agg31 rfl rfl hVg26.vcells rfl ?_
    refine WL.call Try.func24 rfl Try.nm24 rfl rfl (rqSign_c h9n.rd h9d.rd (digs_lim _) (digs_lim _) (val false (nv xd) 1) (val_canon _) (by omega)) ?_
    rintro _ w30 ⟨rfl, hGw30⟩
    have hB := ext_trans hB hGw30
    have hVg13 := hVg13.ext hGw30
    have hs9 : sg (val false (nv xd) 1) = 0 ↔ nv xd = 0 := sg_zero.trans ⟨fun h => (val_zero.1 h).resolve_right (by decide), fun h => by rw [h]; exact val_n0 _ _⟩
    refine WL.eql rfl rfl rfl (fun c31 => ?_) (fun c31 => ?_)
    · refine WL.done ?_
      refine W.condT rfl ?_
      refine W.seq ?_
      refine W.region ?_
      refine WL.move rfl rfl ?_
      refine WL.eql rfl rfl rfl (fun c32 => ?_) (fun c32 => ?_)
      · refine WL.move rfl rfl ?_
        refine WL.take rfl ?_
        refine WL.loadV (cs := [.bool false, .slice none 0 0, .slice none 0 0]) Try.el31 Try.agg31 rfl rfl hVg13.vcells rfl ?_
        refine WL.take rfl ?_
        refine WL.call Try.func28 rfl Try.nm28 rfl rfl (rNil_c) ?_
        rintro _ w33 ⟨rfl, hGw33⟩
        have hB := ext_trans hB hGw33
        refine WL.pick rfl rfl rfl ?_
        refine WL.assign rfl rfl ?_
        refine WL.done ?_
        refine W.ret ?_
        refine ⟨_, rfl, ?_⟩
        exact ⟨rfl, hB⟩
      · exfalso
        omega
    · exfalso
      omega

theorem RationalRatios_ok {w : World} {Bn : Nat} {An : Option Addr} {mn cn : Nat} {xn : List Nat} (hn : Rd Bn w 1 An mn cn (us xn)) {Bd : Nat} {Ad : Option Addr} {md cd : Nat} {xd : List Nat} (hd : Rd Bd w 1 Ad md cd (us xd)) (hLn : Lim xn) (hLd : Lim xd) (hzn : mn * 4 ≤ 140737488351232) (hzd : md * 4 ≤ 140737488351232) (hz : nv xd ≠ 0) :
    Calls Try.prog 6 #[.slice An mn cn, .slice Ad md cd] w fun e w2 => ∃ v, e = .returned v ∧ (fun v w2 => v = .bool true ∧ w.grownBy w2 none) v w2 := by
  have hn := hn.norm
  have hn_l := hn.ulen
  have hn_x := hn.max
  simp only [maxLen] at hn_x
  have hn_c := hn.cap
  have hd := hd.norm
  have hd_l := hd.ulen
  have hd_x := hd.max
  simp only [maxLen] at hd_x
  have hd_c := hd.cap
  have hn0 := hn
  have hd0 := hd
  have hB := ext_refl w
  refine calls_of_W (vs := [.slice An mn cn, .slice Ad md cd]) [4] Try.func6 rfl rfl rfl rfl ?_
  refine W.seq ?_
  refine W.region ?_
  refine WL.assign rfl rfl ?_
  refine WL.done ?_
  refine W.seq ?_
  refine W.seq ?_
  refine W.region ?_
  refine WL.move rfl rfl ?_
  refine WL.len Try.underlying23 rfl rfl ?_
  refine WL.move rfl rfl ?_
  refine WL.len Try.underlying23 rfl rfl ?_
  refine WL.add (r := ((mn + md : Nat) : Int)) rfl rfl (wi64 (by omega) (by omega) (by omega)) rfl ?_
  refine WL.gtr rfl rfl rfl (fun hlen => ?_) (fun hlen => ?_)
  · refine WL.done ?_
    refine W.condT rfl ?_
    refine W.seq ?_
    refine W.region ?_
    refine WL.assign rfl rfl ?_
    refine WL.done ?_
    refine W.ret ?_
    refine ⟨_, rfl, ?_⟩
    exact ⟨rfl, hB⟩
  · refine WL.done ?_
    refine W.condF rfl ?_
    refine W.skip ?_
    refine W.seq ?_
    refine W.region ?_
    refine WL.move rfl rfl ?_
    refine WL.move rfl rfl ?_
    refine WL.call Try.func30 rfl Try.nm30 rfl rfl (qRatio_ok hn hd hLn hLd (by omega) (by omega) (by omega)) ?_
    rintro _ w12 ⟨A13, m14, c15, A16, m17, c18, rfl, hGw12, h1n, h1d, h1m⟩
    have h1n := h1n.low (b' := w.heap.size) hB.size
    have h1d := h1d.low (b' := w.heap.size) hB.size
    have hB := ext_trans hB hGw12
    have hn := hn0.ext hB
    have hd := hd0.ext hB
    have h1n_l := h1n.rd.ulen
    have h1d_l := h1d.rd.ulen
    refine WL.move rfl rfl ?_
    refine WL.extract rfl rfl rfl ?_
    refine WL.extract rfl rfl rfl ?_
    refine WL.alloc Try.el31 rfl ?_
    intro g19 w20 hg_g19 hVg19 hGw20
    change Own _ _ _ _ _ _ _ [.bool false, .slice none 0 0, .slice none 0 0] at hVg19
    have hap_h1n_g19 := ap_old h1n hg_g19
    have hap_h1d_g19 := ap_old h1d hg_g19
    have hVg19 := hVg19.low (b' := w.heap.size) hB.size
    have hB := ext_trans hB hGw20
    have hn := hn0.ext hB
    have hd := hd0.ext hB
    have h1n := h1n.ext hGw20
    have h1d := h1d.ext hGw20
    refine WL.storeV Try.el31 rfl rfl rfl rfl hVg19 ?_
    have hOld22 := hVg19
    intro w21 hVg19 hGw21
    change Own _ _ _ _ _ _ _ [.bool (qneg (val false (nv xn) (nv xd))), .slice A13 m14 c15, .slice A16 m17 c18] at hVg19
    have hB := ext_own hB hGw21 (fun g hg => (hOld22.bl_ge g hg).1)
    have hn := hn0.ext hB
    have hd := hd0.ext hB
    have h1n := h1n.grown hGw21 (ap_row hap_h1n_g19)
    have h1d := h1d.grown hGw21 (ap_row hap_h1d_g19)
    refine WL.assign rfl rfl ?_
    refine WL.done ?_
    refine W.seq ?_
    refine W.region ?_
    refine WL.move rfl rfl ?_
    refine WL.lit1 (b := w21.heap.size) Try.underlying23 Try.el43 rfl rfl rfl rfl (by intro v hv; simp only [List.mem_cons, List.not_mem_nil, or_false] at hv; rcases hv with rfl <;> rfl) (Nat.le_refl _) rfl ?_
    rintro A23 w24 - h8 hGw24
    have h8 := h8.low (b' := w.heap.size) hB.size
    have hB := ext_trans hB hGw24
    have hn := hn0.ext hB
    have hd := hd0.ext hB
    have h1n := h1n.ext hGw24
    have h1d := h1d.ext hGw24
    have hVg19 := hVg19.ext hGw24
    change Own _ _ _ _ _ _ _ (us [1]) at h8
    refine WL.call Try.func31 rfl Try.nm31 rfl rfl (rMake_c hd h8.rd hLd (by intro x hx; simp only [List.mem_cons, List.not_mem_nil, or_false] at hx; omega) (by omega) (by omega) (val false (nv xd) 1) (by rw [nv_one])) ?_
    rintro _ w25 ⟨A26, m27, c28, A29, m30, c31, rfl, hGw25, h9n, h9d, h9m⟩
    have h9n := h9n.low (b' := w.heap.size) hB.size
    have h9d := h9d.low (b' := w.heap.size) hB.size
    have hB := ext_trans hB hGw25
    have hn := hn0.ext hB
    have hd := hd0.ext hB
    have h1n := h1n.ext hGw25
    have h1d := h1d.ext hGw25
    have hVg19 := hVg19.ext hGw25
    have h9n_l := h9n.rd.ulen
    have h9d_l := h9d.rd.ulen
    refine WL.alloc Try.el31 rfl ?_
    intro g32 w33 hg_g32 hVg32 hGw33
    change Own _ _ _ _ _ _ _ [.bool false, .slice none 0 0, .slice none 0 0] at hVg32
    have hlt_g19_g32 : g19 < g32 := by rw [hg_g32]; exact (hVg19.bl_ge _ rfl).2
    have hap_h1n_g32 := ap_old h1n hg_g32
    have hap_h1d_g32 := ap_old h1d hg_g32
    have hap_h9n_g32 := ap_old h9n hg_g32
    have hap_h9d_g32 := ap_old h9d hg_g32
    have hVg32 := hVg32.low (b' := w.heap.size) hB.size
    have hB := ext_trans hB hGw33
    have hn := hn0.ext hB
    have hd := hd0.ext hB
    have h1n := h1n.ext hGw33
    have h1d := h1d.ext hGw33
    have hVg19 := hVg19.ext hGw33
    have h9n := h9n.ext hGw33
    have h9d := h9d.ext hGw33
    refine WL.storeV Try.el31 rfl rfl rfl rfl hVg32 ?_
    have hOld35 := hVg32
    intro w34 hVg32 hGw34
    change Own _ _ _ _ _ _ _ [.bool (qneg (val false (nv xd) 1)), .slice A26 m27 c28, .slice A29 m30 c31] at hVg32
    have hB := ext_own hB hGw34 (fun g hg => (hOld35.bl_ge g hg).1)
    have hn := hn0.ext hB
    have hd := hd0.ext hB
    have h1n := h1n.grown hGw34 (ap_row hap_h1n_g32)
    have h1d := h1d.grown hGw34 (ap_row hap_h1d_g32)
    have hVg19 := hVg19.grown hGw34 (apart (by omega))
    have h9n := h9n.grown hGw34 (ap_row hap_h9n_g32)
    have h9d := h9d.grown hGw34 (ap_row hap_h9d_g32)
    refine WL.done ?_
    refine W.seq ?_
    refine W.seq ?_
    refine W.region ?_
    refine WL.loadV (cs := [.bool (qneg (val false (nv xd) 1)), .slice A26 m27 c28, .slice A29 m30 c31]) Try.el31 Try.agg31 rfl rfl hVg32.vcells rfl ?_
    refine WL.call Try.func24 rfl Try.nm24 rfl rfl (rqSign_c h9n.rd h9d.rd (digs_lim _) (digs_lim _) (val false (nv xd) 1) (val_canon _) (by omega)) ?_
    rintro _ w36 ⟨rfl, hGw36⟩
    have hB := ext_trans hB hGw36
    have hn := hn0.ext hB
    have hd := hd0.ext hB
    have h1n := h1n.ext hGw36
    have h1d := h1d.ext hGw36
    have hVg19 := hVg19.ext hGw36
    have hVg32 := hVg32.ext hGw36
    have hs9 : sg (val false (nv xd) 1) = 0 ↔ nv xd = 0 := sg_zero.trans ⟨fun h => (val_zero.1 h).resolve_right (by decide), fun h => by rw [h]; exact val_n0 _ _⟩
    refine WL.eql rfl rfl rfl (fun c37 => ?_) (fun c37 => ?_)
    · exfalso
      omega
    · refine WL.done ?_
      refine W.condF rfl ?_
      refine W.skip ?_
      refine W.seq ?_
      refine W.drawT 7 [⟨[], [6], true⟩, ⟨[0], [], true⟩, ⟨[1], [], true⟩, ⟨[2], [5], false⟩, ⟨[2], [0], true⟩, ⟨[2], [1], true⟩, ⟨[2, 4, 5], [], false⟩] [[(6, .int .i64 (0 : Int))], [], [], [(5, .pointer (some ⟨g19, 0, none⟩))], [(0, .slice An mn cn)], [(1, .slice Ad md cd)], []] (fun iQ => [fun v wQ => v = .int .i64 (0 : Int), fun v wQ => v = .bool true, fun v wQ => v = .bool true, fun v wQ => v = .agg #[.bool (qneg (val false (nv xn) (nv xd))), .slice A13 m14 c15, .slice A16 m17 c18], fun v wQ => v = .slice An mn cn, fun v wQ => v = .slice Ad md cd, fun v wQ => ∃ A46 m47 c48 A49 m50 c51, v = .agg #[.bool (qneg (val false (nv xn) (nv xd))), .slice A46 m47 c48, .slice A49 m50 c51] ∧ (Own w.heap.size wQ 43 1 A46 m47 c48 (us (digs (qnum (val false (nv xn) (nv xd)))))) ∧ (Own w.heap.size wQ 43 1 A49 m50 c51 (us (digs (Rat.den (val false (nv xn) (nv xd)))))) ∧ (m47 ≤ mn ∧ m50 ≤ md + 1) ∧ (∀ k, bl A46 = some k → k ≠ g19) ∧ (∀ k, bl A46 = some k → k ≠ g32) ∧ (∀ k, bl A49 = some k → k ≠ g19) ∧ (∀ k, bl A49 = some k → k ≠ g32)].getD iQ (fun _ _ => True)) Try.mixed (by kernel_rfl) ?_ ?_ ?_
      · refine Vs_monoT _ ?_
        intro VQ hVQ vQ wQ1 wQ2 hQ1 hQ2
        simp only [List.mem_cons, List.not_mem_nil, or_false] at hVQ
        rcases hVQ with rfl | rfl | rfl | rfl | rfl | rfl | rfl
        · exact hQ1
        · exact hQ1
        · exact hQ1
        · exact hQ1
        · exact hQ1
        · exact hQ1
        · obtain ⟨A46, m47, c48, A49, m50, c51, hQe, h2n, h2d, h2m, hap_h2n_g19, hap_h2n_g32, hap_h2d_g19, hap_h2d_g32⟩ := hQ1
          exact ⟨A46, m47, c48, A49, m50, c51, hQe, h2n.ext hQ2, h2d.ext hQ2, h2m, hap_h2n_g19, hap_h2n_g32, hap_h2d_g19, hap_h2d_g32⟩
      · refine ⟨⟨rfl, ⟨rfl, trivial⟩, ?_⟩, ⟨rfl, trivial, ?_⟩, ⟨rfl, trivial, ?_⟩, ⟨rfl, ⟨rfl, trivial⟩, ?_⟩, ⟨rfl, ⟨rfl, trivial⟩, ?_⟩, ⟨rfl, ⟨rfl, trivial⟩, ?_⟩, ⟨rfl, trivial, ?_⟩, trivial⟩
        · intro w38 hE
          intro R
          refine WL.move rfl rfl ?_
          exact WL.done ⟨_, rfl, rfl, rfl⟩
        · intro w39 hE
          rintro _ rfl
          intro R
          refine WL.eqlD rfl rfl rfl ?_
          exact WL.done ⟨_, rfl, rfl, rfl⟩
        · intro w40 hE
          rintro _ rfl
          intro R
          refine WL.move rfl rfl ?_
          exact WL.done ⟨_, rfl, rfl, rfl⟩
        · intro w41 hE
          have hE := hE rfl
          have hB := ext_trans hB hE
          have hVg19 := hVg19.ext hE
          rintro _ rfl
          intro R
          refine WL.take rfl ?_
          refine WL.loadV (cs := [.bool (qneg (val false (nv xn) (nv xd))), .slice A13 m14 c15, .slice A16 m17 c18]) Try.el31 Try.agg31 rfl rfl hVg19.vcells rfl ?_
          exact WL.done ⟨_, rfl, ext_refl _, rfl⟩
        · intro w42 hE
          rintro _ rfl
          intro R
          refine WL.take rfl ?_
          refine WL.move rfl rfl ?_
          exact WL.done ⟨_, rfl, rfl, rfl⟩
        · intro w43 hE
          rintro _ rfl
          intro R
          refine WL.take rfl ?_
          refine WL.move rfl rfl ?_
          exact WL.done ⟨_, rfl, rfl, rfl⟩
        · intro w44 hE
          have hE := hE rfl
          have hB := ext_trans hB hE
          have hn := hn0.ext hB
          have hd := hd0.ext hB
          have hVg19 := hVg19.ext hE
          have hVg32 := hVg32.ext hE
          rintro _ rfl
          rintro _ rfl
          rintro _ rfl
          intro R
          refine WL.take rfl ?_
          refine WL.call Try.func31 rfl Try.nm31 rfl rfl (rMake_c hn hd hLn hLd (by omega) (by omega) (val false (nv xn) (nv xd)) rfl) ?_
          rintro _ w45 ⟨A46, m47, c48, A49, m50, c51, rfl, hGw45, h2n, h2d, h2m⟩
          have hap_h2n_g19 := ap_new h2n (hVg19.bl_ge _ rfl).2
          have hap_h2n_g32 := ap_new h2n (hVg32.bl_ge _ rfl).2
          have hap_h2d_g19 := ap_new h2d (hVg19.bl_ge _ rfl).2
          have hap_h2d_g32 := ap_new h2d (hVg32.bl_ge _ rfl).2
          have h2n := h2n.low (b' := w.heap.size) hB.size
          have h2d := h2d.low (b' := w.heap.size) hB.size
          have hB := ext_trans hB hGw45
          have h2n_l := h2n.rd.ulen
          have h2d_l := h2d.rd.ulen
          exact WL.done ⟨_, rfl, hGw45, ⟨A46, m47, c48, A49, m50, c51, rfl, h2n, h2d, h2m, hap_h2n_g19, hap_h2n_g32, hap_h2d_g19, hap_h2d_g32⟩⟩
      · intro vals w52 hT hVs
        have hB := ext_trans hB hT
        have h1n := h1n.ext hT
        have h1d := h1d.ext hT
        have hv0 : vals 0 = _ := hVs 0 (by decide)
        have hv1 : vals 1 = _ := hVs 1 (by decide)
        have hv2 : vals 2 = _ := hVs 2 (by decide)
        have hv3 : vals 3 = _ := hVs 3 (by decide)
        have hv4 : vals 4 = _ := hVs 4 (by decide)
        have hv5 : vals 5 = _ := hVs 5 (by decide)
        obtain ⟨A46, m47, c48, A49, m50, c51, hv6, h2n, h2d, h2m, hap_h2n_g19, hap_h2n_g32, hap_h2d_g19, hap_h2d_g32⟩ := hVs 6 (by decide)
        rw [show (List.filterMap (fun i => Option.map (fun t => (t, vals i)) (dstAt _ i)) (List.range _)) = [(32, .int .i64 (0 : Int)), (33, .bool true), (34, .bool true), (35, .agg #[.bool (qneg (val false (nv xn) (nv xd))), .slice A13 m14 c15, .slice A16 m17 c18]), (36, .slice An mn cn), (37, .slice Ad md cd), (38, .agg #[.bool (qneg (val false (nv xn) (nv xd))), .slice A46 m47 c48, .slice A49 m50 c51])] from by
          show [(32, vals 0), (33, vals 1), (34, vals 2), (35, vals 3), (36, vals 4), (37, vals 5), (38, vals 6)] = _
          rw [hv0, hv1, hv2, hv3, hv4, hv5, hv6]]
        refine WA.step [7] (by decide +kernel) rfl ?_
        intro iQ hQ
        simp only [List.mem_cons, List.not_mem_nil, or_false] at hQ
        obtain rfl := hQ
        · refine ⟨_, rfl, ?_⟩
          refine WL.take rfl ?_
          refine WL.call Try.func18 rfl Try.nm18 rfl rfl (qsame_t h1n.rd h1d.rd h2n.rd h2d.rd ⟨rfl, rfl, rfl⟩) ?_
          rintro _ w53 ⟨rfl, hGw53⟩
          have hB := ext_trans hB hGw53
          refine WL.done ?_
          refine WA.step [8] (by decide +kernel) rfl ?_
          intro iQ hQ
          simp only [List.mem_cons, List.not_mem_nil, or_false] at hQ
          obtain rfl := hQ
          · refine ⟨_, rfl, ?_⟩
            refine WL.pick rfl rfl rfl ?_
            refine WL.done ?_
            refine WA.step [9] (by decide +kernel) rfl ?_
            intro iQ hQ
            simp only [List.mem_cons, List.not_mem_nil, or_false] at hQ
            obtain rfl := hQ
            · refine ⟨_, rfl, ?_⟩
              refine WL.assign rfl rfl ?_
              refine WL.done ?_
              refine WA.done (by decide +kernel) ?_
              refine W.ret ?_
              refine ⟨_, rfl, ?_⟩
              exact ⟨rfl, hB⟩

theorem RationalRatios_c {w : World} {Bn : Nat} {An : Option Addr} {mn cn : Nat} {xn : List Nat} (hn : Rd Bn w 1 An mn cn (us xn)) {Bd : Nat} {Ad : Option Addr} {md cd : Nat} {xd : List Nat} (hd : Rd Bd w 1 Ad md cd (us xd)) (hLn : Lim xn) (hLd : Lim xd) (hzn : mn * 4 ≤ 140737488351232) (hzd : md * 4 ≤ 140737488351232) : Calls Try.prog 6 #[.slice An mn cn, .slice Ad md cd] w fun e w2 => ∃ v, e = .returned v ∧ (fun v w2 => v = .bool true ∧ w.grownBy w2 none) v w2 := by
  by_cases h : nv xd = 0
  · exact RationalRatios_z hn hd hLn hLd hzn hzd h
  · exact RationalRatios_ok hn hd hLn hLd hzn hzd h
end Go.Proofs.Ythfpcebcfjlkmab
