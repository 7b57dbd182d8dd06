/- Contracts of functions of the program, and what they lean on. -/
import Derived.Test.YthfpcebcfjlkmacW19
set_option linter.unusedSimpArgs false
set_option linter.unusedVariables false
namespace Go.Proofs.Ythfpcebcfjlkmac
open Go.RowKit
theorem qIs_d {w : World} {Ban : Nat} {Aan : Option Addr} {man can : Nat} {xan : List Nat} (han : Rd Ban w 1 Aan man can (us xan)) {Bad : Nat} {Aad : Option Addr} {mad cad : Nat} {xad : List Nat} (had : Rd Bad w 1 Aad mad cad (us xad)) {na : Bool} (hLan : Lim xan) (hLad : Lim xad) (qa : Rat) (hqa : val na (nv xan) (nv xad) = qa) (hsa : man ≤ 4194304 ∧ mad ≤ 4194304) : Calls Try.prog 19 #[.agg #[.bool na, .slice Aan man can, .slice Aad mad cad]] w fun e w2 => ∃ v, e = .returned v ∧ (fun v w2 => v = .bool (decide (na = qneg qa ∧ xan = digs (qnum qa) ∧ xad = digs (Rat.den qa))) ∧ w.grownBy w2 none) v w2 :=
  (qIs_c han had hLan hLad qa hqa hsa).mono fun e w2 ⟨v, he, b, hv, hw, h1, h2⟩ => ⟨v, he, by rw [hv]; cases b with | true => rw [decide_eq_true (h1 rfl)] | false => rw [decide_eq_false (h2 rfl)], hw⟩

theorem isT {q : Rat} : decide (qneg q = qneg q ∧ digs (qnum q) = digs (qnum q) ∧ digs q.den = digs q.den) = true := decide_eq_true ⟨rfl, rfl, rfl⟩

theorem qIs_t {w : World} {Ban : Nat} {Aan : Option Addr} {man can : Nat} {Bad : Nat} {Aad : Option Addr} {mad cad : Nat} {qa : Rat} (han : Rd Ban w 1 Aan man can (us (digs (qnum qa)))) (had : Rd Bad w 1 Aad mad cad (us (digs (Rat.den qa)))) (hLan : Lim (digs (qnum qa))) (hLad : Lim (digs (Rat.den qa))) (q : Rat) (hq : val (qneg qa) (nv (digs (qnum qa))) (nv (digs (Rat.den qa))) = q) (hsa : man ≤ 4194304 ∧ mad ≤ 4194304) :
    Calls Try.prog 19 #[.agg #[.bool (qneg qa), .slice Aan man can, .slice Aad mad cad]] w fun e w2 => ∃ v, e = .returned v ∧ (fun v w2 => v = .bool true ∧ w.grownBy w2 none) v w2 :=
  (qIs_d han had hLan hLad qa (val_canon qa) hsa).mono fun e w2 ⟨v, he, hv, hw⟩ => ⟨v, he, by rw [hv, isT], hw⟩

theorem long_c {w : World} {X : Int} {most : Nat} {Bl BNl : Nat} {Al : Option Addr} {ml cl : Nat} {cel : List Value} {rl : List Fr3} (hl : Rd Bl w 3 Al ml cl cel) (hNl : RatsR BNl w cel rl) (hX : X = most) (hK : RLen 140737488355328 rl) :
    Calls Try.prog 6 #[.int .i64 X, .slice Al ml cl] w fun e w2 => ∃ v, e = .returned v ∧ (fun v w2 => ∃ b : Bool, v = .bool b ∧ w.grownBy w2 none ∧ (b = true → True) ∧ (b = false → ∀ j, j < rl.length → (rl.getD j fr0).2.1.length + (rl.getD j fr0).2.2.length ≤ most)) v w2 := by
  have hl := hl.norm
  have hNl := hNl.norm
  have hl_n := hl.len
  have hl_nn := hNl.len
  have hl_l : rl.length = ml := by omega
  have hl_x := hl.max
  simp only [maxLen] at hl_x
  have hl_c := hl.cap
  have hl0 := hl
  have hNl0 := hNl
  have hB := ext_refl w
  refine calls_of_W (vs := [.int .i64 X, .slice Al ml cl]) [4] Try.func6 rfl rfl rfl rfl ?_
  refine W.seq ?_
  refine W.region ?_
  refine WL.assign rfl rfl ?_
  refine WL.done ?_
  refine W.seq ?_
  refine W.seq ?_
  refine W.region ?_
  refine WL.assign rfl rfl ?_
  refine WL.done ?_
  refine W.block ?_
  refine W.loop (σ := Nat) (fun j w1 => w.grownBy w1 none ∧ j ≤ ml ∧ ∀ i, i < j → (rl.getD i fr0).2.1.length + (rl.getD i fr0).2.2.length ≤ most) (fun j => [(0, .int .i64 X), (1, .slice Al ml cl), (5, .int .i64 ((j : Nat) : Int))]) (fun j => ml - j) 0 ?_ ?_ ?_
  · exact ⟨hB, by omega, fun i h => by omega⟩
  · exact ⟨iv (by omega), rfl, iv (by omega), trivial⟩
  · rintro j w11 ⟨hB, hj, hin⟩
    have hl := hl0.ext hB
    have hNl := hNl0.ext hB
    refine W.seq ?_
    refine W.seq ?_
    refine W.region ?_
    refine WL.move rfl rfl ?_
    refine WL.move rfl rfl ?_
    refine WL.len Try.underlying35 rfl rfl ?_
    refine WL.lss rfl rfl rfl (fun c12 => ?_) (fun c12 => ?_)
    · refine WL.done ?_
      refine W.condT rfl ?_
      refine W.skip ?_
      refine W.seq ?_
      refine W.block ?_
      refine W.seq ?_
      obtain ⟨hk1, hk2⟩ := hK j (by omega); have hu1 := (hNl0.rd1 j (by omega)).ulen; have hu2 := (hNl0.rd2 j (by omega)).ulen
      · refine W.draw [⟨[], [1], true⟩, ⟨[], [5], true⟩, ⟨[0, 1], [], true⟩, ⟨[2], [], true⟩, ⟨[3], [], false⟩, ⟨[4], [], true⟩, ⟨[], [1], true⟩, ⟨[], [5], true⟩, ⟨[6, 7], [], true⟩, ⟨[8], [], true⟩, ⟨[9], [], false⟩, ⟨[10], [], true⟩, ⟨[5, 11], [], true⟩, ⟨[], [0], true⟩, ⟨[12, 13], [], true⟩] [[(1, .slice Al ml cl)], [(5, .int .i64 ((j : Nat) : Int))], [], [], [], [], [(1, .slice Al ml cl)], [(5, .int .i64 ((j : Nat) : Int))], [], [], [], [], [], [(0, .int .i64 X)], []] (fun iQ => [fun v wQ => v = .slice Al ml cl, fun v wQ => v = .int .i64 ((j : Nat) : Int), fun v wQ => v = .pointer (some ((adOf Al).add (j * 3))), fun v wQ => v = .pointer (some (((adOf Al).add (j * 3)).add 1)), fun v wQ => v = .slice (sA (cel.getD (j * 3 + 1) undef)) (sM (cel.getD (j * 3 + 1) undef)) (sC (cel.getD (j * 3 + 1) undef)), fun v wQ => v = .int .i64 (((sM (cel.getD (j * 3 + 1) undef)) : Nat) : Int), fun v wQ => v = .slice Al ml cl, fun v wQ => v = .int .i64 ((j : Nat) : Int), fun v wQ => v = .pointer (some ((adOf Al).add (j * 3))), fun v wQ => v = .pointer (some (((adOf Al).add (j * 3)).add 2)), fun v wQ => v = .slice (sA (cel.getD (j * 3 + 2) undef)) (sM (cel.getD (j * 3 + 2) undef)) (sC (cel.getD (j * 3 + 2) undef)), fun v wQ => v = .int .i64 (((sM (cel.getD (j * 3 + 2) undef)) : Nat) : Int), fun v wQ => v = .int .i64 (((sM (cel.getD (j * 3 + 1) undef)) + (sM (cel.getD (j * 3 + 2) undef)) : Nat) : Int), fun v wQ => v = .int .i64 X, fun v wQ => v = .bool (decide (X < (((sM (cel.getD (j * 3 + 1) undef)) + (sM (cel.getD (j * 3 + 2) undef)) : Nat) : Int)))].getD iQ (fun _ _ => True)) (fun _ => True) 15 Try.mixed (by kernel_rfl) ?_ ?_ ?_
        · refine Vs_mono _ ?_
          intro VQ hVQ vQ wQ1 wQ2 hQ1 hQ2
          have hQ2 := hQ2.resolve_right (by decide)
          simp only [List.mem_cons, List.not_mem_nil, or_false] at hVQ
          rcases hVQ with rfl | rfl | rfl | rfl | rfl | rfl | rfl | rfl | rfl | rfl | rfl | rfl | rfl | rfl | rfl
          · exact hQ1
          · exact hQ1
          · exact hQ1
          · exact hQ1
          · exact hQ1
          · exact hQ1
          · exact hQ1
          · exact hQ1
          · exact hQ1
          · exact hQ1
          · exact hQ1
          · exact hQ1
          · exact hQ1
          · exact hQ1
          · exact hQ1
        · refine ⟨⟨rfl, ⟨rfl, trivial⟩, ?_⟩, ⟨rfl, ⟨rfl, trivial⟩, ?_⟩, ⟨rfl, trivial, ?_⟩, ⟨rfl, trivial, ?_⟩, ⟨rfl, trivial, ?_⟩, ⟨rfl, trivial, ?_⟩, ⟨rfl, ⟨rfl, trivial⟩, ?_⟩, ⟨rfl, ⟨rfl, trivial⟩, ?_⟩, ⟨rfl, trivial, ?_⟩, ⟨rfl, trivial, ?_⟩, ⟨rfl, trivial, ?_⟩, ⟨rfl, trivial, ?_⟩, ⟨rfl, trivial, ?_⟩, ⟨rfl, ⟨rfl, trivial⟩, ?_⟩, ⟨rfl, trivial, ?_⟩, trivial⟩
          · intro w13 hE
            intro R
            refine WL.move rfl rfl ?_
            exact WL.done ⟨_, rfl, rfl, rfl⟩
          · intro w14 hE
            intro R
            refine WL.move rfl rfl ?_
            exact WL.done ⟨_, rfl, rfl, rfl⟩
          · intro w15 hE
            rintro _ rfl
            rintro _ rfl
            intro R
            refine WL.index (j) Try.underlying35 Try.el25 rfl rfl (by omega) (by omega) hl rfl ?_
            exact WL.done ⟨_, rfl, rfl, rfl⟩
          · intro w16 hE
            rintro _ rfl
            intro R
            refine WL.fieldA (off := 1) Try.fla25_1 rfl rfl ?_
            exact WL.done ⟨_, rfl, rfl, rfl⟩
          · intro w17 hE
            have hE := hE rfl
            have hB := ext_trans hB hE
            have hl := hl0.ext hB
            have hNl := hNl0.ext hB
            rintro _ rfl
            intro R
            refine WL.load Try.underlying23 rfl rfl (by rw [add_add]; exact Rd.at_ hl (hNl.c1 j (by omega))) rfl ?_
            exact WL.done ⟨_, rfl, ext_refl _, rfl⟩
          · intro w18 hE
            rintro _ rfl
            intro R
            refine WL.len Try.underlying23 rfl rfl ?_
            exact WL.done ⟨_, rfl, rfl, rfl⟩
          · intro w19 hE
            intro R
            refine WL.move rfl rfl ?_
            exact WL.done ⟨_, rfl, rfl, rfl⟩
          · intro w20 hE
            intro R
            refine WL.move rfl rfl ?_
            exact WL.done ⟨_, rfl, rfl, rfl⟩
          · intro w21 hE
            rintro _ rfl
            rintro _ rfl
            intro R
            refine WL.index (j) Try.underlying35 Try.el25 rfl rfl (by omega) (by omega) hl rfl ?_
            exact WL.done ⟨_, rfl, rfl, rfl⟩
          · intro w22 hE
            rintro _ rfl
            intro R
            refine WL.fieldA (off := 2) Try.fla25_2 rfl rfl ?_
            exact WL.done ⟨_, rfl, rfl, rfl⟩
          · intro w23 hE
            have hE := hE rfl
            have hB := ext_trans hB hE
            have hl := hl0.ext hB
            have hNl := hNl0.ext hB
            rintro _ rfl
            intro R
            refine WL.load Try.underlying23 rfl rfl (by rw [add_add]; exact Rd.at_ hl (hNl.c2 j (by omega))) rfl ?_
            exact WL.done ⟨_, rfl, ext_refl _, rfl⟩
          · intro w24 hE
            rintro _ rfl
            intro R
            refine WL.len Try.underlying23 rfl rfl ?_
            exact WL.done ⟨_, rfl, rfl, rfl⟩
          · intro w25 hE
            rintro _ rfl
            rintro _ rfl
            intro R
            refine WL.add (r := (((sM (cel.getD (j * 3 + 1) undef)) + (sM (cel.getD (j * 3 + 2) undef)) : Nat) : Int)) rfl rfl (wi64 (by omega) (by omega) (by omega)) rfl ?_
            exact WL.done ⟨_, rfl, rfl, rfl⟩
          · intro w26 hE
            intro R
            refine WL.move rfl rfl ?_
            exact WL.done ⟨_, rfl, rfl, rfl⟩
          · intro w27 hE
            rintro _ rfl
            rintro _ rfl
            intro R
            refine WL.gtrD rfl rfl rfl ?_
            exact WL.done ⟨_, rfl, rfl, rfl⟩
        · intro vals w28 hT hVs
          rw [if_neg (by decide)] at hT
          have hB := ext_trans hB hT
          have hv0 : vals 0 = _ := hVs 0 (by decide) (by decide)
          have hv1 : vals 1 = _ := hVs 1 (by decide) (by decide)
          have hv2 : vals 2 = _ := hVs 2 (by decide) (by decide)
          have hv3 : vals 3 = _ := hVs 3 (by decide) (by decide)
          have hv4 : vals 4 = _ := hVs 4 (by decide) (by decide)
          have hv5 : vals 5 = _ := hVs 5 (by decide) (by decide)
          have hv6 : vals 6 = _ := hVs 6 (by decide) (by decide)
          have hv7 : vals 7 = _ := hVs 7 (by decide) (by decide)
          have hv8 : vals 8 = _ := hVs 8 (by decide) (by decide)
          have hv9 : vals 9 = _ := hVs 9 (by decide) (by decide)
          have hv10 : vals 10 = _ := hVs 10 (by decide) (by decide)
          have hv11 : vals 11 = _ := hVs 11 (by decide) (by decide)
          have hv12 : vals 12 = _ := hVs 12 (by decide) (by decide)
          have hv13 : vals 13 = _ := hVs 13 (by decide) (by decide)
          have hv14 : vals 14 = _ := hVs 14 (by decide) (by decide)
          rw [show (List.filterMap (fun i => Option.map (fun t => (t, vals i)) (dstAt _ i)) (List.range _)) = [(12, .slice Al ml cl), (13, .int .i64 ((j : Nat) : Int)), (14, .pointer (some ((adOf Al).add (j * 3)))), (15, .pointer (some (((adOf Al).add (j * 3)).add 1))), (16, .slice (sA (cel.getD (j * 3 + 1) undef)) (sM (cel.getD (j * 3 + 1) undef)) (sC (cel.getD (j * 3 + 1) undef))), (17, .int .i64 (((sM (cel.getD (j * 3 + 1) undef)) : Nat) : Int)), (18, .slice Al ml cl), (19, .int .i64 ((j : Nat) : Int)), (20, .pointer (some ((adOf Al).add (j * 3)))), (21, .pointer (some (((adOf Al).add (j * 3)).add 2))), (22, .slice (sA (cel.getD (j * 3 + 2) undef)) (sM (cel.getD (j * 3 + 2) undef)) (sC (cel.getD (j * 3 + 2) undef))), (23, .int .i64 (((sM (cel.getD (j * 3 + 2) undef)) : Nat) : Int)), (24, .int .i64 (((sM (cel.getD (j * 3 + 1) undef)) + (sM (cel.getD (j * 3 + 2) undef)) : Nat) : Int)), (25, .int .i64 X), (26, .bool (decide (X < (((sM (cel.getD (j * 3 + 1) undef)) + (sM (cel.getD (j * 3 + 2) undef)) : Nat) : Int))))] from by
            show [(12, vals 0), (13, vals 1), (14, vals 2), (15, vals 3), (16, vals 4), (17, vals 5), (18, vals 6), (19, vals 7), (20, vals 8), (21, vals 9), (22, vals 10), (23, vals 11), (24, vals 12), (25, vals 13), (26, vals 14)] = _
            rw [hv0, hv1, hv2, hv3, hv4, hv5, hv6, hv7, hv8, hv9, hv10, hv11, hv12, hv13, hv14]]
          refine W.cond2 rfl (fun c29 => ?_) (fun c29 => ?_)
          · have c29 := of_decide_eq_true c29
            refine W.seq ?_
            refine W.region ?_
            refine WL.assign rfl rfl ?_
            refine WL.done ?_
            refine W.ret ?_
            refine ⟨_, rfl, ?_⟩
            exact ⟨true, rfl, hB, (fun _ => trivial), fun h => by cases h⟩
          · have c29 := of_decide_eq_false c29
            refine W.skip ?_
            refine W.region ?_
            refine WL.move rfl rfl ?_
            refine WL.add (r := ((j + 1 : Nat) : Int)) rfl rfl (wi64 (by omega) (by omega) (by omega)) rfl ?_
            refine WL.assign rfl rfl ?_
            refine WL.done ?_
            refine ⟨j + 1, ⟨iv (by omega), rfl, iv (by omega), trivial⟩, by omega, ?_⟩
            refine ⟨hB, by omega, fun i hi => ?_⟩
            rcases Nat.lt_succ_iff_lt_or_eq.1 hi with h | rfl
            · exact hin i h
            · omega
    · refine WL.done ?_
      refine W.condF rfl ?_
      refine W.exit ?_
      refine W.seq ?_
      refine W.region ?_
      refine WL.assign rfl rfl ?_
      refine WL.done ?_
      refine W.ret ?_
      refine ⟨_, rfl, ?_⟩
      exact ⟨false, rfl, hB, (fun h => by cases h), fun _ i hi => hin i (by omega)⟩
end Go.Proofs.Ythfpcebcfjlkmac
