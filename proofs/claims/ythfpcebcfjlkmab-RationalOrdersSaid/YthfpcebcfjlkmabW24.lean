/- Contracts of functions of the program, and what they lean on. -/
import Derived.Test.YthfpcebcfjlkmabW22
set_option linter.unusedSimpArgs false
set_option linter.unusedVariables false
namespace Go.Proofs.Ythfpcebcfjlkmab
open Go.RowKit
theorem div_mul_q {a b : Rat} (h : b ≠ 0) : a * b⁻¹ * b = a := by rw [Rat.mul_assoc, Rat.inv_mul_cancel _ h, Rat.mul_one]
theorem mul_div_q {a b : Rat} (h : b ≠ 0) : a * b * b⁻¹ = a := by rw [Rat.mul_assoc, Rat.mul_inv_cancel _ h, Rat.mul_one]
theorem third_half : sg (val false (nv [1]) (nv [3]) - val false (nv [1]) (nv [2])) = -1 := by decide +kernel
theorem ord5 (x y : Int) : (0 < x) ∨ (x = 0 ∧ y ≤ 0) ∨ (x = 0 ∧ 0 < y) ∨ (x < 0 ∧ y ≤ 0) ∨ (x < 0 ∧ 0 < y) := by omega
theorem sg_chain {a b c : Rat} (h1 : sg (a - b) ≤ 0) (h2 : sg (b - c) ≤ 0) : sg (a - c) ≤ 0 := by
  have := sg_add_le h1 h2
  rwa [show a - b + (b - c) = a - c by grind] at this
theorem cmp_mul (a b c : Rat) : sg (a - b) * sg c = sg (a * c - b * c) := by rw [← sg_mul, ← sub_mul_r]

set_option maxHeartbeats 4000000 in
theorem RationalOrders_c {w : World} {Ban : Nat} {Aan : Option Addr} {man can : Nat} {xan : List Nat} (han : Rd Ban w 1 Aan man can (us xan)) {Bad : Nat} {Aad : Option Addr} {mad cad : Nat} {xad : List Nat} (had : Rd Bad w 1 Aad mad cad (us xad)) {Bbn : Nat} {Abn : Option Addr} {mbn cbn : Nat} {xbn : List Nat} (hbn : Rd Bbn w 1 Abn mbn cbn (us xbn)) {Bbd : Nat} {Abd : Option Addr} {mbd cbd : Nat} {xbd : List Nat} (hbd : Rd Bbd w 1 Abd mbd cbd (us xbd)) {Bcn : Nat} {Acn : Option Addr} {mcn ccn : Nat} {xcn : List Nat} (hcn : Rd Bcn w 1 Acn mcn ccn (us xcn)) {Bcd : Nat} {Acd : Option Addr} {mcd ccd : Nat} {xcd : List Nat} (hcd : Rd Bcd w 1 Acd mcd ccd (us xcd)) {na : Bool} (hLan : Lim xan) (hLad : Lim xad) (hza : man * 4 ≤ 140737488351232 ∧ mad * 4 ≤ 140737488351232) {nb : Bool} (hLbn : Lim xbn) (hLbd : Lim xbd) (hzb : mbn * 4 ≤ 140737488351232 ∧ mbd * 4 ≤ 140737488351232) {nc : Bool} (hLcn : Lim xcn) (hLcd : Lim xcd) (hzc : mcn * 4 ≤ 140737488351232 ∧ mcd * 4 ≤ 140737488351232) :
    Calls Try.prog 10 #[.agg #[.bool na, .slice Aan man can, .slice Aad mad cad], .agg #[.bool nb, .slice Abn mbn cbn, .slice Abd mbd cbd], .agg #[.bool nc, .slice Acn mcn ccn, .slice Acd mcd ccd]] w fun e w2 => ∃ v, e = .returned v ∧ (fun v w2 => v = .bool true ∧ w.grownBy w2 none) v w2 := by
  have han := han.norm
  have han_l := han.ulen
  have han_x := han.max
  simp only [maxLen] at han_x
  have han_c := han.cap
  have had := had.norm
  have had_l := had.ulen
  have had_x := had.max
  simp only [maxLen] at had_x
  have had_c := had.cap
  have hbn := hbn.norm
  have hbn_l := hbn.ulen
  have hbn_x := hbn.max
  simp only [maxLen] at hbn_x
  have hbn_c := hbn.cap
  have hbd := hbd.norm
  have hbd_l := hbd.ulen
  have hbd_x := hbd.max
  simp only [maxLen] at hbd_x
  have hbd_c := hbd.cap
  have hcn := hcn.norm
  have hcn_l := hcn.ulen
  have hcn_x := hcn.max
  simp only [maxLen] at hcn_x
  have hcn_c := hcn.cap
  have hcd := hcd.norm
  have hcd_l := hcd.ulen
  have hcd_x := hcd.max
  simp only [maxLen] at hcd_x
  have hcd_c := hcd.cap
  have han0 := han
  have had0 := had
  have hbn0 := hbn
  have hbd0 := hbd
  have hcn0 := hcn
  have hcd0 := hcd
  obtain ⟨qa, hqa⟩ : ∃ q, val na (nv xan) (nv xad) = q := ⟨_, rfl⟩
  obtain ⟨qb, hqb⟩ : ∃ q, val nb (nv xbn) (nv xbd) = q := ⟨_, rfl⟩
  obtain ⟨qc, hqc⟩ : ∃ q, val nc (nv xcn) (nv xcd) = q := ⟨_, rfl⟩
  have hr1 := sg_range (qa - qb)
  have hr2 := sg_range (qb - qc)
  have hr3 := sg_range (qa - qc)
  have hB := ext_refl w
  refine calls_of_W (vs := [.agg #[.bool na, .slice Aan man can, .slice Aad mad cad], .agg #[.bool nb, .slice Abn mbn cbn, .slice Abd mbd cbd], .agg #[.bool nc, .slice Acn mcn ccn, .slice Acd mcd ccd]]) [6] Try.func10 rfl rfl rfl rfl ?_
  refine W.seq ?_
  refine W.region ?_
  refine WL.box Try.el31 rfl rfl rfl ?_
  intro ga w11 hg_ga hVga hGw11
  change Own _ _ _ _ _ _ _ [.bool na, .slice Aan man can, .slice Aad mad cad] at hVga
  have hVga := hVga.low (b' := w.heap.size) hB.size
  have hB := ext_trans hB hGw11
  have han := han0.ext hB
  have had := had0.ext hB
  have hbn := hbn0.ext hB
  have hbd := hbd0.ext hB
  have hcn := hcn0.ext hB
  have hcd := hcd0.ext hB
  refine WL.box Try.el31 rfl rfl rfl ?_
  intro gb w12 hg_gb hVgb hGw12
  change Own _ _ _ _ _ _ _ [.bool nb, .slice Abn mbn cbn, .slice Abd mbd cbd] at hVgb
  have hlt_ga_gb : ga < gb := by rw [hg_gb]; exact (hVga.bl_ge _ rfl).2
  have hVgb := hVgb.low (b' := w.heap.size) hB.size
  have hB := ext_trans hB hGw12
  have han := han0.ext hB
  have had := had0.ext hB
  have hbn := hbn0.ext hB
  have hbd := hbd0.ext hB
  have hcn := hcn0.ext hB
  have hcd := hcd0.ext hB
  have hVga := hVga.ext hGw12
  refine WL.box Try.el31 rfl rfl rfl ?_
  intro gc w13 hg_gc hVgc hGw13
  change Own _ _ _ _ _ _ _ [.bool nc, .slice Acn mcn ccn, .slice Acd mcd ccd] at hVgc
  have hlt_ga_gc : ga < gc := by rw [hg_gc]; exact (hVga.bl_ge _ rfl).2
  have hlt_gb_gc : gb < gc := by rw [hg_gc]; exact (hVgb.bl_ge _ rfl).2
  have hVgc := hVgc.low (b' := w.heap.size) hB.size
  have hB := ext_trans hB hGw13
  have han := han0.ext hB
  have had := had0.ext hB
  have hbn := hbn0.ext hB
  have hbd := hbd0.ext hB
  have hcn := hcn0.ext hB
  have hcd := hcd0.ext hB
  have hVga := hVga.ext hGw13
  have hVgb := hVgb.ext hGw13
  refine WL.assign rfl rfl ?_
  refine WL.done ?_
  refine W.seq ?_
  refine W.seq ?_
  refine W.region ?_
  refine WL.loadV (cs := [.bool na, .slice Aan man can, .slice Aad mad cad]) Try.el31 Try.agg31 rfl rfl hVga.vcells rfl ?_
  refine WL.loadV (cs := [.bool nb, .slice Abn mbn cbn, .slice Abd mbd cbd]) Try.el31 Try.agg31 rfl rfl hVgb.vcells rfl ?_
  refine WL.loadV (cs := [.bool nc, .slice Acn mcn ccn, .slice Acd mcd ccd]) Try.el31 Try.agg31 rfl rfl hVgc.vcells rfl ?_
  refine WL.lit (b := w13.heap.size) (cells := [.bool na, .slice Aan man can, .slice Aad mad cad, .bool nb, .slice Abn mbn cbn, .slice Abd mbd cbd, .bool nc, .slice Acn mcn ccn, .slice Acd mcd ccd]) Try.underlying44 Try.el31 (by decide) ⟨_, rfl, by kernel_rfl⟩ rfl (Nat.le_refl _) rfl ?_
  rintro A14 w15 - hO16 hGw15
  have hO16 := hO16.low (b' := w.heap.size) hB.size
  have hB := ext_trans hB hGw15
  have han := han0.ext hB
  have had := had0.ext hB
  have hbn := hbn0.ext hB
  have hbd := hbd0.ext hB
  have hcn := hcn0.ext hB
  have hcd := hcd0.ext hB
  have hVga := hVga.ext hGw15
  have hVgb := hVgb.ext hGw15
  have hVgc := hVgc.ext hGw15
  have hN17 : RatsR w15.heap.size w15 [.bool na, .slice Aan man can, .slice Aad mad cad, .bool nb, .slice Abn mbn cbn, .slice Abd mbd cbd, .bool nc, .slice Acn mcn ccn, .slice Acd mcd ccd] [(na, xan, xad), (nb, xbn, xbd), (nc, xcn, xcd)] := (RatsR.cons han.norm had.norm (RatsR.cons hbn.norm hbd.norm (RatsR.cons hcn.norm hcd.norm (RatsR.nil _ _))))
  refine WL.call Try.func17 rfl Try.nm17 rfl rfl (long_c hO16.rd hN17 rfl (RLen.cons (by first | omega | (simp; done) | (simp; omega)) (by first | omega | (simp; done) | (simp; omega)) (RLen.cons (by first | omega | (simp; done) | (simp; omega)) (by first | omega | (simp; done) | (simp; omega)) (RLen.cons (by first | omega | (simp; done) | (simp; omega)) (by first | omega | (simp; done) | (simp; omega)) (RLen.nil _))))) ?_
  rintro _ w18 ⟨bhlo, rfl, hGw18, hlo_t, hlo_f⟩
  have hB := ext_trans hB hGw18
  have han := han0.ext hB
  have had := had0.ext hB
  have hbn := hbn0.ext hB
  have hbd := hbd0.ext hB
  have hcn := hcn0.ext hB
  have hcd := hcd0.ext hB
  have hVga := hVga.ext hGw18
  have hVgb := hVgb.ext hGw18
  have hVgc := hVgc.ext hGw18
  rcases bhlo with _ | _
  · have hlo := hlo_f rfl
    have hla : xan.length + xad.length ≤ 12 := hlo 0 (by simp)
    have hlb : xbn.length + xbd.length ≤ 12 := hlo 1 (by simp)
    have hlc : xcn.length + xcd.length ≤ 12 := hlo 2 (by simp)
    refine WL.done ?_
    refine W.condF rfl ?_
    refine W.skip ?_
    refine W.seq ?_
    refine W.drawT 9 [⟨[], [3], false⟩, ⟨[], [4], false⟩, ⟨[0, 1], [], false⟩, ⟨[], [4], false⟩, ⟨[], [5], false⟩, ⟨[3, 4], [], false⟩, ⟨[], [3], false⟩, ⟨[], [5], false⟩, ⟨[6, 7], [], false⟩] [[(3, .pointer (some ⟨ga, 0, none⟩))], [(4, .pointer (some ⟨gb, 0, none⟩))], [], [(4, .pointer (some ⟨gb, 0, none⟩))], [(5, .pointer (some ⟨gc, 0, none⟩))], [], [(3, .pointer (some ⟨ga, 0, none⟩))], [(5, .pointer (some ⟨gc, 0, none⟩))], []] (fun iQ => [fun v wQ => v = .agg #[.bool na, .slice Aan man can, .slice Aad mad cad], fun v wQ => v = .agg #[.bool nb, .slice Abn mbn cbn, .slice Abd mbd cbd], fun v wQ => v = .int .i64 (sg (qa - qb)), fun v wQ => v = .agg #[.bool nb, .slice Abn mbn cbn, .slice Abd mbd cbd], fun v wQ => v = .agg #[.bool nc, .slice Acn mcn ccn, .slice Acd mcd ccd], fun v wQ => v = .int .i64 (sg (qb - qc)), fun v wQ => v = .agg #[.bool na, .slice Aan man can, .slice Aad mad cad], fun v wQ => v = .agg #[.bool nc, .slice Acn mcn ccn, .slice Acd mcd ccd], fun v wQ => v = .int .i64 (sg (qa - qc))].getD iQ (fun _ _ => True)) Try.mixed (by kernel_rfl) ?_ ?_ ?_
    · refine Vs_monoT _ ?_
      intro VQ hVQ vQ wQ1 wQ2 hQ1 hQ2
      simp only [List.mem_cons, List.not_mem_nil, or_false] at hVQ
      rcases hVQ with rfl | rfl | rfl | rfl | rfl | rfl | rfl | rfl | rfl
      · exact hQ1
      · exact hQ1
      · exact hQ1
      · exact hQ1
      · exact hQ1
      · exact hQ1
      · exact hQ1
      · exact hQ1
      · exact hQ1
    · refine ⟨⟨rfl, ⟨rfl, trivial⟩, ?_⟩, ⟨rfl, ⟨rfl, trivial⟩, ?_⟩, ⟨rfl, trivial, ?_⟩, ⟨rfl, ⟨rfl, trivial⟩, ?_⟩, ⟨rfl, ⟨rfl, trivial⟩, ?_⟩, ⟨rfl, trivial, ?_⟩, ⟨rfl, ⟨rfl, trivial⟩, ?_⟩, ⟨rfl, ⟨rfl, trivial⟩, ?_⟩, ⟨rfl, trivial, ?_⟩, trivial⟩
      · intro w19 hE
        have hE := hE rfl
        have hB := ext_trans hB hE
        have hVga := hVga.ext hE
        intro R
        refine WL.loadV (cs := [.bool na, .slice Aan man can, .slice Aad mad cad]) Try.el31 Try.agg31 rfl rfl hVga.vcells rfl ?_
        exact WL.done ⟨_, rfl, ext_refl _, rfl⟩
      · intro w20 hE
        have hE := hE rfl
        have hB := ext_trans hB hE
        have hVgb := hVgb.ext hE
        intro R
        refine WL.loadV (cs := [.bool nb, .slice Abn mbn cbn, .slice Abd mbd cbd]) Try.el31 Try.agg31 rfl rfl hVgb.vcells rfl ?_
        exact WL.done ⟨_, rfl, ext_refl _, rfl⟩
      · intro w21 hE
        have hE := hE rfl
        have hB := ext_trans hB hE
        have han := han0.ext hB
        have had := had0.ext hB
        have hbn := hbn0.ext hB
        have hbd := hbd0.ext hB
        rintro _ rfl
        rintro _ rfl
        intro R
        refine WL.call Try.func39 rfl Try.nm39 rfl rfl (qCmp_c han had hbn hbd hLan hLad qa hqa hLbn hLbd qb hqb (by omega) (by omega)) ?_
        rintro _ w22 ⟨rfl, hGw22⟩
        have hB := ext_trans hB hGw22
        exact WL.done ⟨_, rfl, hGw22, rfl⟩
      · intro w23 hE
        have hE := hE rfl
        have hB := ext_trans hB hE
        have hVgb := hVgb.ext hE
        intro R
        refine WL.loadV (cs := [.bool nb, .slice Abn mbn cbn, .slice Abd mbd cbd]) Try.el31 Try.agg31 rfl rfl hVgb.vcells rfl ?_
        exact WL.done ⟨_, rfl, ext_refl _, rfl⟩
      · intro w24 hE
        have hE := hE rfl
        have hB := ext_trans hB hE
        have hVgc := hVgc.ext hE
        intro R
        refine WL.loadV (cs := [.bool nc, .slice Acn mcn ccn, .slice Acd mcd ccd]) Try.el31 Try.agg31 rfl rfl hVgc.vcells rfl ?_
        exact WL.done ⟨_, rfl, ext_refl _, rfl⟩
      · intro w25 hE
        have hE := hE rfl
        have hB := ext_trans hB hE
        have hbn := hbn0.ext hB
        have hbd := hbd0.ext hB
        have hcn := hcn0.ext hB
        have hcd := hcd0.ext hB
        rintro _ rfl
        rintro _ rfl
        intro R
        refine WL.call Try.func39 rfl Try.nm39 rfl rfl (qCmp_c hbn hbd hcn hcd hLbn hLbd qb hqb hLcn hLcd qc hqc (by omega) (by omega)) ?_
        rintro _ w26 ⟨rfl, hGw26⟩
        have hB := ext_trans hB hGw26
        exact WL.done ⟨_, rfl, hGw26, rfl⟩
      · intro w27 hE
        have hE := hE rfl
        have hB := ext_trans hB hE
        have hVga := hVga.ext hE
        intro R
        refine WL.loadV (cs := [.bool na, .slice Aan man can, .slice Aad mad cad]) Try.el31 Try.agg31 rfl rfl hVga.vcells rfl ?_
        exact WL.done ⟨_, rfl, ext_refl _, rfl⟩
      · intro w28 hE
        have hE := hE rfl
        have hB := ext_trans hB hE
        have hVgc := hVgc.ext hE
        intro R
        refine WL.loadV (cs := [.bool nc, .slice Acn mcn ccn, .slice Acd mcd ccd]) Try.el31 Try.agg31 rfl rfl hVgc.vcells rfl ?_
        exact WL.done ⟨_, rfl, ext_refl _, rfl⟩
      · intro w29 hE
        have hE := hE rfl
        have hB := ext_trans hB hE
        have han := han0.ext hB
        have had := had0.ext hB
        have hcn := hcn0.ext hB
        have hcd := hcd0.ext hB
        rintro _ rfl
        rintro _ rfl
        intro R
        refine WL.call Try.func39 rfl Try.nm39 rfl rfl (qCmp_c han had hcn hcd hLan hLad qa hqa hLcn hLcd qc hqc (by omega) (by omega)) ?_
        rintro _ w30 ⟨rfl, hGw30⟩
        have hB := ext_trans hB hGw30
        exact WL.done ⟨_, rfl, hGw30, rfl⟩
    · intro vals w31 hT hVs
      have hB := ext_trans hB hT
      have han := han0.ext hB
      have had := had0.ext hB
      have hbn := hbn0.ext hB
      have hbd := hbd0.ext hB
      have hcn := hcn0.ext hB
      have hcd := hcd0.ext hB
      have hVga := hVga.ext hT
      have hVgb := hVgb.ext hT
      have hVgc := hVgc.ext hT
      have hv0 : vals 0 = _ := hVs 0 (by decide)
      have hv1 : vals 1 = _ := hVs 1 (by decide)
      have hv2 : vals 2 = _ := hVs 2 (by decide)
      have hv3 : vals 3 = _ := hVs 3 (by decide)
      have hv4 : vals 4 = _ := hVs 4 (by decide)
      have hv5 : vals 5 = _ := hVs 5 (by decide)
      have hv6 : vals 6 = _ := hVs 6 (by decide)
      have hv7 : vals 7 = _ := hVs 7 (by decide)
      have hv8 : vals 8 = _ := hVs 8 (by decide)
      rw [show (List.filterMap (fun i => Option.map (fun t => (t, vals i)) (dstAt _ i)) (List.range _)) = [(15, .agg #[.bool na, .slice Aan man can, .slice Aad mad cad]), (16, .agg #[.bool nb, .slice Abn mbn cbn, .slice Abd mbd cbd]), (17, .int .i64 (sg (qa - qb))), (18, .agg #[.bool nb, .slice Abn mbn cbn, .slice Abd mbd cbd]), (19, .agg #[.bool nc, .slice Acn mcn ccn, .slice Acd mcd ccd]), (20, .int .i64 (sg (qb - qc))), (21, .agg #[.bool na, .slice Aan man can, .slice Aad mad cad]), (22, .agg #[.bool nc, .slice Acn mcn ccn, .slice Acd mcd ccd]), (23, .int .i64 (sg (qa - qc)))] from by
        show [(15, vals 0), (16, vals 1), (17, vals 2), (18, vals 3), (19, vals 4), (20, vals 5), (21, vals 6), (22, vals 7), (23, vals 8)] = _
        rw [hv0, hv1, hv2, hv3, hv4, hv5, hv6, hv7, hv8]]
      refine WA.step [9] (by decide +kernel) rfl ?_
      intro iQ hQ
      simp only [List.mem_cons, List.not_mem_nil, or_false] at hQ
      obtain rfl := hQ
      · refine ⟨_, rfl, ?_⟩
        refine WL.assign rfl rfl ?_
        refine WL.done ?_
        refine WA.step [10] (by decide +kernel) rfl ?_
        intro iQ hQ
        simp only [List.mem_cons, List.not_mem_nil, or_false] at hQ
        obtain rfl := hQ
        · refine ⟨_, rfl, ?_⟩
          refine WL.assign rfl rfl ?_
          refine WL.done ?_
          refine WA.step [11] (by decide +kernel) rfl ?_
          intro iQ hQ
          simp only [List.mem_cons, List.not_mem_nil, or_false] at hQ
          obtain rfl := hQ
          · refine ⟨_, rfl, ?_⟩
            refine WL.assign rfl rfl ?_
            refine WL.done ?_
            refine WA.done (by decide +kernel) ?_
            refine W.seq ?_
            refine W.seq ?_
            refine W.region ?_
            refine WL.lit1 (b := w31.heap.size) Try.underlying23 Try.el43 rfl rfl rfl rfl (by intro v hv; simp only [List.mem_cons, List.not_mem_nil, or_false] at hv; rcases hv with rfl <;> rfl) (Nat.le_refl _) rfl ?_
            rintro A32 w33 - hO34 hGw33
            have hO34 := hO34.low (b' := w.heap.size) hB.size
            have hB := ext_trans hB hGw33
            have han := han0.ext hB
            have had := had0.ext hB
            have hbn := hbn0.ext hB
            have hbd := hbd0.ext hB
            have hcn := hcn0.ext hB
            have hcd := hcd0.ext hB
            have hVga := hVga.ext hGw33
            have hVgb := hVgb.ext hGw33
            have hVgc := hVgc.ext hGw33
            change Own _ _ _ _ _ _ _ (us [1]) at hO34
            refine WL.lit1 (b := w33.heap.size) Try.underlying23 Try.el43 rfl rfl rfl rfl (by intro v hv; simp only [List.mem_cons, List.not_mem_nil, or_false] at hv; rcases hv with rfl <;> rfl) (Nat.le_refl _) rfl ?_
            rintro A35 w36 - hO37 hGw36
            have hO37 := hO37.low (b' := w.heap.size) hB.size
            have hB := ext_trans hB hGw36
            have han := han0.ext hB
            have had := had0.ext hB
            have hbn := hbn0.ext hB
            have hbd := hbd0.ext hB
            have hcn := hcn0.ext hB
            have hcd := hcd0.ext hB
            have hVga := hVga.ext hGw36
            have hVgb := hVgb.ext hGw36
            have hVgc := hVgc.ext hGw36
            have hO34 := hO34.ext hGw36
            change Own _ _ _ _ _ _ _ (us [3]) at hO37
            refine WL.build (cells := #[.bool false, .slice A32 1 1, .slice A35 1 1]) Try.bld31 rfl rfl rfl ?_
            refine WL.lit1 (b := w36.heap.size) Try.underlying23 Try.el43 rfl rfl rfl rfl (by intro v hv; simp only [List.mem_cons, List.not_mem_nil, or_false] at hv; rcases hv with rfl <;> rfl) (Nat.le_refl _) rfl ?_
            rintro A38 w39 - hO40 hGw39
            have hO40 := hO40.low (b' := w.heap.size) hB.size
            have hB := ext_trans hB hGw39
            have han := han0.ext hB
            have had := had0.ext hB
            have hbn := hbn0.ext hB
            have hbd := hbd0.ext hB
            have hcn := hcn0.ext hB
            have hcd := hcd0.ext hB
            have hVga := hVga.ext hGw39
            have hVgb := hVgb.ext hGw39
            have hVgc := hVgc.ext hGw39
            have hO34 := hO34.ext hGw39
            have hO37 := hO37.ext hGw39
            change Own _ _ _ _ _ _ _ (us [1]) at hO40
            refine WL.lit1 (b := w39.heap.size) Try.underlying23 Try.el43 rfl rfl rfl rfl (by intro v hv; simp only [List.mem_cons, List.not_mem_nil, or_false] at hv; rcases hv with rfl <;> rfl) (Nat.le_refl _) rfl ?_
            rintro A41 w42 - hO43 hGw42
            have hO43 := hO43.low (b' := w.heap.size) hB.size
            have hB := ext_trans hB hGw42
            have han := han0.ext hB
            have had := had0.ext hB
            have hbn := hbn0.ext hB
            have hbd := hbd0.ext hB
            have hcn := hcn0.ext hB
            have hcd := hcd0.ext hB
            have hVga := hVga.ext hGw42
            have hVgb := hVgb.ext hGw42
            have hVgc := hVgc.ext hGw42
            have hO34 := hO34.ext hGw42
            have hO37 := hO37.ext hGw42
            have hO40 := hO40.ext hGw42
            change Own _ _ _ _ _ _ _ (us [2]) at hO43
            refine WL.build (cells := #[.bool false, .slice A38 1 1, .slice A41 1 1]) Try.bld31 rfl rfl rfl ?_
            refine WL.call Try.func39 rfl Try.nm39 rfl rfl (qCmp_c hO34.rd hO37.rd hO40.rd hO43.rd (by intro x hx; simp only [List.mem_cons, List.not_mem_nil, or_false] at hx; omega) (by intro x hx; simp only [List.mem_cons, List.not_mem_nil, or_false] at hx; omega) (val false (nv [1]) (nv [3])) rfl (by intro x hx; simp only [List.mem_cons, List.not_mem_nil, or_false] at hx; omega) (by intro x hx; simp only [List.mem_cons, List.not_mem_nil, or_false] at hx; omega) (val false (nv [1]) (nv [2])) rfl (by omega) (by omega)) ?_
            rintro _ w44 ⟨rfl, hGw44⟩
            have hB := ext_trans hB hGw44
            have han := han0.ext hB
            have had := had0.ext hB
            have hbn := hbn0.ext hB
            have hbd := hbd0.ext hB
            have hcn := hcn0.ext hB
            have hcd := hcd0.ext hB
            have hVga := hVga.ext hGw44
            have hVgb := hVgb.ext hGw44
            have hVgc := hVgc.ext hGw44
            refine WL.neq rfl rfl rfl (fun hth => ?_) (fun hth => ?_)
            · exfalso
              exact hth third_half
            · refine WL.move rfl rfl ?_
              refine WL.take rfl ?_
              refine WL.loadV (cs := [.bool nb, .slice Abn mbn cbn, .slice Abd mbd cbd]) Try.el31 Try.agg31 rfl rfl hVgb.vcells rfl ?_
              refine WL.take rfl ?_
              refine WL.loadV (cs := [.bool na, .slice Aan man can, .slice Aad mad cad]) Try.el31 Try.agg31 rfl rfl hVga.vcells rfl ?_
              refine WL.take rfl ?_
              refine WL.call Try.func39 rfl Try.nm39 rfl rfl (qCmp_c hbn hbd han had hLbn hLbd qb hqb hLan hLad qa hqa (by omega) (by omega)) ?_
              rintro _ w46 ⟨rfl, hGw46⟩
              have hB := ext_trans hB hGw46
              have han := han0.ext hB
              have had := had0.ext hB
              have hbn := hbn0.ext hB
              have hbd := hbd0.ext hB
              have hcn := hcn0.ext hB
              have hcd := hcd0.ext hB
              have hVga := hVga.ext hGw46
              have hVgb := hVgb.ext hGw46
              have hVgc := hVgc.ext hGw46
              refine WL.take rfl ?_
              refine WL.move rfl rfl ?_
              refine WL.take rfl ?_
              refine WL.neg (r := (-sg (qa - qb))) rfl (wi64 (by omega) (by omega) (by omega)) rfl ?_
              refine WL.take rfl ?_
              refine WL.neq rfl rfl rfl (fun hne => ?_) (fun hne => ?_)
              · exfalso
                exact hne (sg_subc qa qb)
              · refine WL.pick rfl rfl rfl ?_
                refine WL.done ?_
                refine W.condF rfl ?_
                refine W.skip ?_
                refine W.cut (σ := Unit) (fun u w1 => w.grownBy w1 none ∧ Own w.heap.size w1 31 3 (some ⟨ga, 0, none⟩) 1 1 [.bool na, .slice Aan man can, .slice Aad mad cad] ∧ Own w.heap.size w1 31 3 (some ⟨gb, 0, none⟩) 1 1 [.bool nb, .slice Abn mbn cbn, .slice Abd mbd cbd] ∧ Own w.heap.size w1 31 3 (some ⟨gc, 0, none⟩) 1 1 [.bool nc, .slice Acn mcn ccn, .slice Acd mcd ccd]) (fun u => [(3, .pointer (some ⟨ga, 0, none⟩)), (4, .pointer (some ⟨gb, 0, none⟩)), (5, .pointer (some ⟨gc, 0, none⟩)), (7, .int .i64 (sg (qa - qb)))]) ?_ ?_
                · refine W.seq ?_
                  rcases ord5 (sg (qa - qb)) (sg (qb - qc)) with hx | ⟨hx, hy⟩ | ⟨hx, hy⟩ | ⟨hx, hy⟩ | ⟨hx, hy⟩
                  · refine W.draw [⟨[], [7], true⟩, ⟨[0], [], true⟩, ⟨[1], [], true⟩, ⟨[2], [8], true⟩, ⟨[2, 3], [], true⟩, ⟨[2, 4], [], true⟩, ⟨[5], [], true⟩, ⟨[6], [9], true⟩, ⟨[6, 7], [], true⟩, ⟨[6, 8], [], true⟩, ⟨[9], [], true⟩, ⟨[10], [7], true⟩, ⟨[10, 11], [], true⟩, ⟨[10], [3], false⟩, ⟨[10, 13], [], false⟩, ⟨[10], [4], false⟩, ⟨[10, 15], [], false⟩, ⟨[10, 14, 16], [], false⟩, ⟨[10, 12, 17], [], true⟩, ⟨[10, 18], [], true⟩] [[(7, .int .i64 (sg (qa - qb)))], [], [], [(8, .int .i64 (sg (qb - qc)))], [], [], [], [(9, .int .i64 (sg (qa - qc)))], [], [], [], [(7, .int .i64 (sg (qa - qb)))], [], [(3, .pointer (some ⟨ga, 0, none⟩))], [], [(4, .pointer (some ⟨gb, 0, none⟩))], [], [], [], []] (fun iQ => [fun v wQ => v = .int .i64 (sg (qa - qb)), fun v _ => v = .bool false, fun v wQ => v = .bool false, fun v wQ => v = undef, fun v wQ => v = undef, fun v wQ => v = .bool false, fun v wQ => v = .bool false, fun v wQ => v = undef, fun v wQ => v = undef, fun v wQ => v = .bool false, fun v wQ => v = .bool false, fun v wQ => v = .int .i64 (sg (qa - qb)), fun v _ => v = .bool false, fun v wQ => v = .agg #[.bool na, .slice Aan man can, .slice Aad mad cad], fun v wQ => ∃ A64 m65 c66 A67 m68 c69, v = .agg #[.bool (qneg (qa)), .slice A64 m65 c66, .slice A67 m68 c69] ∧ (Own w.heap.size wQ 43 1 A64 m65 c66 (us (digs (qnum (qa))))) ∧ (Own w.heap.size wQ 43 1 A67 m68 c69 (us (digs (Rat.den (qa))))) ∧ (m65 ≤ man ∧ m68 ≤ mad + 1) ∧ (∀ k, bl A64 = some k → k ≠ ga) ∧ (∀ k, bl A64 = some k → k ≠ gb) ∧ (∀ k, bl A64 = some k → k ≠ gc) ∧ (∀ k, bl A67 = some k → k ≠ ga) ∧ (∀ k, bl A67 = some k → k ≠ gb) ∧ (∀ k, bl A67 = some k → k ≠ gc), fun v wQ => v = .agg #[.bool nb, .slice Abn mbn cbn, .slice Abd mbd cbd], fun v wQ => ∃ A73 m74 c75 A76 m77 c78, v = .agg #[.bool (qneg (qb)), .slice A73 m74 c75, .slice A76 m77 c78] ∧ (Own w.heap.size wQ 43 1 A73 m74 c75 (us (digs (qnum (qb))))) ∧ (Own w.heap.size wQ 43 1 A76 m77 c78 (us (digs (Rat.den (qb))))) ∧ (m74 ≤ mbn ∧ m77 ≤ mbd + 1) ∧ (∀ k, bl A73 = some k → k ≠ ga) ∧ (∀ k, bl A73 = some k → k ≠ gb) ∧ (∀ k, bl A73 = some k → k ≠ gc) ∧ (∀ k, bl A76 = some k → k ≠ ga) ∧ (∀ k, bl A76 = some k → k ≠ gb) ∧ (∀ k, bl A76 = some k → k ≠ gc), fun v wQ => v = .bool false, fun v wQ => v = .bool false, fun v wQ => v = .bool false].getD iQ (fun _ _ => True)) (fun _ => True) 20 Try.mixed (by kernel_rfl) ?_ ?_ ?_
                    · refine Vs_mono _ ?_
                      intro VQ hVQ vQ wQ1 wQ2 hQ1 hQ2
                      have hQ2 := hQ2.resolve_right (by decide)
                      simp only [List.mem_cons, List.not_mem_nil, or_false] at hVQ
                      rcases hVQ with rfl | rfl | rfl | rfl | rfl | rfl | rfl | rfl | rfl | rfl | rfl | rfl | rfl | rfl | rfl | rfl | rfl | rfl | rfl | rfl
                      · exact hQ1
                      · exact hQ1
                      · exact hQ1
                      · exact hQ1
                      · exact hQ1
                      · exact hQ1
                      · exact hQ1
                      · exact hQ1
                      · exact hQ1
                      · exact hQ1
                      · exact hQ1
                      · exact hQ1
                      · exact hQ1
                      · exact hQ1
                      · obtain ⟨A64, m65, c66, A67, m68, c69, hQe, t1n, t1d, t1m, hap_t1n_ga, hap_t1n_gb, hap_t1n_gc, hap_t1d_ga, hap_t1d_gb, hap_t1d_gc⟩ := hQ1
                        exact ⟨A64, m65, c66, A67, m68, c69, hQe, t1n.ext hQ2, t1d.ext hQ2, t1m, hap_t1n_ga, hap_t1n_gb, hap_t1n_gc, hap_t1d_ga, hap_t1d_gb, hap_t1d_gc⟩
                      · exact hQ1
                      · obtain ⟨A73, m74, c75, A76, m77, c78, hQe, t2n, t2d, t2m, hap_t2n_ga, hap_t2n_gb, hap_t2n_gc, hap_t2d_ga, hap_t2d_gb, hap_t2d_gc⟩ := hQ1
                        exact ⟨A73, m74, c75, A76, m77, c78, hQe, t2n.ext hQ2, t2d.ext hQ2, t2m, hap_t2n_ga, hap_t2n_gb, hap_t2n_gc, hap_t2d_ga, hap_t2d_gb, hap_t2d_gc⟩
                      · exact hQ1
                      · exact hQ1
                      · exact hQ1
                    · refine ⟨⟨rfl, ⟨rfl, trivial⟩, ?_⟩, ⟨rfl, trivial, ?_⟩, ⟨rfl, trivial, ?_⟩, ⟨rfl, ⟨rfl, trivial⟩, ?_⟩, ⟨rfl, trivial, ?_⟩, ⟨rfl, trivial, ?_⟩, ⟨rfl, trivial, ?_⟩, ⟨rfl, ⟨rfl, trivial⟩, ?_⟩, ⟨rfl, trivial, ?_⟩, ⟨rfl, trivial, ?_⟩, ⟨rfl, trivial, ?_⟩, ⟨rfl, ⟨rfl, trivial⟩, ?_⟩, ⟨rfl, trivial, ?_⟩, ⟨rfl, ⟨rfl, trivial⟩, ?_⟩, ⟨rfl, trivial, ?_⟩, ⟨rfl, ⟨rfl, trivial⟩, ?_⟩, ⟨rfl, trivial, ?_⟩, ⟨rfl, trivial, ?_⟩, ⟨rfl, trivial, ?_⟩, ⟨rfl, trivial, ?_⟩, trivial⟩
                      · intro w48 hE
                        intro R
                        refine WL.move rfl rfl ?_
                        exact WL.done ⟨_, rfl, rfl, rfl⟩
                      · intro w49 hE
                        rintro _ rfl
                        intro R
                        refine WL.leqD rfl rfl rfl ?_
                        exact WL.done ⟨_, rfl, rfl, (dec_f (by omega))⟩
                      · intro w50 hE
                        rintro _ rfl
                        intro R
                        refine WL.move rfl rfl ?_
                        exact WL.done ⟨_, rfl, rfl, rfl⟩
                      · intro w51 hE
                        rintro _ rfl
                        intro R
                        refine WL.pass rfl rfl rfl ?_
                        exact WL.done ⟨_, rfl, rfl, rfl⟩
                      · intro w52 hE
                        rintro _ rfl
                        rintro _ rfl
                        intro R
                        refine WL.pass rfl rfl rfl ?_
                        exact WL.done ⟨_, rfl, rfl, rfl⟩
                      · intro w53 hE
                        rintro _ rfl
                        rintro _ rfl
                        intro R
                        refine WL.pick rfl rfl rfl ?_
                        exact WL.done ⟨_, rfl, rfl, rfl⟩
                      · intro w54 hE
                        rintro _ rfl
                        intro R
                        refine WL.move rfl rfl ?_
                        exact WL.done ⟨_, rfl, rfl, rfl⟩
                      · intro w55 hE
                        rintro _ rfl
                        intro R
                        refine WL.pass rfl rfl rfl ?_
                        exact WL.done ⟨_, rfl, rfl, rfl⟩
                      · intro w56 hE
                        rintro _ rfl
                        rintro _ rfl
                        intro R
                        refine WL.pass rfl rfl rfl ?_
                        exact WL.done ⟨_, rfl, rfl, rfl⟩
                      · intro w57 hE
                        rintro _ rfl
                        rintro _ rfl
                        intro R
                        refine WL.pick rfl rfl rfl ?_
                        exact WL.done ⟨_, rfl, rfl, rfl⟩
                      · intro w58 hE
                        rintro _ rfl
                        intro R
                        refine WL.move rfl rfl ?_
                        exact WL.done ⟨_, rfl, rfl, rfl⟩
                      · intro w59 hE
                        rintro _ rfl
                        intro R
                        refine WL.take rfl ?_
                        refine WL.move rfl rfl ?_
                        exact WL.done ⟨_, rfl, rfl, rfl⟩
                      · intro w60 hE
                        rintro _ rfl
                        rintro _ rfl
                        intro R
                        refine WL.take rfl ?_
                        refine WL.eqlD rfl rfl rfl ?_
                        exact WL.done ⟨_, rfl, rfl, (dec_f (by omega))⟩
                      · intro w61 hE
                        have hE := hE rfl
                        have hB := ext_trans hB hE
                        have hVga := hVga.ext hE
                        rintro _ rfl
                        intro R
                        refine WL.take rfl ?_
                        refine WL.loadV (cs := [.bool na, .slice Aan man can, .slice Aad mad cad]) Try.el31 Try.agg31 rfl rfl hVga.vcells rfl ?_
                        exact WL.done ⟨_, rfl, ext_refl _, rfl⟩
                      · intro w62 hE
                        have hE := hE rfl
                        have hB := ext_trans hB hE
                        have han := han0.ext hB
                        have had := had0.ext hB
                        have hVga := hVga.ext hE
                        have hVgb := hVgb.ext hE
                        have hVgc := hVgc.ext hE
                        rintro _ rfl
                        rintro _ rfl
                        intro R
                        refine WL.take rfl ?_
                        refine WL.call Try.func19 rfl Try.nm19 rfl rfl (qTrim_c han had hLan hLad qa hqa (by omega)) ?_
                        rintro _ w63 ⟨A64, m65, c66, A67, m68, c69, rfl, hGw63, t1n, t1d, t1m⟩
                        have hap_t1n_ga := ap_new t1n (hVga.bl_ge _ rfl).2
                        have hap_t1n_gb := ap_new t1n (hVgb.bl_ge _ rfl).2
                        have hap_t1n_gc := ap_new t1n (hVgc.bl_ge _ rfl).2
                        have hap_t1d_ga := ap_new t1d (hVga.bl_ge _ rfl).2
                        have hap_t1d_gb := ap_new t1d (hVgb.bl_ge _ rfl).2
                        have hap_t1d_gc := ap_new t1d (hVgc.bl_ge _ rfl).2
                        have t1n := t1n.low (b' := w.heap.size) hB.size
                        have t1d := t1d.low (b' := w.heap.size) hB.size
                        have hB := ext_trans hB hGw63
                        have t1n_l := t1n.rd.ulen
                        have t1d_l := t1d.rd.ulen
                        exact WL.done ⟨_, rfl, hGw63, ⟨A64, m65, c66, A67, m68, c69, rfl, t1n, t1d, t1m, hap_t1n_ga, hap_t1n_gb, hap_t1n_gc, hap_t1d_ga, hap_t1d_gb, hap_t1d_gc⟩⟩
                      · intro w70 hE
                        have hE := hE rfl
                        have hB := ext_trans hB hE
                        have hVgb := hVgb.ext hE
                        rintro _ rfl
                        intro R
                        refine WL.take rfl ?_
                        refine WL.loadV (cs := [.bool nb, .slice Abn mbn cbn, .slice Abd mbd cbd]) Try.el31 Try.agg31 rfl rfl hVgb.vcells rfl ?_
                        exact WL.done ⟨_, rfl, ext_refl _, rfl⟩
                      · intro w71 hE
                        have hE := hE rfl
                        have hB := ext_trans hB hE
                        have hbn := hbn0.ext hB
                        have hbd := hbd0.ext hB
                        have hVga := hVga.ext hE
                        have hVgb := hVgb.ext hE
                        have hVgc := hVgc.ext hE
                        rintro _ rfl
                        rintro _ rfl
                        intro R
                        refine WL.take rfl ?_
                        refine WL.call Try.func19 rfl Try.nm19 rfl rfl (qTrim_c hbn hbd hLbn hLbd qb hqb (by omega)) ?_
                        rintro _ w72 ⟨A73, m74, c75, A76, m77, c78, rfl, hGw72, t2n, t2d, t2m⟩
                        have hap_t2n_ga := ap_new t2n (hVga.bl_ge _ rfl).2
                        have hap_t2n_gb := ap_new t2n (hVgb.bl_ge _ rfl).2
                        have hap_t2n_gc := ap_new t2n (hVgc.bl_ge _ rfl).2
                        have hap_t2d_ga := ap_new t2d (hVga.bl_ge _ rfl).2
                        have hap_t2d_gb := ap_new t2d (hVgb.bl_ge _ rfl).2
                        have hap_t2d_gc := ap_new t2d (hVgc.bl_ge _ rfl).2
                        have t2n := t2n.low (b' := w.heap.size) hB.size
                        have t2d := t2d.low (b' := w.heap.size) hB.size
                        have hB := ext_trans hB hGw72
                        have t2n_l := t2n.rd.ulen
                        have t2d_l := t2d.rd.ulen
                        exact WL.done ⟨_, rfl, hGw72, ⟨A73, m74, c75, A76, m77, c78, rfl, t2n, t2d, t2m, hap_t2n_ga, hap_t2n_gb, hap_t2n_gc, hap_t2d_ga, hap_t2d_gb, hap_t2d_gc⟩⟩
                      · intro w79 hE
                        have hE := hE rfl
                        have hB := ext_trans hB hE
                        rintro _ rfl
                        rintro _ ⟨A64, m65, c66, A67, m68, c69, rfl, t1n, t1d, t1m, hap_t1n_ga, hap_t1n_gb, hap_t1n_gc, hap_t1d_ga, hap_t1d_gb, hap_t1d_gc⟩
                        rintro _ ⟨A73, m74, c75, A76, m77, c78, rfl, t2n, t2d, t2m, hap_t2n_ga, hap_t2n_gb, hap_t2n_gc, hap_t2d_ga, hap_t2d_gb, hap_t2d_gc⟩
                        intro R
                        refine WL.take rfl ?_
                        refine WL.call Try.func18 rfl Try.nm18 rfl rfl (qsame_t_f t1n.rd t1d.rd t2n.rd t2d.rd (fun h => by have h1 := can_inj h; rw [h1, sub_zero_iff.2 rfl] at hx; have h2 : sg 0 = 0 := sg_zero.2 rfl; omega)) ?_
                        rintro _ w80 ⟨rfl, hGw80⟩
                        have hB := ext_trans hB hGw80
                        exact WL.done ⟨_, rfl, hGw80, rfl⟩
                      · intro w81 hE
                        rintro _ rfl
                        rintro _ rfl
                        rintro _ rfl
                        intro R
                        refine WL.take rfl ?_
                        refine WL.neqB rfl rfl Try.underlying4 rfl rfl ?_
                        exact WL.done ⟨_, rfl, rfl, rfl⟩
                      · intro w82 hE
                        rintro _ rfl
                        rintro _ rfl
                        intro R
                        refine WL.pick rfl rfl rfl ?_
                        exact WL.done ⟨_, rfl, rfl, rfl⟩
                    · intro vals w83 hT hVs
                      rw [if_neg (by decide)] at hT
                      have hB := ext_trans hB hT
                      have hVga := hVga.ext hT
                      have hVgb := hVgb.ext hT
                      have hVgc := hVgc.ext hT
                      have hv0 : vals 0 = _ := hVs 0 (by decide) (by decide)
                      have hv1 : vals 1 = _ := hVs 1 (by decide) (by decide)
                      have hv2 : vals 2 = _ := hVs 2 (by decide) (by decide)
                      have hv3 : vals 3 = _ := hVs 3 (by decide) (by decide)
                      have hv4 : vals 4 = _ := hVs 4 (by decide) (by decide)
                      have hv5 : vals 5 = _ := hVs 5 (by decide) (by decide)
                      have hv6 : vals 6 = _ := hVs 6 (by decide) (by decide)
                      have hv7 : vals 7 = _ := hVs 7 (by decide) (by decide)
                      have hv8 : vals 8 = _ := hVs 8 (by decide) (by decide)
                      have hv9 : vals 9 = _ := hVs 9 (by decide) (by decide)
                      have hv10 : vals 10 = _ := hVs 10 (by decide) (by decide)
                      have hv11 : vals 11 = _ := hVs 11 (by decide) (by decide)
                      have hv12 : vals 12 = _ := hVs 12 (by decide) (by decide)
                      have hv13 : vals 13 = _ := hVs 13 (by decide) (by decide)
                      obtain ⟨A64, m65, c66, A67, m68, c69, hv14, t1n, t1d, t1m, hap_t1n_ga, hap_t1n_gb, hap_t1n_gc, hap_t1d_ga, hap_t1d_gb, hap_t1d_gc⟩ := hVs 14 (by decide) (by decide)
                      have hv15 : vals 15 = _ := hVs 15 (by decide) (by decide)
                      obtain ⟨A73, m74, c75, A76, m77, c78, hv16, t2n, t2d, t2m, hap_t2n_ga, hap_t2n_gb, hap_t2n_gc, hap_t2d_ga, hap_t2d_gb, hap_t2d_gc⟩ := hVs 16 (by decide) (by decide)
                      have hv17 : vals 17 = _ := hVs 17 (by decide) (by decide)
                      have hv18 : vals 18 = _ := hVs 18 (by decide) (by decide)
                      have hv19 : vals 19 = _ := hVs 19 (by decide) (by decide)
                      rw [show (List.filterMap (fun i => Option.map (fun t => (t, vals i)) (dstAt _ i)) (List.range _)) = [(40, .int .i64 (sg (qa - qb))), (41, .bool false), (42, .bool false), (43, undef), (44, undef), (45, .bool false), (46, .bool false), (47, undef), (48, undef), (49, .bool false), (50, .bool false), (51, .int .i64 (sg (qa - qb))), (52, .bool false), (53, .agg #[.bool na, .slice Aan man can, .slice Aad mad cad]), (54, .agg #[.bool (qneg (qa)), .slice A64 m65 c66, .slice A67 m68 c69]), (55, .agg #[.bool nb, .slice Abn mbn cbn, .slice Abd mbd cbd]), (56, .agg #[.bool (qneg (qb)), .slice A73 m74 c75, .slice A76 m77 c78]), (57, .bool false), (58, .bool false), (59, .bool false)] from by
                        show [(40, vals 0), (41, vals 1), (42, vals 2), (43, vals 3), (44, vals 4), (45, vals 5), (46, vals 6), (47, vals 7), (48, vals 8), (49, vals 9), (50, vals 10), (51, vals 11), (52, vals 12), (53, vals 13), (54, vals 14), (55, vals 15), (56, vals 16), (57, vals 17), (58, vals 18), (59, vals 19)] = _
                        rw [hv0, hv1, hv2, hv3, hv4, hv5, hv6, hv7, hv8, hv9, hv10, hv11, hv12, hv13, hv14, hv15, hv16, hv17, hv18, hv19]]
                      refine W.condF rfl ?_
                      refine W.skip ?_
                      refine ⟨(), ⟨rfl, rfl, rfl, rfl, trivial⟩, ?_⟩
                      exact ⟨hB, hVga, hVgb, hVgc⟩
                  · refine W.draw [⟨[], [7], true⟩, ⟨[0], [], true⟩, ⟨[1], [], true⟩, ⟨[2], [8], true⟩, ⟨[2, 3], [], true⟩, ⟨[2, 4], [], true⟩, ⟨[5], [], true⟩, ⟨[6], [9], true⟩, ⟨[6, 7], [], true⟩, ⟨[6, 8], [], true⟩, ⟨[9], [], true⟩, ⟨[10], [7], true⟩, ⟨[10, 11], [], true⟩, ⟨[10], [3], false⟩, ⟨[10, 13], [], false⟩, ⟨[10], [4], false⟩, ⟨[10, 15], [], false⟩, ⟨[10, 14, 16], [], false⟩, ⟨[10, 12, 17], [], true⟩, ⟨[10, 18], [], true⟩] [[(7, .int .i64 (sg (qa - qb)))], [], [], [(8, .int .i64 (sg (qb - qc)))], [], [], [], [(9, .int .i64 (sg (qa - qc)))], [], [], [], [(7, .int .i64 (sg (qa - qb)))], [], [(3, .pointer (some ⟨ga, 0, none⟩))], [], [(4, .pointer (some ⟨gb, 0, none⟩))], [], [], [], []] (fun iQ => [fun v wQ => v = .int .i64 (sg (qa - qb)), fun v _ => v = .bool true, fun v wQ => v = .bool true, fun v wQ => v = .int .i64 (sg (qb - qc)), fun v _ => v = .bool true, fun v wQ => v = .bool true, fun v wQ => v = .bool true, fun v wQ => v = .int .i64 (sg (qa - qc)), fun v _ => v = .bool false, fun v wQ => v = .bool false, fun v wQ => v = .bool false, fun v wQ => v = .int .i64 (sg (qa - qb)), fun v _ => v = .bool true, fun v wQ => v = .agg #[.bool na, .slice Aan man can, .slice Aad mad cad], fun v wQ => ∃ A100 m101 c102 A103 m104 c105, v = .agg #[.bool (qneg (qa)), .slice A100 m101 c102, .slice A103 m104 c105] ∧ (Own w.heap.size wQ 43 1 A100 m101 c102 (us (digs (qnum (qa))))) ∧ (Own w.heap.size wQ 43 1 A103 m104 c105 (us (digs (Rat.den (qa))))) ∧ (m101 ≤ man ∧ m104 ≤ mad + 1) ∧ (∀ k, bl A100 = some k → k ≠ ga) ∧ (∀ k, bl A100 = some k → k ≠ gb) ∧ (∀ k, bl A100 = some k → k ≠ gc) ∧ (∀ k, bl A103 = some k → k ≠ ga) ∧ (∀ k, bl A103 = some k → k ≠ gb) ∧ (∀ k, bl A103 = some k → k ≠ gc), fun v wQ => v = .agg #[.bool nb, .slice Abn mbn cbn, .slice Abd mbd cbd], fun v wQ => ∃ A109 m110 c111 A112 m113 c114, v = .agg #[.bool (qneg (qb)), .slice A109 m110 c111, .slice A112 m113 c114] ∧ (Own w.heap.size wQ 43 1 A109 m110 c111 (us (digs (qnum (qb))))) ∧ (Own w.heap.size wQ 43 1 A112 m113 c114 (us (digs (Rat.den (qb))))) ∧ (m110 ≤ mbn ∧ m113 ≤ mbd + 1) ∧ (∀ k, bl A109 = some k → k ≠ ga) ∧ (∀ k, bl A109 = some k → k ≠ gb) ∧ (∀ k, bl A109 = some k → k ≠ gc) ∧ (∀ k, bl A112 = some k → k ≠ ga) ∧ (∀ k, bl A112 = some k → k ≠ gb) ∧ (∀ k, bl A112 = some k → k ≠ gc), fun v wQ => v = .bool true, fun v wQ => v = .bool false, fun v wQ => v = .bool false].getD iQ (fun _ _ => True)) (fun _ => True) 20 Try.mixed (by kernel_rfl) ?_ ?_ ?_
                    · refine Vs_mono _ ?_
                      intro VQ hVQ vQ wQ1 wQ2 hQ1 hQ2
                      have hQ2 := hQ2.resolve_right (by decide)
                      simp only [List.mem_cons, List.not_mem_nil, or_false] at hVQ
                      rcases hVQ with rfl | rfl | rfl | rfl | rfl | rfl | rfl | rfl | rfl | rfl | rfl | rfl | rfl | rfl | rfl | rfl | rfl | rfl | rfl | rfl
                      · exact hQ1
                      · exact hQ1
                      · exact hQ1
                      · exact hQ1
                      · exact hQ1
                      · exact hQ1
                      · exact hQ1
                      · exact hQ1
                      · exact hQ1
                      · exact hQ1
                      · exact hQ1
                      · exact hQ1
                      · exact hQ1
                      · exact hQ1
                      · obtain ⟨A100, m101, c102, A103, m104, c105, hQe, t1n, t1d, t1m, hap_t1n_ga, hap_t1n_gb, hap_t1n_gc, hap_t1d_ga, hap_t1d_gb, hap_t1d_gc⟩ := hQ1
                        exact ⟨A100, m101, c102, A103, m104, c105, hQe, t1n.ext hQ2, t1d.ext hQ2, t1m, hap_t1n_ga, hap_t1n_gb, hap_t1n_gc, hap_t1d_ga, hap_t1d_gb, hap_t1d_gc⟩
                      · exact hQ1
                      · obtain ⟨A109, m110, c111, A112, m113, c114, hQe, t2n, t2d, t2m, hap_t2n_ga, hap_t2n_gb, hap_t2n_gc, hap_t2d_ga, hap_t2d_gb, hap_t2d_gc⟩ := hQ1
                        exact ⟨A109, m110, c111, A112, m113, c114, hQe, t2n.ext hQ2, t2d.ext hQ2, t2m, hap_t2n_ga, hap_t2n_gb, hap_t2n_gc, hap_t2d_ga, hap_t2d_gb, hap_t2d_gc⟩
                      · exact hQ1
                      · exact hQ1
                      · exact hQ1
                    · refine ⟨⟨rfl, ⟨rfl, trivial⟩, ?_⟩, ⟨rfl, trivial, ?_⟩, ⟨rfl, trivial, ?_⟩, ⟨rfl, ⟨rfl, trivial⟩, ?_⟩, ⟨rfl, trivial, ?_⟩, ⟨rfl, trivial, ?_⟩, ⟨rfl, trivial, ?_⟩, ⟨rfl, ⟨rfl, trivial⟩, ?_⟩, ⟨rfl, trivial, ?_⟩, ⟨rfl, trivial, ?_⟩, ⟨rfl, trivial, ?_⟩, ⟨rfl, ⟨rfl, trivial⟩, ?_⟩, ⟨rfl, trivial, ?_⟩, ⟨rfl, ⟨rfl, trivial⟩, ?_⟩, ⟨rfl, trivial, ?_⟩, ⟨rfl, ⟨rfl, trivial⟩, ?_⟩, ⟨rfl, trivial, ?_⟩, ⟨rfl, trivial, ?_⟩, ⟨rfl, trivial, ?_⟩, ⟨rfl, trivial, ?_⟩, trivial⟩
                      · intro w84 hE
                        intro R
                        refine WL.move rfl rfl ?_
                        exact WL.done ⟨_, rfl, rfl, rfl⟩
                      · intro w85 hE
                        rintro _ rfl
                        intro R
                        refine WL.leqD rfl rfl rfl ?_
                        exact WL.done ⟨_, rfl, rfl, (dec_t (by omega))⟩
                      · intro w86 hE
                        rintro _ rfl
                        intro R
                        refine WL.move rfl rfl ?_
                        exact WL.done ⟨_, rfl, rfl, rfl⟩
                      · intro w87 hE
                        rintro _ rfl
                        intro R
                        refine WL.take rfl ?_
                        refine WL.move rfl rfl ?_
                        exact WL.done ⟨_, rfl, rfl, rfl⟩
                      · intro w88 hE
                        rintro _ rfl
                        rintro _ rfl
                        intro R
                        refine WL.take rfl ?_
                        refine WL.leqD rfl rfl rfl ?_
                        exact WL.done ⟨_, rfl, rfl, (dec_t (by omega))⟩
                      · intro w89 hE
                        rintro _ rfl
                        rintro _ rfl
                        intro R
                        refine WL.pick rfl rfl rfl ?_
                        exact WL.done ⟨_, rfl, rfl, rfl⟩
                      · intro w90 hE
                        rintro _ rfl
                        intro R
                        refine WL.move rfl rfl ?_
                        exact WL.done ⟨_, rfl, rfl, rfl⟩
                      · intro w91 hE
                        rintro _ rfl
                        intro R
                        refine WL.take rfl ?_
                        refine WL.move rfl rfl ?_
                        exact WL.done ⟨_, rfl, rfl, rfl⟩
                      · intro w92 hE
                        rintro _ rfl
                        rintro _ rfl
                        intro R
                        refine WL.take rfl ?_
                        refine WL.gtrD rfl rfl rfl ?_
                        exact WL.done ⟨_, rfl, rfl, (dec_f (by have := sg_chain (a := qa) (b := qb) (c := qc) (by omega) (by omega); omega))⟩
                      · intro w93 hE
                        rintro _ rfl
                        rintro _ rfl
                        intro R
                        refine WL.pick rfl rfl rfl ?_
                        exact WL.done ⟨_, rfl, rfl, rfl⟩
                      · intro w94 hE
                        rintro _ rfl
                        intro R
                        refine WL.move rfl rfl ?_
                        exact WL.done ⟨_, rfl, rfl, rfl⟩
                      · intro w95 hE
                        rintro _ rfl
                        intro R
                        refine WL.take rfl ?_
                        refine WL.move rfl rfl ?_
                        exact WL.done ⟨_, rfl, rfl, rfl⟩
                      · intro w96 hE
                        rintro _ rfl
                        rintro _ rfl
                        intro R
                        refine WL.take rfl ?_
                        refine WL.eqlD rfl rfl rfl ?_
                        exact WL.done ⟨_, rfl, rfl, (dec_t (by omega))⟩
                      · intro w97 hE
                        have hE := hE rfl
                        have hB := ext_trans hB hE
                        have hVga := hVga.ext hE
                        rintro _ rfl
                        intro R
                        refine WL.take rfl ?_
                        refine WL.loadV (cs := [.bool na, .slice Aan man can, .slice Aad mad cad]) Try.el31 Try.agg31 rfl rfl hVga.vcells rfl ?_
                        exact WL.done ⟨_, rfl, ext_refl _, rfl⟩
                      · intro w98 hE
                        have hE := hE rfl
                        have hB := ext_trans hB hE
                        have han := han0.ext hB
                        have had := had0.ext hB
                        have hVga := hVga.ext hE
                        have hVgb := hVgb.ext hE
                        have hVgc := hVgc.ext hE
                        rintro _ rfl
                        rintro _ rfl
                        intro R
                        refine WL.take rfl ?_
                        refine WL.call Try.func19 rfl Try.nm19 rfl rfl (qTrim_c han had hLan hLad qa hqa (by omega)) ?_
                        rintro _ w99 ⟨A100, m101, c102, A103, m104, c105, rfl, hGw99, t1n, t1d, t1m⟩
                        have hap_t1n_ga := ap_new t1n (hVga.bl_ge _ rfl).2
                        have hap_t1n_gb := ap_new t1n (hVgb.bl_ge _ rfl).2
                        have hap_t1n_gc := ap_new t1n (hVgc.bl_ge _ rfl).2
                        have hap_t1d_ga := ap_new t1d (hVga.bl_ge _ rfl).2
                        have hap_t1d_gb := ap_new t1d (hVgb.bl_ge _ rfl).2
                        have hap_t1d_gc := ap_new t1d (hVgc.bl_ge _ rfl).2
                        have t1n := t1n.low (b' := w.heap.size) hB.size
                        have t1d := t1d.low (b' := w.heap.size) hB.size
                        have hB := ext_trans hB hGw99
                        have t1n_l := t1n.rd.ulen
                        have t1d_l := t1d.rd.ulen
                        exact WL.done ⟨_, rfl, hGw99, ⟨A100, m101, c102, A103, m104, c105, rfl, t1n, t1d, t1m, hap_t1n_ga, hap_t1n_gb, hap_t1n_gc, hap_t1d_ga, hap_t1d_gb, hap_t1d_gc⟩⟩
                      · intro w106 hE
                        have hE := hE rfl
                        have hB := ext_trans hB hE
                        have hVgb := hVgb.ext hE
                        rintro _ rfl
                        intro R
                        refine WL.take rfl ?_
                        refine WL.loadV (cs := [.bool nb, .slice Abn mbn cbn, .slice Abd mbd cbd]) Try.el31 Try.agg31 rfl rfl hVgb.vcells rfl ?_
                        exact WL.done ⟨_, rfl, ext_refl _, rfl⟩
                      · intro w107 hE
                        have hE := hE rfl
                        have hB := ext_trans hB hE
                        have hbn := hbn0.ext hB
                        have hbd := hbd0.ext hB
                        have hVga := hVga.ext hE
                        have hVgb := hVgb.ext hE
                        have hVgc := hVgc.ext hE
                        rintro _ rfl
                        rintro _ rfl
                        intro R
                        refine WL.take rfl ?_
                        refine WL.call Try.func19 rfl Try.nm19 rfl rfl (qTrim_c hbn hbd hLbn hLbd qb hqb (by omega)) ?_
                        rintro _ w108 ⟨A109, m110, c111, A112, m113, c114, rfl, hGw108, t2n, t2d, t2m⟩
                        have hap_t2n_ga := ap_new t2n (hVga.bl_ge _ rfl).2
                        have hap_t2n_gb := ap_new t2n (hVgb.bl_ge _ rfl).2
                        have hap_t2n_gc := ap_new t2n (hVgc.bl_ge _ rfl).2
                        have hap_t2d_ga := ap_new t2d (hVga.bl_ge _ rfl).2
                        have hap_t2d_gb := ap_new t2d (hVgb.bl_ge _ rfl).2
                        have hap_t2d_gc := ap_new t2d (hVgc.bl_ge _ rfl).2
                        have t2n := t2n.low (b' := w.heap.size) hB.size
                        have t2d := t2d.low (b' := w.heap.size) hB.size
                        have hB := ext_trans hB hGw108
                        have t2n_l := t2n.rd.ulen
                        have t2d_l := t2d.rd.ulen
                        exact WL.done ⟨_, rfl, hGw108, ⟨A109, m110, c111, A112, m113, c114, rfl, t2n, t2d, t2m, hap_t2n_ga, hap_t2n_gb, hap_t2n_gc, hap_t2d_ga, hap_t2d_gb, hap_t2d_gc⟩⟩
                      · intro w115 hE
                        have hE := hE rfl
                        have hB := ext_trans hB hE
                        rintro _ rfl
                        rintro _ ⟨A100, m101, c102, A103, m104, c105, rfl, t1n, t1d, t1m, hap_t1n_ga, hap_t1n_gb, hap_t1n_gc, hap_t1d_ga, hap_t1d_gb, hap_t1d_gc⟩
                        rintro _ ⟨A109, m110, c111, A112, m113, c114, rfl, t2n, t2d, t2m, hap_t2n_ga, hap_t2n_gb, hap_t2n_gc, hap_t2d_ga, hap_t2d_gb, hap_t2d_gc⟩
                        intro R
                        refine WL.take rfl ?_
                        refine WL.call Try.func18 rfl Try.nm18 rfl rfl (qsame_t t1n.rd t1d.rd t2n.rd t2d.rd (can_eq (sub_zero_iff.1 (sg_zero.1 hx)))) ?_
                        rintro _ w116 ⟨rfl, hGw116⟩
                        have hB := ext_trans hB hGw116
                        exact WL.done ⟨_, rfl, hGw116, rfl⟩
                      · intro w117 hE
                        rintro _ rfl
                        rintro _ rfl
                        rintro _ rfl
                        intro R
                        refine WL.take rfl ?_
                        refine WL.neqB rfl rfl Try.underlying4 rfl rfl ?_
                        exact WL.done ⟨_, rfl, rfl, rfl⟩
                      · intro w118 hE
                        rintro _ rfl
                        rintro _ rfl
                        intro R
                        refine WL.pick rfl rfl rfl ?_
                        exact WL.done ⟨_, rfl, rfl, rfl⟩
                    · intro vals w119 hT hVs
                      rw [if_neg (by decide)] at hT
                      have hB := ext_trans hB hT
                      have hVga := hVga.ext hT
                      have hVgb := hVgb.ext hT
                      have hVgc := hVgc.ext hT
                      have hv0 : vals 0 = _ := hVs 0 (by decide) (by decide)
                      have hv1 : vals 1 = _ := hVs 1 (by decide) (by decide)
                      have hv2 : vals 2 = _ := hVs 2 (by decide) (by decide)
                      have hv3 : vals 3 = _ := hVs 3 (by decide) (by decide)
                      have hv4 : vals 4 = _ := hVs 4 (by decide) (by decide)
                      have hv5 : vals 5 = _ := hVs 5 (by decide) (by decide)
                      have hv6 : vals 6 = _ := hVs 6 (by decide) (by decide)
                      have hv7 : vals 7 = _ := hVs 7 (by decide) (by decide)
                      have hv8 : vals 8 = _ := hVs 8 (by decide) (by decide)
                      have hv9 : vals 9 = _ := hVs 9 (by decide) (by decide)
                      have hv10 : vals 10 = _ := hVs 10 (by decide) (by decide)
                      have hv11 : vals 11 = _ := hVs 11 (by decide) (by decide)
                      have hv12 : vals 12 = _ := hVs 12 (by decide) (by decide)
                      have hv13 : vals 13 = _ := hVs 13 (by decide) (by decide)
                      obtain ⟨A100, m101, c102, A103, m104, c105, hv14, t1n, t1d, t1m, hap_t1n_ga, hap_t1n_gb, hap_t1n_gc, hap_t1d_ga, hap_t1d_gb, hap_t1d_gc⟩ := hVs 14 (by decide) (by decide)
                      have hv15 : vals 15 = _ := hVs 15 (by decide) (by decide)
                      obtain ⟨A109, m110, c111, A112, m113, c114, hv16, t2n, t2d, t2m, hap_t2n_ga, hap_t2n_gb, hap_t2n_gc, hap_t2d_ga, hap_t2d_gb, hap_t2d_gc⟩ := hVs 16 (by decide) (by decide)
                      have hv17 : vals 17 = _ := hVs 17 (by decide) (by decide)
                      have hv18 : vals 18 = _ := hVs 18 (by decide) (by decide)
                      have hv19 : vals 19 = _ := hVs 19 (by decide) (by decide)
                      rw [show (List.filterMap (fun i => Option.map (fun t => (t, vals i)) (dstAt _ i)) (List.range _)) = [(40, .int .i64 (sg (qa - qb))), (41, .bool true), (42, .bool true), (43, .int .i64 (sg (qb - qc))), (44, .bool true), (45, .bool true), (46, .bool true), (47, .int .i64 (sg (qa - qc))), (48, .bool false), (49, .bool false), (50, .bool false), (51, .int .i64 (sg (qa - qb))), (52, .bool true), (53, .agg #[.bool na, .slice Aan man can, .slice Aad mad cad]), (54, .agg #[.bool (qneg (qa)), .slice A100 m101 c102, .slice A103 m104 c105]), (55, .agg #[.bool nb, .slice Abn mbn cbn, .slice Abd mbd cbd]), (56, .agg #[.bool (qneg (qb)), .slice A109 m110 c111, .slice A112 m113 c114]), (57, .bool true), (58, .bool false), (59, .bool false)] from by
                        show [(40, vals 0), (41, vals 1), (42, vals 2), (43, vals 3), (44, vals 4), (45, vals 5), (46, vals 6), (47, vals 7), (48, vals 8), (49, vals 9), (50, vals 10), (51, vals 11), (52, vals 12), (53, vals 13), (54, vals 14), (55, vals 15), (56, vals 16), (57, vals 17), (58, vals 18), (59, vals 19)] = _
                        rw [hv0, hv1, hv2, hv3, hv4, hv5, hv6, hv7, hv8, hv9, hv10, hv11, hv12, hv13, hv14, hv15, hv16, hv17, hv18, hv19]]
                      refine W.condF rfl ?_
                      refine W.skip ?_
                      refine ⟨(), ⟨rfl, rfl, rfl, rfl, trivial⟩, ?_⟩
                      exact ⟨hB, hVga, hVgb, hVgc⟩
                  · refine W.draw [⟨[], [7], true⟩, ⟨[0], [], true⟩, ⟨[1], [], true⟩, ⟨[2], [8], true⟩, ⟨[2, 3], [], true⟩, ⟨[2, 4], [], true⟩, ⟨[5], [], true⟩, ⟨[6], [9], true⟩, ⟨[6, 7], [], true⟩, ⟨[6, 8], [], true⟩, ⟨[9], [], true⟩, ⟨[10], [7], true⟩, ⟨[10, 11], [], true⟩, ⟨[10], [3], false⟩, ⟨[10, 13], [], false⟩, ⟨[10], [4], false⟩, ⟨[10, 15], [], false⟩, ⟨[10, 14, 16], [], false⟩, ⟨[10, 12, 17], [], true⟩, ⟨[10, 18], [], true⟩] [[(7, .int .i64 (sg (qa - qb)))], [], [], [(8, .int .i64 (sg (qb - qc)))], [], [], [], [(9, .int .i64 (sg (qa - qc)))], [], [], [], [(7, .int .i64 (sg (qa - qb)))], [], [(3, .pointer (some ⟨ga, 0, none⟩))], [], [(4, .pointer (some ⟨gb, 0, none⟩))], [], [], [], []] (fun iQ => [fun v wQ => v = .int .i64 (sg (qa - qb)), fun v _ => v = .bool true, fun v wQ => v = .bool true, fun v wQ => v = .int .i64 (sg (qb - qc)), fun v _ => v = .bool false, fun v wQ => v = .bool false, fun v wQ => v = .bool false, fun v wQ => v = undef, fun v wQ => v = undef, fun v wQ => v = .bool false, fun v wQ => v = .bool false, fun v wQ => v = .int .i64 (sg (qa - qb)), fun v _ => v = .bool true, fun v wQ => v = .agg #[.bool na, .slice Aan man can, .slice Aad mad cad], fun v wQ => ∃ A136 m137 c138 A139 m140 c141, v = .agg #[.bool (qneg (qa)), .slice A136 m137 c138, .slice A139 m140 c141] ∧ (Own w.heap.size wQ 43 1 A136 m137 c138 (us (digs (qnum (qa))))) ∧ (Own w.heap.size wQ 43 1 A139 m140 c141 (us (digs (Rat.den (qa))))) ∧ (m137 ≤ man ∧ m140 ≤ mad + 1) ∧ (∀ k, bl A136 = some k → k ≠ ga) ∧ (∀ k, bl A136 = some k → k ≠ gb) ∧ (∀ k, bl A136 = some k → k ≠ gc) ∧ (∀ k, bl A139 = some k → k ≠ ga) ∧ (∀ k, bl A139 = some k → k ≠ gb) ∧ (∀ k, bl A139 = some k → k ≠ gc), fun v wQ => v = .agg #[.bool nb, .slice Abn mbn cbn, .slice Abd mbd cbd], fun v wQ => ∃ A145 m146 c147 A148 m149 c150, v = .agg #[.bool (qneg (qb)), .slice A145 m146 c147, .slice A148 m149 c150] ∧ (Own w.heap.size wQ 43 1 A145 m146 c147 (us (digs (qnum (qb))))) ∧ (Own w.heap.size wQ 43 1 A148 m149 c150 (us (digs (Rat.den (qb))))) ∧ (m146 ≤ mbn ∧ m149 ≤ mbd + 1) ∧ (∀ k, bl A145 = some k → k ≠ ga) ∧ (∀ k, bl A145 = some k → k ≠ gb) ∧ (∀ k, bl A145 = some k → k ≠ gc) ∧ (∀ k, bl A148 = some k → k ≠ ga) ∧ (∀ k, bl A148 = some k → k ≠ gb) ∧ (∀ k, bl A148 = some k → k ≠ gc), fun v wQ => v = .bool true, fun v wQ => v = .bool false, fun v wQ => v = .bool false].getD iQ (fun _ _ => True)) (fun _ => True) 20 Try.mixed (by kernel_rfl) ?_ ?_ ?_
                    · refine Vs_mono _ ?_
                      intro VQ hVQ vQ wQ1 wQ2 hQ1 hQ2
                      have hQ2 := hQ2.resolve_right (by decide)
                      simp only [List.mem_cons, List.not_mem_nil, or_false] at hVQ
                      rcases hVQ with rfl | rfl | rfl | rfl | rfl | rfl | rfl | rfl | rfl | rfl | rfl | rfl | rfl | rfl | rfl | rfl | rfl | rfl | rfl | rfl
                      · exact hQ1
                      · exact hQ1
                      · exact hQ1
                      · exact hQ1
                      · exact hQ1
                      · exact hQ1
                      · exact hQ1
                      · exact hQ1
                      · exact hQ1
                      · exact hQ1
                      · exact hQ1
                      · exact hQ1
                      · exact hQ1
                      · exact hQ1
                      · obtain ⟨A136, m137, c138, A139, m140, c141, hQe, t1n, t1d, t1m, hap_t1n_ga, hap_t1n_gb, hap_t1n_gc, hap_t1d_ga, hap_t1d_gb, hap_t1d_gc⟩ := hQ1
                        exact ⟨A136, m137, c138, A139, m140, c141, hQe, t1n.ext hQ2, t1d.ext hQ2, t1m, hap_t1n_ga, hap_t1n_gb, hap_t1n_gc, hap_t1d_ga, hap_t1d_gb, hap_t1d_gc⟩
                      · exact hQ1
                      · obtain ⟨A145, m146, c147, A148, m149, c150, hQe, t2n, t2d, t2m, hap_t2n_ga, hap_t2n_gb, hap_t2n_gc, hap_t2d_ga, hap_t2d_gb, hap_t2d_gc⟩ := hQ1
                        exact ⟨A145, m146, c147, A148, m149, c150, hQe, t2n.ext hQ2, t2d.ext hQ2, t2m, hap_t2n_ga, hap_t2n_gb, hap_t2n_gc, hap_t2d_ga, hap_t2d_gb, hap_t2d_gc⟩
                      · exact hQ1
                      · exact hQ1
                      · exact hQ1
                    · refine ⟨⟨rfl, ⟨rfl, trivial⟩, ?_⟩, ⟨rfl, trivial, ?_⟩, ⟨rfl, trivial, ?_⟩, ⟨rfl, ⟨rfl, trivial⟩, ?_⟩, ⟨rfl, trivial, ?_⟩, ⟨rfl, trivial, ?_⟩, ⟨rfl, trivial, ?_⟩, ⟨rfl, ⟨rfl, trivial⟩, ?_⟩, ⟨rfl, trivial, ?_⟩, ⟨rfl, trivial, ?_⟩, ⟨rfl, trivial, ?_⟩, ⟨rfl, ⟨rfl, trivial⟩, ?_⟩, ⟨rfl, trivial, ?_⟩, ⟨rfl, ⟨rfl, trivial⟩, ?_⟩, ⟨rfl, trivial, ?_⟩, ⟨rfl, ⟨rfl, trivial⟩, ?_⟩, ⟨rfl, trivial, ?_⟩, ⟨rfl, trivial, ?_⟩, ⟨rfl, trivial, ?_⟩, ⟨rfl, trivial, ?_⟩, trivial⟩
                      · intro w120 hE
                        intro R
                        refine WL.move rfl rfl ?_
                        exact WL.done ⟨_, rfl, rfl, rfl⟩
                      · intro w121 hE
                        rintro _ rfl
                        intro R
                        refine WL.leqD rfl rfl rfl ?_
                        exact WL.done ⟨_, rfl, rfl, (dec_t (by omega))⟩
                      · intro w122 hE
                        rintro _ rfl
                        intro R
                        refine WL.move rfl rfl ?_
                        exact WL.done ⟨_, rfl, rfl, rfl⟩
                      · intro w123 hE
                        rintro _ rfl
                        intro R
                        refine WL.take rfl ?_
                        refine WL.move rfl rfl ?_
                        exact WL.done ⟨_, rfl, rfl, rfl⟩
                      · intro w124 hE
                        rintro _ rfl
                        rintro _ rfl
                        intro R
                        refine WL.take rfl ?_
                        refine WL.leqD rfl rfl rfl ?_
                        exact WL.done ⟨_, rfl, rfl, (dec_f (by omega))⟩
                      · intro w125 hE
                        rintro _ rfl
                        rintro _ rfl
                        intro R
                        refine WL.pick rfl rfl rfl ?_
                        exact WL.done ⟨_, rfl, rfl, rfl⟩
                      · intro w126 hE
                        rintro _ rfl
                        intro R
                        refine WL.move rfl rfl ?_
                        exact WL.done ⟨_, rfl, rfl, rfl⟩
                      · intro w127 hE
                        rintro _ rfl
                        intro R
                        refine WL.pass rfl rfl rfl ?_
                        exact WL.done ⟨_, rfl, rfl, rfl⟩
                      · intro w128 hE
                        rintro _ rfl
                        rintro _ rfl
                        intro R
                        refine WL.pass rfl rfl rfl ?_
                        exact WL.done ⟨_, rfl, rfl, rfl⟩
                      · intro w129 hE
                        rintro _ rfl
                        rintro _ rfl
                        intro R
                        refine WL.pick rfl rfl rfl ?_
                        exact WL.done ⟨_, rfl, rfl, rfl⟩
                      · intro w130 hE
                        rintro _ rfl
                        intro R
                        refine WL.move rfl rfl ?_
                        exact WL.done ⟨_, rfl, rfl, rfl⟩
                      · intro w131 hE
                        rintro _ rfl
                        intro R
                        refine WL.take rfl ?_
                        refine WL.move rfl rfl ?_
                        exact WL.done ⟨_, rfl, rfl, rfl⟩
                      · intro w132 hE
                        rintro _ rfl
                        rintro _ rfl
                        intro R
                        refine WL.take rfl ?_
                        refine WL.eqlD rfl rfl rfl ?_
                        exact WL.done ⟨_, rfl, rfl, (dec_t (by omega))⟩
                      · intro w133 hE
                        have hE := hE rfl
                        have hB := ext_trans hB hE
                        have hVga := hVga.ext hE
                        rintro _ rfl
                        intro R
                        refine WL.take rfl ?_
                        refine WL.loadV (cs := [.bool na, .slice Aan man can, .slice Aad mad cad]) Try.el31 Try.agg31 rfl rfl hVga.vcells rfl ?_
                        exact WL.done ⟨_, rfl, ext_refl _, rfl⟩
                      · intro w134 hE
                        have hE := hE rfl
                        have hB := ext_trans hB hE
                        have han := han0.ext hB
                        have had := had0.ext hB
                        have hVga := hVga.ext hE
                        have hVgb := hVgb.ext hE
                        have hVgc := hVgc.ext hE
                        rintro _ rfl
                        rintro _ rfl
                        intro R
                        refine WL.take rfl ?_
                        refine WL.call Try.func19 rfl Try.nm19 rfl rfl (qTrim_c han had hLan hLad qa hqa (by omega)) ?_
                        rintro _ w135 ⟨A136, m137, c138, A139, m140, c141, rfl, hGw135, t1n, t1d, t1m⟩
                        have hap_t1n_ga := ap_new t1n (hVga.bl_ge _ rfl).2
                        have hap_t1n_gb := ap_new t1n (hVgb.bl_ge _ rfl).2
                        have hap_t1n_gc := ap_new t1n (hVgc.bl_ge _ rfl).2
                        have hap_t1d_ga := ap_new t1d (hVga.bl_ge _ rfl).2
                        have hap_t1d_gb := ap_new t1d (hVgb.bl_ge _ rfl).2
                        have hap_t1d_gc := ap_new t1d (hVgc.bl_ge _ rfl).2
                        have t1n := t1n.low (b' := w.heap.size) hB.size
                        have t1d := t1d.low (b' := w.heap.size) hB.size
                        have hB := ext_trans hB hGw135
                        have t1n_l := t1n.rd.ulen
                        have t1d_l := t1d.rd.ulen
                        exact WL.done ⟨_, rfl, hGw135, ⟨A136, m137, c138, A139, m140, c141, rfl, t1n, t1d, t1m, hap_t1n_ga, hap_t1n_gb, hap_t1n_gc, hap_t1d_ga, hap_t1d_gb, hap_t1d_gc⟩⟩
                      · intro w142 hE
                        have hE := hE rfl
                        have hB := ext_trans hB hE
                        have hVgb := hVgb.ext hE
                        rintro _ rfl
                        intro R
                        refine WL.take rfl ?_
                        refine WL.loadV (cs := [.bool nb, .slice Abn mbn cbn, .slice Abd mbd cbd]) Try.el31 Try.agg31 rfl rfl hVgb.vcells rfl ?_
                        exact WL.done ⟨_, rfl, ext_refl _, rfl⟩
                      · intro w143 hE
                        have hE := hE rfl
                        have hB := ext_trans hB hE
                        have hbn := hbn0.ext hB
                        have hbd := hbd0.ext hB
                        have hVga := hVga.ext hE
                        have hVgb := hVgb.ext hE
                        have hVgc := hVgc.ext hE
                        rintro _ rfl
                        rintro _ rfl
                        intro R
                        refine WL.take rfl ?_
                        refine WL.call Try.func19 rfl Try.nm19 rfl rfl (qTrim_c hbn hbd hLbn hLbd qb hqb (by omega)) ?_
                        rintro _ w144 ⟨A145, m146, c147, A148, m149, c150, rfl, hGw144, t2n, t2d, t2m⟩
                        have hap_t2n_ga := ap_new t2n (hVga.bl_ge _ rfl).2
                        have hap_t2n_gb := ap_new t2n (hVgb.bl_ge _ rfl).2
                        have hap_t2n_gc := ap_new t2n (hVgc.bl_ge _ rfl).2
                        have hap_t2d_ga := ap_new t2d (hVga.bl_ge _ rfl).2
                        have hap_t2d_gb := ap_new t2d (hVgb.bl_ge _ rfl).2
                        have hap_t2d_gc := ap_new t2d (hVgc.bl_ge _ rfl).2
                        have t2n := t2n.low (b' := w.heap.size) hB.size
                        have t2d := t2d.low (b' := w.heap.size) hB.size
                        have hB := ext_trans hB hGw144
                        have t2n_l := t2n.rd.ulen
                        have t2d_l := t2d.rd.ulen
                        exact WL.done ⟨_, rfl, hGw144, ⟨A145, m146, c147, A148, m149, c150, rfl, t2n, t2d, t2m, hap_t2n_ga, hap_t2n_gb, hap_t2n_gc, hap_t2d_ga, hap_t2d_gb, hap_t2d_gc⟩⟩
                      · intro w151 hE
                        have hE := hE rfl
                        have hB := ext_trans hB hE
                        rintro _ rfl
                        rintro _ ⟨A136, m137, c138, A139, m140, c141, rfl, t1n, t1d, t1m, hap_t1n_ga, hap_t1n_gb, hap_t1n_gc, hap_t1d_ga, hap_t1d_gb, hap_t1d_gc⟩
                        rintro _ ⟨A145, m146, c147, A148, m149, c150, rfl, t2n, t2d, t2m, hap_t2n_ga, hap_t2n_gb, hap_t2n_gc, hap_t2d_ga, hap_t2d_gb, hap_t2d_gc⟩
                        intro R
                        refine WL.take rfl ?_
                        refine WL.call Try.func18 rfl Try.nm18 rfl rfl (qsame_t t1n.rd t1d.rd t2n.rd t2d.rd (can_eq (sub_zero_iff.1 (sg_zero.1 hx)))) ?_
                        rintro _ w152 ⟨rfl, hGw152⟩
                        have hB := ext_trans hB hGw152
                        exact WL.done ⟨_, rfl, hGw152, rfl⟩
                      · intro w153 hE
                        rintro _ rfl
                        rintro _ rfl
                        rintro _ rfl
                        intro R
                        refine WL.take rfl ?_
                        refine WL.neqB rfl rfl Try.underlying4 rfl rfl ?_
                        exact WL.done ⟨_, rfl, rfl, rfl⟩
                      · intro w154 hE
                        rintro _ rfl
                        rintro _ rfl
                        intro R
                        refine WL.pick rfl rfl rfl ?_
                        exact WL.done ⟨_, rfl, rfl, rfl⟩
                    · intro vals w155 hT hVs
                      rw [if_neg (by decide)] at hT
                      have hB := ext_trans hB hT
                      have hVga := hVga.ext hT
                      have hVgb := hVgb.ext hT
                      have hVgc := hVgc.ext hT
                      have hv0 : vals 0 = _ := hVs 0 (by decide) (by decide)
                      have hv1 : vals 1 = _ := hVs 1 (by decide) (by decide)
                      have hv2 : vals 2 = _ := hVs 2 (by decide) (by decide)
                      have hv3 : vals 3 = _ := hVs 3 (by decide) (by decide)
                      have hv4 : vals 4 = _ := hVs 4 (by decide) (by decide)
                      have hv5 : vals 5 = _ := hVs 5 (by decide) (by decide)
                      have hv6 : vals 6 = _ := hVs 6 (by decide) (by decide)
                      have hv7 : vals 7 = _ := hVs 7 (by decide) (by decide)
                      have hv8 : vals 8 = _ := hVs 8 (by decide) (by decide)
                      have hv9 : vals 9 = _ := hVs 9 (by decide) (by decide)
                      have hv10 : vals 10 = _ := hVs 10 (by decide) (by decide)
                      have hv11 : vals 11 = _ := hVs 11 (by decide) (by decide)
                      have hv12 : vals 12 = _ := hVs 12 (by decide) (by decide)
                      have hv13 : vals 13 = _ := hVs 13 (by decide) (by decide)
                      obtain ⟨A136, m137, c138, A139, m140, c141, hv14, t1n, t1d, t1m, hap_t1n_ga, hap_t1n_gb, hap_t1n_gc, hap_t1d_ga, hap_t1d_gb, hap_t1d_gc⟩ := hVs 14 (by decide) (by decide)
                      have hv15 : vals 15 = _ := hVs 15 (by decide) (by decide)
                      obtain ⟨A145, m146, c147, A148, m149, c150, hv16, t2n, t2d, t2m, hap_t2n_ga, hap_t2n_gb, hap_t2n_gc, hap_t2d_ga, hap_t2d_gb, hap_t2d_gc⟩ := hVs 16 (by decide) (by decide)
                      have hv17 : vals 17 = _ := hVs 17 (by decide) (by decide)
                      have hv18 : vals 18 = _ := hVs 18 (by decide) (by decide)
                      have hv19 : vals 19 = _ := hVs 19 (by decide) (by decide)
                      rw [show (List.filterMap (fun i => Option.map (fun t => (t, vals i)) (dstAt _ i)) (List.range _)) = [(40, .int .i64 (sg (qa - qb))), (41, .bool true), (42, .bool true), (43, .int .i64 (sg (qb - qc))), (44, .bool false), (45, .bool false), (46, .bool false), (47, undef), (48, undef), (49, .bool false), (50, .bool false), (51, .int .i64 (sg (qa - qb))), (52, .bool true), (53, .agg #[.bool na, .slice Aan man can, .slice Aad mad cad]), (54, .agg #[.bool (qneg (qa)), .slice A136 m137 c138, .slice A139 m140 c141]), (55, .agg #[.bool nb, .slice Abn mbn cbn, .slice Abd mbd cbd]), (56, .agg #[.bool (qneg (qb)), .slice A145 m146 c147, .slice A148 m149 c150]), (57, .bool true), (58, .bool false), (59, .bool false)] from by
                        show [(40, vals 0), (41, vals 1), (42, vals 2), (43, vals 3), (44, vals 4), (45, vals 5), (46, vals 6), (47, vals 7), (48, vals 8), (49, vals 9), (50, vals 10), (51, vals 11), (52, vals 12), (53, vals 13), (54, vals 14), (55, vals 15), (56, vals 16), (57, vals 17), (58, vals 18), (59, vals 19)] = _
                        rw [hv0, hv1, hv2, hv3, hv4, hv5, hv6, hv7, hv8, hv9, hv10, hv11, hv12, hv13, hv14, hv15, hv16, hv17, hv18, hv19]]
                      refine W.condF rfl ?_
                      refine W.skip ?_
                      refine ⟨(), ⟨rfl, rfl, rfl, rfl, trivial⟩, ?_⟩
                      exact ⟨hB, hVga, hVgb, hVgc⟩
                  · refine W.draw [⟨[], [7], true⟩, ⟨[0], [], true⟩, ⟨[1], [], true⟩, ⟨[2], [8], true⟩, ⟨[2, 3], [], true⟩, ⟨[2, 4], [], true⟩, ⟨[5], [], true⟩, ⟨[6], [9], true⟩, ⟨[6, 7], [], true⟩, ⟨[6, 8], [], true⟩, ⟨[9], [], true⟩, ⟨[10], [7], true⟩, ⟨[10, 11], [], true⟩, ⟨[10], [3], false⟩, ⟨[10, 13], [], false⟩, ⟨[10], [4], false⟩, ⟨[10, 15], [], false⟩, ⟨[10, 14, 16], [], false⟩, ⟨[10, 12, 17], [], true⟩, ⟨[10, 18], [], true⟩] [[(7, .int .i64 (sg (qa - qb)))], [], [], [(8, .int .i64 (sg (qb - qc)))], [], [], [], [(9, .int .i64 (sg (qa - qc)))], [], [], [], [(7, .int .i64 (sg (qa - qb)))], [], [(3, .pointer (some ⟨ga, 0, none⟩))], [], [(4, .pointer (some ⟨gb, 0, none⟩))], [], [], [], []] (fun iQ => [fun v wQ => v = .int .i64 (sg (qa - qb)), fun v _ => v = .bool true, fun v wQ => v = .bool true, fun v wQ => v = .int .i64 (sg (qb - qc)), fun v _ => v = .bool true, fun v wQ => v = .bool true, fun v wQ => v = .bool true, fun v wQ => v = .int .i64 (sg (qa - qc)), fun v _ => v = .bool false, fun v wQ => v = .bool false, fun v wQ => v = .bool false, fun v wQ => v = .int .i64 (sg (qa - qb)), fun v _ => v = .bool false, fun v wQ => v = .agg #[.bool na, .slice Aan man can, .slice Aad mad cad], fun v wQ => ∃ A172 m173 c174 A175 m176 c177, v = .agg #[.bool (qneg (qa)), .slice A172 m173 c174, .slice A175 m176 c177] ∧ (Own w.heap.size wQ 43 1 A172 m173 c174 (us (digs (qnum (qa))))) ∧ (Own w.heap.size wQ 43 1 A175 m176 c177 (us (digs (Rat.den (qa))))) ∧ (m173 ≤ man ∧ m176 ≤ mad + 1) ∧ (∀ k, bl A172 = some k → k ≠ ga) ∧ (∀ k, bl A172 = some k → k ≠ gb) ∧ (∀ k, bl A172 = some k → k ≠ gc) ∧ (∀ k, bl A175 = some k → k ≠ ga) ∧ (∀ k, bl A175 = some k → k ≠ gb) ∧ (∀ k, bl A175 = some k → k ≠ gc), fun v wQ => v = .agg #[.bool nb, .slice Abn mbn cbn, .slice Abd mbd cbd], fun v wQ => ∃ A181 m182 c183 A184 m185 c186, v = .agg #[.bool (qneg (qb)), .slice A181 m182 c183, .slice A184 m185 c186] ∧ (Own w.heap.size wQ 43 1 A181 m182 c183 (us (digs (qnum (qb))))) ∧ (Own w.heap.size wQ 43 1 A184 m185 c186 (us (digs (Rat.den (qb))))) ∧ (m182 ≤ mbn ∧ m185 ≤ mbd + 1) ∧ (∀ k, bl A181 = some k → k ≠ ga) ∧ (∀ k, bl A181 = some k → k ≠ gb) ∧ (∀ k, bl A181 = some k → k ≠ gc) ∧ (∀ k, bl A184 = some k → k ≠ ga) ∧ (∀ k, bl A184 = some k → k ≠ gb) ∧ (∀ k, bl A184 = some k → k ≠ gc), fun v wQ => v = .bool false, fun v wQ => v = .bool false, fun v wQ => v = .bool false].getD iQ (fun _ _ => True)) (fun _ => True) 20 Try.mixed (by kernel_rfl) ?_ ?_ ?_
                    · refine Vs_mono _ ?_
                      intro VQ hVQ vQ wQ1 wQ2 hQ1 hQ2
                      have hQ2 := hQ2.resolve_right (by decide)
                      simp only [List.mem_cons, List.not_mem_nil, or_false] at hVQ
                      rcases hVQ with rfl | rfl | rfl | rfl | rfl | rfl | rfl | rfl | rfl | rfl | rfl | rfl | rfl | rfl | rfl | rfl | rfl | rfl | rfl | rfl
                      · exact hQ1
                      · exact hQ1
                      · exact hQ1
                      · exact hQ1
                      · exact hQ1
                      · exact hQ1
                      · exact hQ1
                      · exact hQ1
                      · exact hQ1
                      · exact hQ1
                      · exact hQ1
                      · exact hQ1
                      · exact hQ1
                      · exact hQ1
                      · obtain ⟨A172, m173, c174, A175, m176, c177, hQe, t1n, t1d, t1m, hap_t1n_ga, hap_t1n_gb, hap_t1n_gc, hap_t1d_ga, hap_t1d_gb, hap_t1d_gc⟩ := hQ1
                        exact ⟨A172, m173, c174, A175, m176, c177, hQe, t1n.ext hQ2, t1d.ext hQ2, t1m, hap_t1n_ga, hap_t1n_gb, hap_t1n_gc, hap_t1d_ga, hap_t1d_gb, hap_t1d_gc⟩
                      · exact hQ1
                      · obtain ⟨A181, m182, c183, A184, m185, c186, hQe, t2n, t2d, t2m, hap_t2n_ga, hap_t2n_gb, hap_t2n_gc, hap_t2d_ga, hap_t2d_gb, hap_t2d_gc⟩ := hQ1
                        exact ⟨A181, m182, c183, A184, m185, c186, hQe, t2n.ext hQ2, t2d.ext hQ2, t2m, hap_t2n_ga, hap_t2n_gb, hap_t2n_gc, hap_t2d_ga, hap_t2d_gb, hap_t2d_gc⟩
                      · exact hQ1
                      · exact hQ1
                      · exact hQ1
                    · refine ⟨⟨rfl, ⟨rfl, trivial⟩, ?_⟩, ⟨rfl, trivial, ?_⟩, ⟨rfl, trivial, ?_⟩, ⟨rfl, ⟨rfl, trivial⟩, ?_⟩, ⟨rfl, trivial, ?_⟩, ⟨rfl, trivial, ?_⟩, ⟨rfl, trivial, ?_⟩, ⟨rfl, ⟨rfl, trivial⟩, ?_⟩, ⟨rfl, trivial, ?_⟩, ⟨rfl, trivial, ?_⟩, ⟨rfl, trivial, ?_⟩, ⟨rfl, ⟨rfl, trivial⟩, ?_⟩, ⟨rfl, trivial, ?_⟩, ⟨rfl, ⟨rfl, trivial⟩, ?_⟩, ⟨rfl, trivial, ?_⟩, ⟨rfl, ⟨rfl, trivial⟩, ?_⟩, ⟨rfl, trivial, ?_⟩, ⟨rfl, trivial, ?_⟩, ⟨rfl, trivial, ?_⟩, ⟨rfl, trivial, ?_⟩, trivial⟩
                      · intro w156 hE
                        intro R
                        refine WL.move rfl rfl ?_
                        exact WL.done ⟨_, rfl, rfl, rfl⟩
                      · intro w157 hE
                        rintro _ rfl
                        intro R
                        refine WL.leqD rfl rfl rfl ?_
                        exact WL.done ⟨_, rfl, rfl, (dec_t (by omega))⟩
                      · intro w158 hE
                        rintro _ rfl
                        intro R
                        refine WL.move rfl rfl ?_
                        exact WL.done ⟨_, rfl, rfl, rfl⟩
                      · intro w159 hE
                        rintro _ rfl
                        intro R
                        refine WL.take rfl ?_
                        refine WL.move rfl rfl ?_
                        exact WL.done ⟨_, rfl, rfl, rfl⟩
                      · intro w160 hE
                        rintro _ rfl
                        rintro _ rfl
                        intro R
                        refine WL.take rfl ?_
                        refine WL.leqD rfl rfl rfl ?_
                        exact WL.done ⟨_, rfl, rfl, (dec_t (by omega))⟩
                      · intro w161 hE
                        rintro _ rfl
                        rintro _ rfl
                        intro R
                        refine WL.pick rfl rfl rfl ?_
                        exact WL.done ⟨_, rfl, rfl, rfl⟩
                      · intro w162 hE
                        rintro _ rfl
                        intro R
                        refine WL.move rfl rfl ?_
                        exact WL.done ⟨_, rfl, rfl, rfl⟩
                      · intro w163 hE
                        rintro _ rfl
                        intro R
                        refine WL.take rfl ?_
                        refine WL.move rfl rfl ?_
                        exact WL.done ⟨_, rfl, rfl, rfl⟩
                      · intro w164 hE
                        rintro _ rfl
                        rintro _ rfl
                        intro R
                        refine WL.take rfl ?_
                        refine WL.gtrD rfl rfl rfl ?_
                        exact WL.done ⟨_, rfl, rfl, (dec_f (by have := sg_chain (a := qa) (b := qb) (c := qc) (by omega) (by omega); omega))⟩
                      · intro w165 hE
                        rintro _ rfl
                        rintro _ rfl
                        intro R
                        refine WL.pick rfl rfl rfl ?_
                        exact WL.done ⟨_, rfl, rfl, rfl⟩
                      · intro w166 hE
                        rintro _ rfl
                        intro R
                        refine WL.move rfl rfl ?_
                        exact WL.done ⟨_, rfl, rfl, rfl⟩
                      · intro w167 hE
                        rintro _ rfl
                        intro R
                        refine WL.take rfl ?_
                        refine WL.move rfl rfl ?_
                        exact WL.done ⟨_, rfl, rfl, rfl⟩
                      · intro w168 hE
                        rintro _ rfl
                        rintro _ rfl
                        intro R
                        refine WL.take rfl ?_
                        refine WL.eqlD rfl rfl rfl ?_
                        exact WL.done ⟨_, rfl, rfl, (dec_f (by omega))⟩
                      · intro w169 hE
                        have hE := hE rfl
                        have hB := ext_trans hB hE
                        have hVga := hVga.ext hE
                        rintro _ rfl
                        intro R
                        refine WL.take rfl ?_
                        refine WL.loadV (cs := [.bool na, .slice Aan man can, .slice Aad mad cad]) Try.el31 Try.agg31 rfl rfl hVga.vcells rfl ?_
                        exact WL.done ⟨_, rfl, ext_refl _, rfl⟩
                      · intro w170 hE
                        have hE := hE rfl
                        have hB := ext_trans hB hE
                        have han := han0.ext hB
                        have had := had0.ext hB
                        have hVga := hVga.ext hE
                        have hVgb := hVgb.ext hE
                        have hVgc := hVgc.ext hE
                        rintro _ rfl
                        rintro _ rfl
                        intro R
                        refine WL.take rfl ?_
                        refine WL.call Try.func19 rfl Try.nm19 rfl rfl (qTrim_c han had hLan hLad qa hqa (by omega)) ?_
                        rintro _ w171 ⟨A172, m173, c174, A175, m176, c177, rfl, hGw171, t1n, t1d, t1m⟩
                        have hap_t1n_ga := ap_new t1n (hVga.bl_ge _ rfl).2
                        have hap_t1n_gb := ap_new t1n (hVgb.bl_ge _ rfl).2
                        have hap_t1n_gc := ap_new t1n (hVgc.bl_ge _ rfl).2
                        have hap_t1d_ga := ap_new t1d (hVga.bl_ge _ rfl).2
                        have hap_t1d_gb := ap_new t1d (hVgb.bl_ge _ rfl).2
                        have hap_t1d_gc := ap_new t1d (hVgc.bl_ge _ rfl).2
                        have t1n := t1n.low (b' := w.heap.size) hB.size
                        have t1d := t1d.low (b' := w.heap.size) hB.size
                        have hB := ext_trans hB hGw171
                        have t1n_l := t1n.rd.ulen
                        have t1d_l := t1d.rd.ulen
                        exact WL.done ⟨_, rfl, hGw171, ⟨A172, m173, c174, A175, m176, c177, rfl, t1n, t1d, t1m, hap_t1n_ga, hap_t1n_gb, hap_t1n_gc, hap_t1d_ga, hap_t1d_gb, hap_t1d_gc⟩⟩
                      · intro w178 hE
                        have hE := hE rfl
                        have hB := ext_trans hB hE
                        have hVgb := hVgb.ext hE
                        rintro _ rfl
                        intro R
                        refine WL.take rfl ?_
                        refine WL.loadV (cs := [.bool nb, .slice Abn mbn cbn, .slice Abd mbd cbd]) Try.el31 Try.agg31 rfl rfl hVgb.vcells rfl ?_
                        exact WL.done ⟨_, rfl, ext_refl _, rfl⟩
                      · intro w179 hE
                        have hE := hE rfl
                        have hB := ext_trans hB hE
                        have hbn := hbn0.ext hB
                        have hbd := hbd0.ext hB
                        have hVga := hVga.ext hE
                        have hVgb := hVgb.ext hE
                        have hVgc := hVgc.ext hE
                        rintro _ rfl
                        rintro _ rfl
                        intro R
                        refine WL.take rfl ?_
                        refine WL.call Try.func19 rfl Try.nm19 rfl rfl (qTrim_c hbn hbd hLbn hLbd qb hqb (by omega)) ?_
                        rintro _ w180 ⟨A181, m182, c183, A184, m185, c186, rfl, hGw180, t2n, t2d, t2m⟩
                        have hap_t2n_ga := ap_new t2n (hVga.bl_ge _ rfl).2
                        have hap_t2n_gb := ap_new t2n (hVgb.bl_ge _ rfl).2
                        have hap_t2n_gc := ap_new t2n (hVgc.bl_ge _ rfl).2
                        have hap_t2d_ga := ap_new t2d (hVga.bl_ge _ rfl).2
                        have hap_t2d_gb := ap_new t2d (hVgb.bl_ge _ rfl).2
                        have hap_t2d_gc := ap_new t2d (hVgc.bl_ge _ rfl).2
                        have t2n := t2n.low (b' := w.heap.size) hB.size
                        have t2d := t2d.low (b' := w.heap.size) hB.size
                        have hB := ext_trans hB hGw180
                        have t2n_l := t2n.rd.ulen
                        have t2d_l := t2d.rd.ulen
                        exact WL.done ⟨_, rfl, hGw180, ⟨A181, m182, c183, A184, m185, c186, rfl, t2n, t2d, t2m, hap_t2n_ga, hap_t2n_gb, hap_t2n_gc, hap_t2d_ga, hap_t2d_gb, hap_t2d_gc⟩⟩
                      · intro w187 hE
                        have hE := hE rfl
                        have hB := ext_trans hB hE
                        rintro _ rfl
                        rintro _ ⟨A172, m173, c174, A175, m176, c177, rfl, t1n, t1d, t1m, hap_t1n_ga, hap_t1n_gb, hap_t1n_gc, hap_t1d_ga, hap_t1d_gb, hap_t1d_gc⟩
                        rintro _ ⟨A181, m182, c183, A184, m185, c186, rfl, t2n, t2d, t2m, hap_t2n_ga, hap_t2n_gb, hap_t2n_gc, hap_t2d_ga, hap_t2d_gb, hap_t2d_gc⟩
                        intro R
                        refine WL.take rfl ?_
                        refine WL.call Try.func18 rfl Try.nm18 rfl rfl (qsame_t_f t1n.rd t1d.rd t2n.rd t2d.rd (fun h => by have h1 := can_inj h; rw [h1, sub_zero_iff.2 rfl] at hx; have h2 : sg 0 = 0 := sg_zero.2 rfl; omega)) ?_
                        rintro _ w188 ⟨rfl, hGw188⟩
                        have hB := ext_trans hB hGw188
                        exact WL.done ⟨_, rfl, hGw188, rfl⟩
                      · intro w189 hE
                        rintro _ rfl
                        rintro _ rfl
                        rintro _ rfl
                        intro R
                        refine WL.take rfl ?_
                        refine WL.neqB rfl rfl Try.underlying4 rfl rfl ?_
                        exact WL.done ⟨_, rfl, rfl, rfl⟩
                      · intro w190 hE
                        rintro _ rfl
                        rintro _ rfl
                        intro R
                        refine WL.pick rfl rfl rfl ?_
                        exact WL.done ⟨_, rfl, rfl, rfl⟩
                    · intro vals w191 hT hVs
                      rw [if_neg (by decide)] at hT
                      have hB := ext_trans hB hT
                      have hVga := hVga.ext hT
                      have hVgb := hVgb.ext hT
                      have hVgc := hVgc.ext hT
                      have hv0 : vals 0 = _ := hVs 0 (by decide) (by decide)
                      have hv1 : vals 1 = _ := hVs 1 (by decide) (by decide)
                      have hv2 : vals 2 = _ := hVs 2 (by decide) (by decide)
                      have hv3 : vals 3 = _ := hVs 3 (by decide) (by decide)
                      have hv4 : vals 4 = _ := hVs 4 (by decide) (by decide)
                      have hv5 : vals 5 = _ := hVs 5 (by decide) (by decide)
                      have hv6 : vals 6 = _ := hVs 6 (by decide) (by decide)
                      have hv7 : vals 7 = _ := hVs 7 (by decide) (by decide)
                      have hv8 : vals 8 = _ := hVs 8 (by decide) (by decide)
                      have hv9 : vals 9 = _ := hVs 9 (by decide) (by decide)
                      have hv10 : vals 10 = _ := hVs 10 (by decide) (by decide)
                      have hv11 : vals 11 = _ := hVs 11 (by decide) (by decide)
                      have hv12 : vals 12 = _ := hVs 12 (by decide) (by decide)
                      have hv13 : vals 13 = _ := hVs 13 (by decide) (by decide)
                      obtain ⟨A172, m173, c174, A175, m176, c177, hv14, t1n, t1d, t1m, hap_t1n_ga, hap_t1n_gb, hap_t1n_gc, hap_t1d_ga, hap_t1d_gb, hap_t1d_gc⟩ := hVs 14 (by decide) (by decide)
                      have hv15 : vals 15 = _ := hVs 15 (by decide) (by decide)
                      obtain ⟨A181, m182, c183, A184, m185, c186, hv16, t2n, t2d, t2m, hap_t2n_ga, hap_t2n_gb, hap_t2n_gc, hap_t2d_ga, hap_t2d_gb, hap_t2d_gc⟩ := hVs 16 (by decide) (by decide)
                      have hv17 : vals 17 = _ := hVs 17 (by decide) (by decide)
                      have hv18 : vals 18 = _ := hVs 18 (by decide) (by decide)
                      have hv19 : vals 19 = _ := hVs 19 (by decide) (by decide)
                      rw [show (List.filterMap (fun i => Option.map (fun t => (t, vals i)) (dstAt _ i)) (List.range _)) = [(40, .int .i64 (sg (qa - qb))), (41, .bool true), (42, .bool true), (43, .int .i64 (sg (qb - qc))), (44, .bool true), (45, .bool true), (46, .bool true), (47, .int .i64 (sg (qa - qc))), (48, .bool false), (49, .bool false), (50, .bool false), (51, .int .i64 (sg (qa - qb))), (52, .bool false), (53, .agg #[.bool na, .slice Aan man can, .slice Aad mad cad]), (54, .agg #[.bool (qneg (qa)), .slice A172 m173 c174, .slice A175 m176 c177]), (55, .agg #[.bool nb, .slice Abn mbn cbn, .slice Abd mbd cbd]), (56, .agg #[.bool (qneg (qb)), .slice A181 m182 c183, .slice A184 m185 c186]), (57, .bool false), (58, .bool false), (59, .bool false)] from by
                        show [(40, vals 0), (41, vals 1), (42, vals 2), (43, vals 3), (44, vals 4), (45, vals 5), (46, vals 6), (47, vals 7), (48, vals 8), (49, vals 9), (50, vals 10), (51, vals 11), (52, vals 12), (53, vals 13), (54, vals 14), (55, vals 15), (56, vals 16), (57, vals 17), (58, vals 18), (59, vals 19)] = _
                        rw [hv0, hv1, hv2, hv3, hv4, hv5, hv6, hv7, hv8, hv9, hv10, hv11, hv12, hv13, hv14, hv15, hv16, hv17, hv18, hv19]]
                      refine W.condF rfl ?_
                      refine W.skip ?_
                      refine ⟨(), ⟨rfl, rfl, rfl, rfl, trivial⟩, ?_⟩
                      exact ⟨hB, hVga, hVgb, hVgc⟩
                  · refine W.draw [⟨[], [7], true⟩, ⟨[0], [], true⟩, ⟨[1], [], true⟩, ⟨[2], [8], true⟩, ⟨[2, 3], [], true⟩, ⟨[2, 4], [], true⟩, ⟨[5], [], true⟩, ⟨[6], [9], true⟩, ⟨[6, 7], [], true⟩, ⟨[6, 8], [], true⟩, ⟨[9], [], true⟩, ⟨[10], [7], true⟩, ⟨[10, 11], [], true⟩, ⟨[10], [3], false⟩, ⟨[10, 13], [], false⟩, ⟨[10], [4], false⟩, ⟨[10, 15], [], false⟩, ⟨[10, 14, 16], [], false⟩, ⟨[10, 12, 17], [], true⟩, ⟨[10, 18], [], true⟩] [[(7, .int .i64 (sg (qa - qb)))], [], [], [(8, .int .i64 (sg (qb - qc)))], [], [], [], [(9, .int .i64 (sg (qa - qc)))], [], [], [], [(7, .int .i64 (sg (qa - qb)))], [], [(3, .pointer (some ⟨ga, 0, none⟩))], [], [(4, .pointer (some ⟨gb, 0, none⟩))], [], [], [], []] (fun iQ => [fun v wQ => v = .int .i64 (sg (qa - qb)), fun v _ => v = .bool true, fun v wQ => v = .bool true, fun v wQ => v = .int .i64 (sg (qb - qc)), fun v _ => v = .bool false, fun v wQ => v = .bool false, fun v wQ => v = .bool false, fun v wQ => v = undef, fun v wQ => v = undef, fun v wQ => v = .bool false, fun v wQ => v = .bool false, fun v wQ => v = .int .i64 (sg (qa - qb)), fun v _ => v = .bool false, fun v wQ => v = .agg #[.bool na, .slice Aan man can, .slice Aad mad cad], fun v wQ => ∃ A208 m209 c210 A211 m212 c213, v = .agg #[.bool (qneg (qa)), .slice A208 m209 c210, .slice A211 m212 c213] ∧ (Own w.heap.size wQ 43 1 A208 m209 c210 (us (digs (qnum (qa))))) ∧ (Own w.heap.size wQ 43 1 A211 m212 c213 (us (digs (Rat.den (qa))))) ∧ (m209 ≤ man ∧ m212 ≤ mad + 1) ∧ (∀ k, bl A208 = some k → k ≠ ga) ∧ (∀ k, bl A208 = some k → k ≠ gb) ∧ (∀ k, bl A208 = some k → k ≠ gc) ∧ (∀ k, bl A211 = some k → k ≠ ga) ∧ (∀ k, bl A211 = some k → k ≠ gb) ∧ (∀ k, bl A211 = some k → k ≠ gc), fun v wQ => v = .agg #[.bool nb, .slice Abn mbn cbn, .slice Abd mbd cbd], fun v wQ => ∃ A217 m218 c219 A220 m221 c222, v = .agg #[.bool (qneg (qb)), .slice A217 m218 c219, .slice A220 m221 c222] ∧ (Own w.heap.size wQ 43 1 A217 m218 c219 (us (digs (qnum (qb))))) ∧ (Own w.heap.size wQ 43 1 A220 m221 c222 (us (digs (Rat.den (qb))))) ∧ (m218 ≤ mbn ∧ m221 ≤ mbd + 1) ∧ (∀ k, bl A217 = some k → k ≠ ga) ∧ (∀ k, bl A217 = some k → k ≠ gb) ∧ (∀ k, bl A217 = some k → k ≠ gc) ∧ (∀ k, bl A220 = some k → k ≠ ga) ∧ (∀ k, bl A220 = some k → k ≠ gb) ∧ (∀ k, bl A220 = some k → k ≠ gc), fun v wQ => v = .bool false, fun v wQ => v = .bool false, fun v wQ => v = .bool false].getD iQ (fun _ _ => True)) (fun _ => True) 20 Try.mixed (by kernel_rfl) ?_ ?_ ?_
                    · refine Vs_mono _ ?_
                      intro VQ hVQ vQ wQ1 wQ2 hQ1 hQ2
                      have hQ2 := hQ2.resolve_right (by decide)
                      simp only [List.mem_cons, List.not_mem_nil, or_false] at hVQ
                      rcases hVQ with rfl | rfl | rfl | rfl | rfl | rfl | rfl | rfl | rfl | rfl | rfl | rfl | rfl | rfl | rfl | rfl | rfl | rfl | rfl | rfl
                      · exact hQ1
                      · exact hQ1
                      · exact hQ1
                      · exact hQ1
                      · exact hQ1
                      · exact hQ1
                      · exact hQ1
                      · exact hQ1
                      · exact hQ1
                      · exact hQ1
                      · exact hQ1
                      · exact hQ1
                      · exact hQ1
                      · exact hQ1
                      · obtain ⟨A208, m209, c210, A211, m212, c213, hQe, t1n, t1d, t1m, hap_t1n_ga, hap_t1n_gb, hap_t1n_gc, hap_t1d_ga, hap_t1d_gb, hap_t1d_gc⟩ := hQ1
                        exact ⟨A208, m209, c210, A211, m212, c213, hQe, t1n.ext hQ2, t1d.ext hQ2, t1m, hap_t1n_ga, hap_t1n_gb, hap_t1n_gc, hap_t1d_ga, hap_t1d_gb, hap_t1d_gc⟩
                      · exact hQ1
                      · obtain ⟨A217, m218, c219, A220, m221, c222, hQe, t2n, t2d, t2m, hap_t2n_ga, hap_t2n_gb, hap_t2n_gc, hap_t2d_ga, hap_t2d_gb, hap_t2d_gc⟩ := hQ1
                        exact ⟨A217, m218, c219, A220, m221, c222, hQe, t2n.ext hQ2, t2d.ext hQ2, t2m, hap_t2n_ga, hap_t2n_gb, hap_t2n_gc, hap_t2d_ga, hap_t2d_gb, hap_t2d_gc⟩
                      · exact hQ1
                      · exact hQ1
                      · exact hQ1
                    · refine ⟨⟨rfl, ⟨rfl, trivial⟩, ?_⟩, ⟨rfl, trivial, ?_⟩, ⟨rfl, trivial, ?_⟩, ⟨rfl, ⟨rfl, trivial⟩, ?_⟩, ⟨rfl, trivial, ?_⟩, ⟨rfl, trivial, ?_⟩, ⟨rfl, trivial, ?_⟩, ⟨rfl, ⟨rfl, trivial⟩, ?_⟩, ⟨rfl, trivial, ?_⟩, ⟨rfl, trivial, ?_⟩, ⟨rfl, trivial, ?_⟩, ⟨rfl, ⟨rfl, trivial⟩, ?_⟩, ⟨rfl, trivial, ?_⟩, ⟨rfl, ⟨rfl, trivial⟩, ?_⟩, ⟨rfl, trivial, ?_⟩, ⟨rfl, ⟨rfl, trivial⟩, ?_⟩, ⟨rfl, trivial, ?_⟩, ⟨rfl, trivial, ?_⟩, ⟨rfl, trivial, ?_⟩, ⟨rfl, trivial, ?_⟩, trivial⟩
                      · intro w192 hE
                        intro R
                        refine WL.move rfl rfl ?_
                        exact WL.done ⟨_, rfl, rfl, rfl⟩
                      · intro w193 hE
                        rintro _ rfl
                        intro R
                        refine WL.leqD rfl rfl rfl ?_
                        exact WL.done ⟨_, rfl, rfl, (dec_t (by omega))⟩
                      · intro w194 hE
                        rintro _ rfl
                        intro R
                        refine WL.move rfl rfl ?_
                        exact WL.done ⟨_, rfl, rfl, rfl⟩
                      · intro w195 hE
                        rintro _ rfl
                        intro R
                        refine WL.take rfl ?_
                        refine WL.move rfl rfl ?_
                        exact WL.done ⟨_, rfl, rfl, rfl⟩
                      · intro w196 hE
                        rintro _ rfl
                        rintro _ rfl
                        intro R
                        refine WL.take rfl ?_
                        refine WL.leqD rfl rfl rfl ?_
                        exact WL.done ⟨_, rfl, rfl, (dec_f (by omega))⟩
                      · intro w197 hE
                        rintro _ rfl
                        rintro _ rfl
                        intro R
                        refine WL.pick rfl rfl rfl ?_
                        exact WL.done ⟨_, rfl, rfl, rfl⟩
                      · intro w198 hE
                        rintro _ rfl
                        intro R
                        refine WL.move rfl rfl ?_
                        exact WL.done ⟨_, rfl, rfl, rfl⟩
                      · intro w199 hE
                        rintro _ rfl
                        intro R
                        refine WL.pass rfl rfl rfl ?_
                        exact WL.done ⟨_, rfl, rfl, rfl⟩
                      · intro w200 hE
                        rintro _ rfl
                        rintro _ rfl
                        intro R
                        refine WL.pass rfl rfl rfl ?_
                        exact WL.done ⟨_, rfl, rfl, rfl⟩
                      · intro w201 hE
                        rintro _ rfl
                        rintro _ rfl
                        intro R
                        refine WL.pick rfl rfl rfl ?_
                        exact WL.done ⟨_, rfl, rfl, rfl⟩
                      · intro w202 hE
                        rintro _ rfl
                        intro R
                        refine WL.move rfl rfl ?_
                        exact WL.done ⟨_, rfl, rfl, rfl⟩
                      · intro w203 hE
                        rintro _ rfl
                        intro R
                        refine WL.take rfl ?_
                        refine WL.move rfl rfl ?_
                        exact WL.done ⟨_, rfl, rfl, rfl⟩
                      · intro w204 hE
                        rintro _ rfl
                        rintro _ rfl
                        intro R
                        refine WL.take rfl ?_
                        refine WL.eqlD rfl rfl rfl ?_
                        exact WL.done ⟨_, rfl, rfl, (dec_f (by omega))⟩
                      · intro w205 hE
                        have hE := hE rfl
                        have hB := ext_trans hB hE
                        have hVga := hVga.ext hE
                        rintro _ rfl
                        intro R
                        refine WL.take rfl ?_
                        refine WL.loadV (cs := [.bool na, .slice Aan man can, .slice Aad mad cad]) Try.el31 Try.agg31 rfl rfl hVga.vcells rfl ?_
                        exact WL.done ⟨_, rfl, ext_refl _, rfl⟩
                      · intro w206 hE
                        have hE := hE rfl
                        have hB := ext_trans hB hE
                        have han := han0.ext hB
                        have had := had0.ext hB
                        have hVga := hVga.ext hE
                        have hVgb := hVgb.ext hE
                        have hVgc := hVgc.ext hE
                        rintro _ rfl
                        rintro _ rfl
                        intro R
                        refine WL.take rfl ?_
                        refine WL.call Try.func19 rfl Try.nm19 rfl rfl (qTrim_c han had hLan hLad qa hqa (by omega)) ?_
                        rintro _ w207 ⟨A208, m209, c210, A211, m212, c213, rfl, hGw207, t1n, t1d, t1m⟩
                        have hap_t1n_ga := ap_new t1n (hVga.bl_ge _ rfl).2
                        have hap_t1n_gb := ap_new t1n (hVgb.bl_ge _ rfl).2
                        have hap_t1n_gc := ap_new t1n (hVgc.bl_ge _ rfl).2
                        have hap_t1d_ga := ap_new t1d (hVga.bl_ge _ rfl).2
                        have hap_t1d_gb := ap_new t1d (hVgb.bl_ge _ rfl).2
                        have hap_t1d_gc := ap_new t1d (hVgc.bl_ge _ rfl).2
                        have t1n := t1n.low (b' := w.heap.size) hB.size
                        have t1d := t1d.low (b' := w.heap.size) hB.size
                        have hB := ext_trans hB hGw207
                        have t1n_l := t1n.rd.ulen
                        have t1d_l := t1d.rd.ulen
                        exact WL.done ⟨_, rfl, hGw207, ⟨A208, m209, c210, A211, m212, c213, rfl, t1n, t1d, t1m, hap_t1n_ga, hap_t1n_gb, hap_t1n_gc, hap_t1d_ga, hap_t1d_gb, hap_t1d_gc⟩⟩
                      · intro w214 hE
                        have hE := hE rfl
                        have hB := ext_trans hB hE
                        have hVgb := hVgb.ext hE
                        rintro _ rfl
                        intro R
                        refine WL.take rfl ?_
                        refine WL.loadV (cs := [.bool nb, .slice Abn mbn cbn, .slice Abd mbd cbd]) Try.el31 Try.agg31 rfl rfl hVgb.vcells rfl ?_
                        exact WL.done ⟨_, rfl, ext_refl _, rfl⟩
                      · intro w215 hE
                        have hE := hE rfl
                        have hB := ext_trans hB hE
                        have hbn := hbn0.ext hB
                        have hbd := hbd0.ext hB
                        have hVga := hVga.ext hE
                        have hVgb := hVgb.ext hE
                        have hVgc := hVgc.ext hE
                        rintro _ rfl
                        rintro _ rfl
                        intro R
                        refine WL.take rfl ?_
                        refine WL.call Try.func19 rfl Try.nm19 rfl rfl (qTrim_c hbn hbd hLbn hLbd qb hqb (by omega)) ?_
                        rintro _ w216 ⟨A217, m218, c219, A220, m221, c222, rfl, hGw216, t2n, t2d, t2m⟩
                        have hap_t2n_ga := ap_new t2n (hVga.bl_ge _ rfl).2
                        have hap_t2n_gb := ap_new t2n (hVgb.bl_ge _ rfl).2
                        have hap_t2n_gc := ap_new t2n (hVgc.bl_ge _ rfl).2
                        have hap_t2d_ga := ap_new t2d (hVga.bl_ge _ rfl).2
                        have hap_t2d_gb := ap_new t2d (hVgb.bl_ge _ rfl).2
                        have hap_t2d_gc := ap_new t2d (hVgc.bl_ge _ rfl).2
                        have t2n := t2n.low (b' := w.heap.size) hB.size
                        have t2d := t2d.low (b' := w.heap.size) hB.size
                        have hB := ext_trans hB hGw216
                        have t2n_l := t2n.rd.ulen
                        have t2d_l := t2d.rd.ulen
                        exact WL.done ⟨_, rfl, hGw216, ⟨A217, m218, c219, A220, m221, c222, rfl, t2n, t2d, t2m, hap_t2n_ga, hap_t2n_gb, hap_t2n_gc, hap_t2d_ga, hap_t2d_gb, hap_t2d_gc⟩⟩
                      · intro w223 hE
                        have hE := hE rfl
                        have hB := ext_trans hB hE
                        rintro _ rfl
                        rintro _ ⟨A208, m209, c210, A211, m212, c213, rfl, t1n, t1d, t1m, hap_t1n_ga, hap_t1n_gb, hap_t1n_gc, hap_t1d_ga, hap_t1d_gb, hap_t1d_gc⟩
                        rintro _ ⟨A217, m218, c219, A220, m221, c222, rfl, t2n, t2d, t2m, hap_t2n_ga, hap_t2n_gb, hap_t2n_gc, hap_t2d_ga, hap_t2d_gb, hap_t2d_gc⟩
                        intro R
                        refine WL.take rfl ?_
                        refine WL.call Try.func18 rfl Try.nm18 rfl rfl (qsame_t_f t1n.rd t1d.rd t2n.rd t2d.rd (fun h => by have h1 := can_inj h; rw [h1, sub_zero_iff.2 rfl] at hx; have h2 : sg 0 = 0 := sg_zero.2 rfl; omega)) ?_
                        rintro _ w224 ⟨rfl, hGw224⟩
                        have hB := ext_trans hB hGw224
                        exact WL.done ⟨_, rfl, hGw224, rfl⟩
                      · intro w225 hE
                        rintro _ rfl
                        rintro _ rfl
                        rintro _ rfl
                        intro R
                        refine WL.take rfl ?_
                        refine WL.neqB rfl rfl Try.underlying4 rfl rfl ?_
                        exact WL.done ⟨_, rfl, rfl, rfl⟩
                      · intro w226 hE
                        rintro _ rfl
                        rintro _ rfl
                        intro R
                        refine WL.pick rfl rfl rfl ?_
                        exact WL.done ⟨_, rfl, rfl, rfl⟩
                    · intro vals w227 hT hVs
                      rw [if_neg (by decide)] at hT
                      have hB := ext_trans hB hT
                      have hVga := hVga.ext hT
                      have hVgb := hVgb.ext hT
                      have hVgc := hVgc.ext hT
                      have hv0 : vals 0 = _ := hVs 0 (by decide) (by decide)
                      have hv1 : vals 1 = _ := hVs 1 (by decide) (by decide)
                      have hv2 : vals 2 = _ := hVs 2 (by decide) (by decide)
                      have hv3 : vals 3 = _ := hVs 3 (by decide) (by decide)
                      have hv4 : vals 4 = _ := hVs 4 (by decide) (by decide)
                      have hv5 : vals 5 = _ := hVs 5 (by decide) (by decide)
                      have hv6 : vals 6 = _ := hVs 6 (by decide) (by decide)
                      have hv7 : vals 7 = _ := hVs 7 (by decide) (by decide)
                      have hv8 : vals 8 = _ := hVs 8 (by decide) (by decide)
                      have hv9 : vals 9 = _ := hVs 9 (by decide) (by decide)
                      have hv10 : vals 10 = _ := hVs 10 (by decide) (by decide)
                      have hv11 : vals 11 = _ := hVs 11 (by decide) (by decide)
                      have hv12 : vals 12 = _ := hVs 12 (by decide) (by decide)
                      have hv13 : vals 13 = _ := hVs 13 (by decide) (by decide)
                      obtain ⟨A208, m209, c210, A211, m212, c213, hv14, t1n, t1d, t1m, hap_t1n_ga, hap_t1n_gb, hap_t1n_gc, hap_t1d_ga, hap_t1d_gb, hap_t1d_gc⟩ := hVs 14 (by decide) (by decide)
                      have hv15 : vals 15 = _ := hVs 15 (by decide) (by decide)
                      obtain ⟨A217, m218, c219, A220, m221, c222, hv16, t2n, t2d, t2m, hap_t2n_ga, hap_t2n_gb, hap_t2n_gc, hap_t2d_ga, hap_t2d_gb, hap_t2d_gc⟩ := hVs 16 (by decide) (by decide)
                      have hv17 : vals 17 = _ := hVs 17 (by decide) (by decide)
                      have hv18 : vals 18 = _ := hVs 18 (by decide) (by decide)
                      have hv19 : vals 19 = _ := hVs 19 (by decide) (by decide)
                      rw [show (List.filterMap (fun i => Option.map (fun t => (t, vals i)) (dstAt _ i)) (List.range _)) = [(40, .int .i64 (sg (qa - qb))), (41, .bool true), (42, .bool true), (43, .int .i64 (sg (qb - qc))), (44, .bool false), (45, .bool false), (46, .bool false), (47, undef), (48, undef), (49, .bool false), (50, .bool false), (51, .int .i64 (sg (qa - qb))), (52, .bool false), (53, .agg #[.bool na, .slice Aan man can, .slice Aad mad cad]), (54, .agg #[.bool (qneg (qa)), .slice A208 m209 c210, .slice A211 m212 c213]), (55, .agg #[.bool nb, .slice Abn mbn cbn, .slice Abd mbd cbd]), (56, .agg #[.bool (qneg (qb)), .slice A217 m218 c219, .slice A220 m221 c222]), (57, .bool false), (58, .bool false), (59, .bool false)] from by
                        show [(40, vals 0), (41, vals 1), (42, vals 2), (43, vals 3), (44, vals 4), (45, vals 5), (46, vals 6), (47, vals 7), (48, vals 8), (49, vals 9), (50, vals 10), (51, vals 11), (52, vals 12), (53, vals 13), (54, vals 14), (55, vals 15), (56, vals 16), (57, vals 17), (58, vals 18), (59, vals 19)] = _
                        rw [hv0, hv1, hv2, hv3, hv4, hv5, hv6, hv7, hv8, hv9, hv10, hv11, hv12, hv13, hv14, hv15, hv16, hv17, hv18, hv19]]
                      refine W.condF rfl ?_
                      refine W.skip ?_
                      refine ⟨(), ⟨rfl, rfl, rfl, rfl, trivial⟩, ?_⟩
                      exact ⟨hB, hVga, hVgb, hVgc⟩
                · rintro u w228 ⟨hB, hVga, hVgb, hVgc⟩
                  have han := han0.ext hB
                  have had := had0.ext hB
                  have hbn := hbn0.ext hB
                  have hbd := hbd0.ext hB
                  have hcn := hcn0.ext hB
                  have hcd := hcd0.ext hB
                  refine W.seq ?_
                  refine W.seq ?_
                  refine W.draw [⟨[], [3], false⟩, ⟨[], [5], false⟩, ⟨[0, 1], [], false⟩, ⟨[2], [], false⟩, ⟨[], [4], false⟩, ⟨[], [5], false⟩, ⟨[4, 5], [], false⟩, ⟨[6], [], false⟩, ⟨[3, 7], [], false⟩, ⟨[], [7], true⟩, ⟨[8, 9], [], true⟩] [[(3, .pointer (some ⟨ga, 0, none⟩))], [(5, .pointer (some ⟨gc, 0, none⟩))], [], [], [(4, .pointer (some ⟨gb, 0, none⟩))], [(5, .pointer (some ⟨gc, 0, none⟩))], [], [], [], [(7, .int .i64 (sg (qa - qb)))], []] (fun iQ => [fun v wQ => v = .agg #[.bool na, .slice Aan man can, .slice Aad mad cad], fun v wQ => v = .agg #[.bool nc, .slice Acn mcn ccn, .slice Acd mcd ccd], fun v wQ => ∃ A232, v = .slice A232 2 2 ∧ (Own w.heap.size wQ 31 3 A232 2 2 [.bool na, .slice Aan man can, .slice Aad mad cad, .bool nc, .slice Acn mcn ccn, .slice Acd mcd ccd]) ∧ (RatsR wQ.heap.size wQ [.bool na, .slice Aan man can, .slice Aad mad cad, .bool nc, .slice Acn mcn ccn, .slice Acd mcd ccd] [(na, xan, xad), (nc, xcn, xcd)]) ∧ (∀ k, bl A232 = some k → k ≠ ga) ∧ (∀ k, bl A232 = some k → k ≠ gb) ∧ (∀ k, bl A232 = some k → k ≠ gc), fun v wQ => ∃ A238 m239 c240 A241 m242 c243, v = .agg #[.bool (qneg (qa + qc)), .slice A238 m239 c240, .slice A241 m242 c243] ∧ (Own w.heap.size wQ 43 1 A238 m239 c240 (us (digs (qnum (qa + qc))))) ∧ (Own w.heap.size wQ 43 1 A241 m242 c243 (us (digs (Rat.den (qa + qc))))) ∧ (m239 ≤ 53 ∧ m242 ≤ 53) ∧ (∀ k, bl A238 = some k → k ≠ ga) ∧ (∀ k, bl A238 = some k → k ≠ gb) ∧ (∀ k, bl A238 = some k → k ≠ gc) ∧ (∀ k, bl A241 = some k → k ≠ ga) ∧ (∀ k, bl A241 = some k → k ≠ gb) ∧ (∀ k, bl A241 = some k → k ≠ gc), fun v wQ => v = .agg #[.bool nb, .slice Abn mbn cbn, .slice Abd mbd cbd], fun v wQ => v = .agg #[.bool nc, .slice Acn mcn ccn, .slice Acd mcd ccd], fun v wQ => ∃ A247, v = .slice A247 2 2 ∧ (Own w.heap.size wQ 31 3 A247 2 2 [.bool nb, .slice Abn mbn cbn, .slice Abd mbd cbd, .bool nc, .slice Acn mcn ccn, .slice Acd mcd ccd]) ∧ (RatsR wQ.heap.size wQ [.bool nb, .slice Abn mbn cbn, .slice Abd mbd cbd, .bool nc, .slice Acn mcn ccn, .slice Acd mcd ccd] [(nb, xbn, xbd), (nc, xcn, xcd)]) ∧ (∀ k, bl A247 = some k → k ≠ ga) ∧ (∀ k, bl A247 = some k → k ≠ gb) ∧ (∀ k, bl A247 = some k → k ≠ gc), fun v wQ => ∃ A253 m254 c255 A256 m257 c258, v = .agg #[.bool (qneg (qb + qc)), .slice A253 m254 c255, .slice A256 m257 c258] ∧ (Own w.heap.size wQ 43 1 A253 m254 c255 (us (digs (qnum (qb + qc))))) ∧ (Own w.heap.size wQ 43 1 A256 m257 c258 (us (digs (Rat.den (qb + qc))))) ∧ (m254 ≤ 53 ∧ m257 ≤ 53) ∧ (∀ k, bl A253 = some k → k ≠ ga) ∧ (∀ k, bl A253 = some k → k ≠ gb) ∧ (∀ k, bl A253 = some k → k ≠ gc) ∧ (∀ k, bl A256 = some k → k ≠ ga) ∧ (∀ k, bl A256 = some k → k ≠ gb) ∧ (∀ k, bl A256 = some k → k ≠ gc), fun v wQ => v = .int .i64 (sg ((qa + qc) - (qb + qc))), fun v wQ => v = .int .i64 (sg (qa - qb)), fun v _ => v = .bool false].getD iQ (fun _ _ => True)) (fun _ => True) 11 Try.mixed (by kernel_rfl) ?_ ?_ ?_
                  · refine Vs_mono _ ?_
                    intro VQ hVQ vQ wQ1 wQ2 hQ1 hQ2
                    have hQ2 := hQ2.resolve_right (by decide)
                    simp only [List.mem_cons, List.not_mem_nil, or_false] at hVQ
                    rcases hVQ with rfl | rfl | rfl | rfl | rfl | rfl | rfl | rfl | rfl | rfl | rfl
                    · exact hQ1
                    · exact hQ1
                    · obtain ⟨A232, hQe, hO234, hN235, hap_hO234_ga, hap_hO234_gb, hap_hO234_gc⟩ := hQ1
                      exact ⟨A232, hQe, hO234.ext hQ2, (hN235.ext hQ2).norm, hap_hO234_ga, hap_hO234_gb, hap_hO234_gc⟩
                    · obtain ⟨A238, m239, c240, A241, m242, c243, hQe, h1n, h1d, h1m, hap_h1n_ga, hap_h1n_gb, hap_h1n_gc, hap_h1d_ga, hap_h1d_gb, hap_h1d_gc⟩ := hQ1
                      exact ⟨A238, m239, c240, A241, m242, c243, hQe, h1n.ext hQ2, h1d.ext hQ2, h1m, hap_h1n_ga, hap_h1n_gb, hap_h1n_gc, hap_h1d_ga, hap_h1d_gb, hap_h1d_gc⟩
                    · exact hQ1
                    · exact hQ1
                    · obtain ⟨A247, hQe, hO249, hN250, hap_hO249_ga, hap_hO249_gb, hap_hO249_gc⟩ := hQ1
                      exact ⟨A247, hQe, hO249.ext hQ2, (hN250.ext hQ2).norm, hap_hO249_ga, hap_hO249_gb, hap_hO249_gc⟩
                    · obtain ⟨A253, m254, c255, A256, m257, c258, hQe, h2n, h2d, h2m, hap_h2n_ga, hap_h2n_gb, hap_h2n_gc, hap_h2d_ga, hap_h2d_gb, hap_h2d_gc⟩ := hQ1
                      exact ⟨A253, m254, c255, A256, m257, c258, hQe, h2n.ext hQ2, h2d.ext hQ2, h2m, hap_h2n_ga, hap_h2n_gb, hap_h2n_gc, hap_h2d_ga, hap_h2d_gb, hap_h2d_gc⟩
                    · exact hQ1
                    · exact hQ1
                    · exact hQ1
                  · refine ⟨⟨rfl, ⟨rfl, trivial⟩, ?_⟩, ⟨rfl, ⟨rfl, trivial⟩, ?_⟩, ⟨rfl, trivial, ?_⟩, ⟨rfl, trivial, ?_⟩, ⟨rfl, ⟨rfl, trivial⟩, ?_⟩, ⟨rfl, ⟨rfl, trivial⟩, ?_⟩, ⟨rfl, trivial, ?_⟩, ⟨rfl, trivial, ?_⟩, ⟨rfl, trivial, ?_⟩, ⟨rfl, ⟨rfl, trivial⟩, ?_⟩, ⟨rfl, trivial, ?_⟩, trivial⟩
                    · intro w229 hE
                      have hE := hE rfl
                      have hB := ext_trans hB hE
                      have hVga := hVga.ext hE
                      intro R
                      refine WL.loadV (cs := [.bool na, .slice Aan man can, .slice Aad mad cad]) Try.el31 Try.agg31 rfl rfl hVga.vcells rfl ?_
                      exact WL.done ⟨_, rfl, ext_refl _, rfl⟩
                    · intro w230 hE
                      have hE := hE rfl
                      have hB := ext_trans hB hE
                      have hVgc := hVgc.ext hE
                      intro R
                      refine WL.loadV (cs := [.bool nc, .slice Acn mcn ccn, .slice Acd mcd ccd]) Try.el31 Try.agg31 rfl rfl hVgc.vcells rfl ?_
                      exact WL.done ⟨_, rfl, ext_refl _, rfl⟩
                    · intro w231 hE
                      have hE := hE rfl
                      have hB := ext_trans hB hE
                      have han := han0.ext hB
                      have had := had0.ext hB
                      have hcn := hcn0.ext hB
                      have hcd := hcd0.ext hB
                      have hVga := hVga.ext hE
                      have hVgb := hVgb.ext hE
                      have hVgc := hVgc.ext hE
                      rintro _ rfl
                      rintro _ rfl
                      intro R
                      refine WL.lit (b := w231.heap.size) (cells := [.bool na, .slice Aan man can, .slice Aad mad cad, .bool nc, .slice Acn mcn ccn, .slice Acd mcd ccd]) Try.underlying44 Try.el31 (by decide) ⟨_, rfl, by kernel_rfl⟩ rfl (Nat.le_refl _) rfl ?_
                      rintro A232 w233 - hO234 hGw233
                      have hap_hO234_ga := ap_new hO234 (hVga.bl_ge _ rfl).2
                      have hap_hO234_gb := ap_new hO234 (hVgb.bl_ge _ rfl).2
                      have hap_hO234_gc := ap_new hO234 (hVgc.bl_ge _ rfl).2
                      have hO234 := hO234.low (b' := w.heap.size) hB.size
                      have hB := ext_trans hB hGw233
                      have han := han0.ext hB
                      have had := had0.ext hB
                      have hcn := hcn0.ext hB
                      have hcd := hcd0.ext hB
                      have hN235 : RatsR w233.heap.size w233 [.bool na, .slice Aan man can, .slice Aad mad cad, .bool nc, .slice Acn mcn ccn, .slice Acd mcd ccd] [(na, xan, xad), (nc, xcn, xcd)] := (RatsR.cons han.norm had.norm (RatsR.cons hcn.norm hcd.norm (RatsR.nil _ _)))
                      exact WL.done ⟨_, rfl, hGw233, ⟨A232, rfl, hO234, hN235, hap_hO234_ga, hap_hO234_gb, hap_hO234_gc⟩⟩
                    · intro w236 hE
                      have hE := hE rfl
                      have hB := ext_trans hB hE
                      have hVga := hVga.ext hE
                      have hVgb := hVgb.ext hE
                      have hVgc := hVgc.ext hE
                      rintro _ ⟨A232, rfl, hO234, hN235, hap_hO234_ga, hap_hO234_gb, hap_hO234_gc⟩
                      intro R
                      refine WL.call Try.func32 rfl Try.nm32 rfl rfl (qAdd2_c hO234.rd hN235 hLan hLad hLcn hLcd qa hqa qc hqc 12 (by omega) (by omega)) ?_
                      rintro _ w237 ⟨A238, m239, c240, A241, m242, c243, rfl, hGw237, h1n, h1d, h1m⟩
                      have hap_h1n_ga := ap_new h1n (hVga.bl_ge _ rfl).2
                      have hap_h1n_gb := ap_new h1n (hVgb.bl_ge _ rfl).2
                      have hap_h1n_gc := ap_new h1n (hVgc.bl_ge _ rfl).2
                      have hap_h1d_ga := ap_new h1d (hVga.bl_ge _ rfl).2
                      have hap_h1d_gb := ap_new h1d (hVgb.bl_ge _ rfl).2
                      have hap_h1d_gc := ap_new h1d (hVgc.bl_ge _ rfl).2
                      have h1n := h1n.low (b' := w.heap.size) hB.size
                      have h1d := h1d.low (b' := w.heap.size) hB.size
                      have hB := ext_trans hB hGw237
                      have h1n_l := h1n.rd.ulen
                      have h1d_l := h1d.rd.ulen
                      exact WL.done ⟨_, rfl, hGw237, ⟨A238, m239, c240, A241, m242, c243, rfl, h1n, h1d, h1m, hap_h1n_ga, hap_h1n_gb, hap_h1n_gc, hap_h1d_ga, hap_h1d_gb, hap_h1d_gc⟩⟩
                    · intro w244 hE
                      have hE := hE rfl
                      have hB := ext_trans hB hE
                      have hVgb := hVgb.ext hE
                      intro R
                      refine WL.loadV (cs := [.bool nb, .slice Abn mbn cbn, .slice Abd mbd cbd]) Try.el31 Try.agg31 rfl rfl hVgb.vcells rfl ?_
                      exact WL.done ⟨_, rfl, ext_refl _, rfl⟩
                    · intro w245 hE
                      have hE := hE rfl
                      have hB := ext_trans hB hE
                      have hVgc := hVgc.ext hE
                      intro R
                      refine WL.loadV (cs := [.bool nc, .slice Acn mcn ccn, .slice Acd mcd ccd]) Try.el31 Try.agg31 rfl rfl hVgc.vcells rfl ?_
                      exact WL.done ⟨_, rfl, ext_refl _, rfl⟩
                    · intro w246 hE
                      have hE := hE rfl
                      have hB := ext_trans hB hE
                      have hbn := hbn0.ext hB
                      have hbd := hbd0.ext hB
                      have hcn := hcn0.ext hB
                      have hcd := hcd0.ext hB
                      have hVga := hVga.ext hE
                      have hVgb := hVgb.ext hE
                      have hVgc := hVgc.ext hE
                      rintro _ rfl
                      rintro _ rfl
                      intro R
                      refine WL.lit (b := w246.heap.size) (cells := [.bool nb, .slice Abn mbn cbn, .slice Abd mbd cbd, .bool nc, .slice Acn mcn ccn, .slice Acd mcd ccd]) Try.underlying44 Try.el31 (by decide) ⟨_, rfl, by kernel_rfl⟩ rfl (Nat.le_refl _) rfl ?_
                      rintro A247 w248 - hO249 hGw248
                      have hap_hO249_ga := ap_new hO249 (hVga.bl_ge _ rfl).2
                      have hap_hO249_gb := ap_new hO249 (hVgb.bl_ge _ rfl).2
                      have hap_hO249_gc := ap_new hO249 (hVgc.bl_ge _ rfl).2
                      have hO249 := hO249.low (b' := w.heap.size) hB.size
                      have hB := ext_trans hB hGw248
                      have hbn := hbn0.ext hB
                      have hbd := hbd0.ext hB
                      have hcn := hcn0.ext hB
                      have hcd := hcd0.ext hB
                      have hN250 : RatsR w248.heap.size w248 [.bool nb, .slice Abn mbn cbn, .slice Abd mbd cbd, .bool nc, .slice Acn mcn ccn, .slice Acd mcd ccd] [(nb, xbn, xbd), (nc, xcn, xcd)] := (RatsR.cons hbn.norm hbd.norm (RatsR.cons hcn.norm hcd.norm (RatsR.nil _ _)))
                      exact WL.done ⟨_, rfl, hGw248, ⟨A247, rfl, hO249, hN250, hap_hO249_ga, hap_hO249_gb, hap_hO249_gc⟩⟩
                    · intro w251 hE
                      have hE := hE rfl
                      have hB := ext_trans hB hE
                      have hVga := hVga.ext hE
                      have hVgb := hVgb.ext hE
                      have hVgc := hVgc.ext hE
                      rintro _ ⟨A247, rfl, hO249, hN250, hap_hO249_ga, hap_hO249_gb, hap_hO249_gc⟩
                      intro R
                      refine WL.call Try.func32 rfl Try.nm32 rfl rfl (qAdd2_c hO249.rd hN250 hLbn hLbd hLcn hLcd qb hqb qc hqc 12 (by omega) (by omega)) ?_
                      rintro _ w252 ⟨A253, m254, c255, A256, m257, c258, rfl, hGw252, h2n, h2d, h2m⟩
                      have hap_h2n_ga := ap_new h2n (hVga.bl_ge _ rfl).2
                      have hap_h2n_gb := ap_new h2n (hVgb.bl_ge _ rfl).2
                      have hap_h2n_gc := ap_new h2n (hVgc.bl_ge _ rfl).2
                      have hap_h2d_ga := ap_new h2d (hVga.bl_ge _ rfl).2
                      have hap_h2d_gb := ap_new h2d (hVgb.bl_ge _ rfl).2
                      have hap_h2d_gc := ap_new h2d (hVgc.bl_ge _ rfl).2
                      have h2n := h2n.low (b' := w.heap.size) hB.size
                      have h2d := h2d.low (b' := w.heap.size) hB.size
                      have hB := ext_trans hB hGw252
                      have h2n_l := h2n.rd.ulen
                      have h2d_l := h2d.rd.ulen
                      exact WL.done ⟨_, rfl, hGw252, ⟨A253, m254, c255, A256, m257, c258, rfl, h2n, h2d, h2m, hap_h2n_ga, hap_h2n_gb, hap_h2n_gc, hap_h2d_ga, hap_h2d_gb, hap_h2d_gc⟩⟩
                    · intro w259 hE
                      have hE := hE rfl
                      have hB := ext_trans hB hE
                      rintro _ ⟨A238, m239, c240, A241, m242, c243, rfl, h1n, h1d, h1m, hap_h1n_ga, hap_h1n_gb, hap_h1n_gc, hap_h1d_ga, hap_h1d_gb, hap_h1d_gc⟩
                      rintro _ ⟨A253, m254, c255, A256, m257, c258, rfl, h2n, h2d, h2m, hap_h2n_ga, hap_h2n_gb, hap_h2n_gc, hap_h2d_ga, hap_h2d_gb, hap_h2d_gc⟩
                      intro R
                      refine WL.call Try.func39 rfl Try.nm39 rfl rfl (qCmp_c h1n.rd h1d.rd h2n.rd h2d.rd (digs_lim _) (digs_lim _) (qa + qc) (val_canon _) (digs_lim _) (digs_lim _) (qb + qc) (val_canon _) (by omega) (by omega)) ?_
                      rintro _ w260 ⟨rfl, hGw260⟩
                      have hB := ext_trans hB hGw260
                      exact WL.done ⟨_, rfl, hGw260, rfl⟩
                    · intro w261 hE
                      intro R
                      refine WL.move rfl rfl ?_
                      exact WL.done ⟨_, rfl, rfl, rfl⟩
                    · intro w262 hE
                      rintro _ rfl
                      rintro _ rfl
                      intro R
                      refine WL.neqD rfl rfl rfl ?_
                      exact WL.done ⟨_, rfl, rfl, (dec_f (fun h => h (congrArg sg (sub_add_r qa qb qc))))⟩
                  · intro vals w263 hT hVs
                    rw [if_neg (by decide)] at hT
                    have hB := ext_trans hB hT
                    have han := han0.ext hB
                    have had := had0.ext hB
                    have hbn := hbn0.ext hB
                    have hbd := hbd0.ext hB
                    have hcn := hcn0.ext hB
                    have hcd := hcd0.ext hB
                    have hVga := hVga.ext hT
                    have hVgb := hVgb.ext hT
                    have hVgc := hVgc.ext hT
                    have hv0 : vals 0 = _ := hVs 0 (by decide) (by decide)
                    have hv1 : vals 1 = _ := hVs 1 (by decide) (by decide)
                    obtain ⟨A232, hv2, hO234, hN235, hap_hO234_ga, hap_hO234_gb, hap_hO234_gc⟩ := hVs 2 (by decide) (by decide)
                    obtain ⟨A238, m239, c240, A241, m242, c243, hv3, h1n, h1d, h1m, hap_h1n_ga, hap_h1n_gb, hap_h1n_gc, hap_h1d_ga, hap_h1d_gb, hap_h1d_gc⟩ := hVs 3 (by decide) (by decide)
                    have hv4 : vals 4 = _ := hVs 4 (by decide) (by decide)
                    have hv5 : vals 5 = _ := hVs 5 (by decide) (by decide)
                    obtain ⟨A247, hv6, hO249, hN250, hap_hO249_ga, hap_hO249_gb, hap_hO249_gc⟩ := hVs 6 (by decide) (by decide)
                    obtain ⟨A253, m254, c255, A256, m257, c258, hv7, h2n, h2d, h2m, hap_h2n_ga, hap_h2n_gb, hap_h2n_gc, hap_h2d_ga, hap_h2d_gb, hap_h2d_gc⟩ := hVs 7 (by decide) (by decide)
                    have hv8 : vals 8 = _ := hVs 8 (by decide) (by decide)
                    have hv9 : vals 9 = _ := hVs 9 (by decide) (by decide)
                    have hv10 : vals 10 = _ := hVs 10 (by decide) (by decide)
                    rw [show (List.filterMap (fun i => Option.map (fun t => (t, vals i)) (dstAt _ i)) (List.range _)) = [(60, .agg #[.bool na, .slice Aan man can, .slice Aad mad cad]), (61, .agg #[.bool nc, .slice Acn mcn ccn, .slice Acd mcd ccd]), (62, .slice A232 2 2), (63, .agg #[.bool (qneg (qa + qc)), .slice A238 m239 c240, .slice A241 m242 c243]), (64, .agg #[.bool nb, .slice Abn mbn cbn, .slice Abd mbd cbd]), (65, .agg #[.bool nc, .slice Acn mcn ccn, .slice Acd mcd ccd]), (66, .slice A247 2 2), (67, .agg #[.bool (qneg (qb + qc)), .slice A253 m254 c255, .slice A256 m257 c258]), (68, .int .i64 (sg ((qa + qc) - (qb + qc)))), (69, .int .i64 (sg (qa - qb))), (70, .bool false)] from by
                      show [(60, vals 0), (61, vals 1), (62, vals 2), (63, vals 3), (64, vals 4), (65, vals 5), (66, vals 6), (67, vals 7), (68, vals 8), (69, vals 9), (70, vals 10)] = _
                      rw [hv0, hv1, hv2, hv3, hv4, hv5, hv6, hv7, hv8, hv9, hv10]]
                    refine W.condF rfl ?_
                    refine W.skip ?_
                    refine W.seq ?_
                    refine W.drawT 12 [⟨[], [3], false⟩, ⟨[], [5], false⟩, ⟨[0, 1], [], false⟩, ⟨[2], [], false⟩, ⟨[], [4], false⟩, ⟨[], [5], false⟩, ⟨[4, 5], [], false⟩, ⟨[6], [], false⟩, ⟨[3, 7], [], false⟩, ⟨[], [7], true⟩, ⟨[], [5], false⟩, ⟨[10], [], false⟩] [[(3, .pointer (some ⟨ga, 0, none⟩))], [(5, .pointer (some ⟨gc, 0, none⟩))], [], [], [(4, .pointer (some ⟨gb, 0, none⟩))], [(5, .pointer (some ⟨gc, 0, none⟩))], [], [], [], [(7, .int .i64 (sg (qa - qb)))], [(5, .pointer (some ⟨gc, 0, none⟩))], []] (fun iQ => [fun v wQ => v = .agg #[.bool na, .slice Aan man can, .slice Aad mad cad], fun v wQ => v = .agg #[.bool nc, .slice Acn mcn ccn, .slice Acd mcd ccd], fun v wQ => ∃ A267, v = .slice A267 2 2 ∧ (Own w.heap.size wQ 31 3 A267 2 2 [.bool na, .slice Aan man can, .slice Aad mad cad, .bool nc, .slice Acn mcn ccn, .slice Acd mcd ccd]) ∧ (RatsR wQ.heap.size wQ [.bool na, .slice Aan man can, .slice Aad mad cad, .bool nc, .slice Acn mcn ccn, .slice Acd mcd ccd] [(na, xan, xad), (nc, xcn, xcd)]) ∧ (∀ k, bl A267 = some k → k ≠ ga) ∧ (∀ k, bl A267 = some k → k ≠ gb) ∧ (∀ k, bl A267 = some k → k ≠ gc), fun v wQ => ∃ A273 m274 c275 A276 m277 c278, v = .agg #[.bool (qneg (qa * qc)), .slice A273 m274 c275, .slice A276 m277 c278] ∧ (Own w.heap.size wQ 43 1 A273 m274 c275 (us (digs (qnum (qa * qc))))) ∧ (Own w.heap.size wQ 43 1 A276 m277 c278 (us (digs (Rat.den (qa * qc))))) ∧ (m274 ≤ 53 ∧ m277 ≤ 53) ∧ (∀ k, bl A273 = some k → k ≠ ga) ∧ (∀ k, bl A273 = some k → k ≠ gb) ∧ (∀ k, bl A273 = some k → k ≠ gc) ∧ (∀ k, bl A276 = some k → k ≠ ga) ∧ (∀ k, bl A276 = some k → k ≠ gb) ∧ (∀ k, bl A276 = some k → k ≠ gc), fun v wQ => v = .agg #[.bool nb, .slice Abn mbn cbn, .slice Abd mbd cbd], fun v wQ => v = .agg #[.bool nc, .slice Acn mcn ccn, .slice Acd mcd ccd], fun v wQ => ∃ A282, v = .slice A282 2 2 ∧ (Own w.heap.size wQ 31 3 A282 2 2 [.bool nb, .slice Abn mbn cbn, .slice Abd mbd cbd, .bool nc, .slice Acn mcn ccn, .slice Acd mcd ccd]) ∧ (RatsR wQ.heap.size wQ [.bool nb, .slice Abn mbn cbn, .slice Abd mbd cbd, .bool nc, .slice Acn mcn ccn, .slice Acd mcd ccd] [(nb, xbn, xbd), (nc, xcn, xcd)]) ∧ (∀ k, bl A282 = some k → k ≠ ga) ∧ (∀ k, bl A282 = some k → k ≠ gb) ∧ (∀ k, bl A282 = some k → k ≠ gc), fun v wQ => ∃ A288 m289 c290 A291 m292 c293, v = .agg #[.bool (qneg (qb * qc)), .slice A288 m289 c290, .slice A291 m292 c293] ∧ (Own w.heap.size wQ 43 1 A288 m289 c290 (us (digs (qnum (qb * qc))))) ∧ (Own w.heap.size wQ 43 1 A291 m292 c293 (us (digs (Rat.den (qb * qc))))) ∧ (m289 ≤ 53 ∧ m292 ≤ 53) ∧ (∀ k, bl A288 = some k → k ≠ ga) ∧ (∀ k, bl A288 = some k → k ≠ gb) ∧ (∀ k, bl A288 = some k → k ≠ gc) ∧ (∀ k, bl A291 = some k → k ≠ ga) ∧ (∀ k, bl A291 = some k → k ≠ gb) ∧ (∀ k, bl A291 = some k → k ≠ gc), fun v wQ => v = .int .i64 (sg ((qa * qc) - (qb * qc))), fun v wQ => v = .int .i64 (sg (qa - qb)), fun v wQ => v = .agg #[.bool nc, .slice Acn mcn ccn, .slice Acd mcd ccd], fun v wQ => v = .int .i64 (sg (qc))].getD iQ (fun _ _ => True)) Try.mixed (by kernel_rfl) ?_ ?_ ?_
                    · refine Vs_monoT _ ?_
                      intro VQ hVQ vQ wQ1 wQ2 hQ1 hQ2
                      simp only [List.mem_cons, List.not_mem_nil, or_false] at hVQ
                      rcases hVQ with rfl | rfl | rfl | rfl | rfl | rfl | rfl | rfl | rfl | rfl | rfl | rfl
                      · exact hQ1
                      · exact hQ1
                      · obtain ⟨A267, hQe, hO269, hN270, hap_hO269_ga, hap_hO269_gb, hap_hO269_gc⟩ := hQ1
                        exact ⟨A267, hQe, hO269.ext hQ2, (hN270.ext hQ2).norm, hap_hO269_ga, hap_hO269_gb, hap_hO269_gc⟩
                      · obtain ⟨A273, m274, c275, A276, m277, c278, hQe, h3n, h3d, h3m, hap_h3n_ga, hap_h3n_gb, hap_h3n_gc, hap_h3d_ga, hap_h3d_gb, hap_h3d_gc⟩ := hQ1
                        exact ⟨A273, m274, c275, A276, m277, c278, hQe, h3n.ext hQ2, h3d.ext hQ2, h3m, hap_h3n_ga, hap_h3n_gb, hap_h3n_gc, hap_h3d_ga, hap_h3d_gb, hap_h3d_gc⟩
                      · exact hQ1
                      · exact hQ1
                      · obtain ⟨A282, hQe, hO284, hN285, hap_hO284_ga, hap_hO284_gb, hap_hO284_gc⟩ := hQ1
                        exact ⟨A282, hQe, hO284.ext hQ2, (hN285.ext hQ2).norm, hap_hO284_ga, hap_hO284_gb, hap_hO284_gc⟩
                      · obtain ⟨A288, m289, c290, A291, m292, c293, hQe, h4n, h4d, h4m, hap_h4n_ga, hap_h4n_gb, hap_h4n_gc, hap_h4d_ga, hap_h4d_gb, hap_h4d_gc⟩ := hQ1
                        exact ⟨A288, m289, c290, A291, m292, c293, hQe, h4n.ext hQ2, h4d.ext hQ2, h4m, hap_h4n_ga, hap_h4n_gb, hap_h4n_gc, hap_h4d_ga, hap_h4d_gb, hap_h4d_gc⟩
                      · exact hQ1
                      · exact hQ1
                      · exact hQ1
                      · exact hQ1
                    · refine ⟨⟨rfl, ⟨rfl, trivial⟩, ?_⟩, ⟨rfl, ⟨rfl, trivial⟩, ?_⟩, ⟨rfl, trivial, ?_⟩, ⟨rfl, trivial, ?_⟩, ⟨rfl, ⟨rfl, trivial⟩, ?_⟩, ⟨rfl, ⟨rfl, trivial⟩, ?_⟩, ⟨rfl, trivial, ?_⟩, ⟨rfl, trivial, ?_⟩, ⟨rfl, trivial, ?_⟩, ⟨rfl, ⟨rfl, trivial⟩, ?_⟩, ⟨rfl, ⟨rfl, trivial⟩, ?_⟩, ⟨rfl, trivial, ?_⟩, trivial⟩
                      · intro w264 hE
                        have hE := hE rfl
                        have hB := ext_trans hB hE
                        have hVga := hVga.ext hE
                        intro R
                        refine WL.loadV (cs := [.bool na, .slice Aan man can, .slice Aad mad cad]) Try.el31 Try.agg31 rfl rfl hVga.vcells rfl ?_
                        exact WL.done ⟨_, rfl, ext_refl _, rfl⟩
                      · intro w265 hE
                        have hE := hE rfl
                        have hB := ext_trans hB hE
                        have hVgc := hVgc.ext hE
                        intro R
                        refine WL.loadV (cs := [.bool nc, .slice Acn mcn ccn, .slice Acd mcd ccd]) Try.el31 Try.agg31 rfl rfl hVgc.vcells rfl ?_
                        exact WL.done ⟨_, rfl, ext_refl _, rfl⟩
                      · intro w266 hE
                        have hE := hE rfl
                        have hB := ext_trans hB hE
                        have han := han0.ext hB
                        have had := had0.ext hB
                        have hcn := hcn0.ext hB
                        have hcd := hcd0.ext hB
                        have hVga := hVga.ext hE
                        have hVgb := hVgb.ext hE
                        have hVgc := hVgc.ext hE
                        rintro _ rfl
                        rintro _ rfl
                        intro R
                        refine WL.lit (b := w266.heap.size) (cells := [.bool na, .slice Aan man can, .slice Aad mad cad, .bool nc, .slice Acn mcn ccn, .slice Acd mcd ccd]) Try.underlying44 Try.el31 (by decide) ⟨_, rfl, by kernel_rfl⟩ rfl (Nat.le_refl _) rfl ?_
                        rintro A267 w268 - hO269 hGw268
                        have hap_hO269_ga := ap_new hO269 (hVga.bl_ge _ rfl).2
                        have hap_hO269_gb := ap_new hO269 (hVgb.bl_ge _ rfl).2
                        have hap_hO269_gc := ap_new hO269 (hVgc.bl_ge _ rfl).2
                        have hO269 := hO269.low (b' := w.heap.size) hB.size
                        have hB := ext_trans hB hGw268
                        have han := han0.ext hB
                        have had := had0.ext hB
                        have hcn := hcn0.ext hB
                        have hcd := hcd0.ext hB
                        have hN270 : RatsR w268.heap.size w268 [.bool na, .slice Aan man can, .slice Aad mad cad, .bool nc, .slice Acn mcn ccn, .slice Acd mcd ccd] [(na, xan, xad), (nc, xcn, xcd)] := (RatsR.cons han.norm had.norm (RatsR.cons hcn.norm hcd.norm (RatsR.nil _ _)))
                        exact WL.done ⟨_, rfl, hGw268, ⟨A267, rfl, hO269, hN270, hap_hO269_ga, hap_hO269_gb, hap_hO269_gc⟩⟩
                      · intro w271 hE
                        have hE := hE rfl
                        have hB := ext_trans hB hE
                        have hVga := hVga.ext hE
                        have hVgb := hVgb.ext hE
                        have hVgc := hVgc.ext hE
                        rintro _ ⟨A267, rfl, hO269, hN270, hap_hO269_ga, hap_hO269_gb, hap_hO269_gc⟩
                        intro R
                        refine WL.call Try.func34 rfl Try.nm34 rfl rfl (qMul2_c hO269.rd hN270 hLan hLad hLcn hLcd qa hqa qc hqc 12 (by omega) (by omega)) ?_
                        rintro _ w272 ⟨A273, m274, c275, A276, m277, c278, rfl, hGw272, h3n, h3d, h3m⟩
                        have hap_h3n_ga := ap_new h3n (hVga.bl_ge _ rfl).2
                        have hap_h3n_gb := ap_new h3n (hVgb.bl_ge _ rfl).2
                        have hap_h3n_gc := ap_new h3n (hVgc.bl_ge _ rfl).2
                        have hap_h3d_ga := ap_new h3d (hVga.bl_ge _ rfl).2
                        have hap_h3d_gb := ap_new h3d (hVgb.bl_ge _ rfl).2
                        have hap_h3d_gc := ap_new h3d (hVgc.bl_ge _ rfl).2
                        have h3n := h3n.low (b' := w.heap.size) hB.size
                        have h3d := h3d.low (b' := w.heap.size) hB.size
                        have hB := ext_trans hB hGw272
                        have h3n_l := h3n.rd.ulen
                        have h3d_l := h3d.rd.ulen
                        exact WL.done ⟨_, rfl, hGw272, ⟨A273, m274, c275, A276, m277, c278, rfl, h3n, h3d, h3m, hap_h3n_ga, hap_h3n_gb, hap_h3n_gc, hap_h3d_ga, hap_h3d_gb, hap_h3d_gc⟩⟩
                      · intro w279 hE
                        have hE := hE rfl
                        have hB := ext_trans hB hE
                        have hVgb := hVgb.ext hE
                        intro R
                        refine WL.loadV (cs := [.bool nb, .slice Abn mbn cbn, .slice Abd mbd cbd]) Try.el31 Try.agg31 rfl rfl hVgb.vcells rfl ?_
                        exact WL.done ⟨_, rfl, ext_refl _, rfl⟩
                      · intro w280 hE
                        have hE := hE rfl
                        have hB := ext_trans hB hE
                        have hVgc := hVgc.ext hE
                        intro R
                        refine WL.loadV (cs := [.bool nc, .slice Acn mcn ccn, .slice Acd mcd ccd]) Try.el31 Try.agg31 rfl rfl hVgc.vcells rfl ?_
                        exact WL.done ⟨_, rfl, ext_refl _, rfl⟩
                      · intro w281 hE
                        have hE := hE rfl
                        have hB := ext_trans hB hE
                        have hbn := hbn0.ext hB
                        have hbd := hbd0.ext hB
                        have hcn := hcn0.ext hB
                        have hcd := hcd0.ext hB
                        have hVga := hVga.ext hE
                        have hVgb := hVgb.ext hE
                        have hVgc := hVgc.ext hE
                        rintro _ rfl
                        rintro _ rfl
                        intro R
                        refine WL.lit (b := w281.heap.size) (cells := [.bool nb, .slice Abn mbn cbn, .slice Abd mbd cbd, .bool nc, .slice Acn mcn ccn, .slice Acd mcd ccd]) Try.underlying44 Try.el31 (by decide) ⟨_, rfl, by kernel_rfl⟩ rfl (Nat.le_refl _) rfl ?_
                        rintro A282 w283 - hO284 hGw283
                        have hap_hO284_ga := ap_new hO284 (hVga.bl_ge _ rfl).2
                        have hap_hO284_gb := ap_new hO284 (hVgb.bl_ge _ rfl).2
                        have hap_hO284_gc := ap_new hO284 (hVgc.bl_ge _ rfl).2
                        have hO284 := hO284.low (b' := w.heap.size) hB.size
                        have hB := ext_trans hB hGw283
                        have hbn := hbn0.ext hB
                        have hbd := hbd0.ext hB
                        have hcn := hcn0.ext hB
                        have hcd := hcd0.ext hB
                        have hN285 : RatsR w283.heap.size w283 [.bool nb, .slice Abn mbn cbn, .slice Abd mbd cbd, .bool nc, .slice Acn mcn ccn, .slice Acd mcd ccd] [(nb, xbn, xbd), (nc, xcn, xcd)] := (RatsR.cons hbn.norm hbd.norm (RatsR.cons hcn.norm hcd.norm (RatsR.nil _ _)))
                        exact WL.done ⟨_, rfl, hGw283, ⟨A282, rfl, hO284, hN285, hap_hO284_ga, hap_hO284_gb, hap_hO284_gc⟩⟩
                      · intro w286 hE
                        have hE := hE rfl
                        have hB := ext_trans hB hE
                        have hVga := hVga.ext hE
                        have hVgb := hVgb.ext hE
                        have hVgc := hVgc.ext hE
                        rintro _ ⟨A282, rfl, hO284, hN285, hap_hO284_ga, hap_hO284_gb, hap_hO284_gc⟩
                        intro R
                        refine WL.call Try.func34 rfl Try.nm34 rfl rfl (qMul2_c hO284.rd hN285 hLbn hLbd hLcn hLcd qb hqb qc hqc 12 (by omega) (by omega)) ?_
                        rintro _ w287 ⟨A288, m289, c290, A291, m292, c293, rfl, hGw287, h4n, h4d, h4m⟩
                        have hap_h4n_ga := ap_new h4n (hVga.bl_ge _ rfl).2
                        have hap_h4n_gb := ap_new h4n (hVgb.bl_ge _ rfl).2
                        have hap_h4n_gc := ap_new h4n (hVgc.bl_ge _ rfl).2
                        have hap_h4d_ga := ap_new h4d (hVga.bl_ge _ rfl).2
                        have hap_h4d_gb := ap_new h4d (hVgb.bl_ge _ rfl).2
                        have hap_h4d_gc := ap_new h4d (hVgc.bl_ge _ rfl).2
                        have h4n := h4n.low (b' := w.heap.size) hB.size
                        have h4d := h4d.low (b' := w.heap.size) hB.size
                        have hB := ext_trans hB hGw287
                        have h4n_l := h4n.rd.ulen
                        have h4d_l := h4d.rd.ulen
                        exact WL.done ⟨_, rfl, hGw287, ⟨A288, m289, c290, A291, m292, c293, rfl, h4n, h4d, h4m, hap_h4n_ga, hap_h4n_gb, hap_h4n_gc, hap_h4d_ga, hap_h4d_gb, hap_h4d_gc⟩⟩
                      · intro w294 hE
                        have hE := hE rfl
                        have hB := ext_trans hB hE
                        rintro _ ⟨A273, m274, c275, A276, m277, c278, rfl, h3n, h3d, h3m, hap_h3n_ga, hap_h3n_gb, hap_h3n_gc, hap_h3d_ga, hap_h3d_gb, hap_h3d_gc⟩
                        rintro _ ⟨A288, m289, c290, A291, m292, c293, rfl, h4n, h4d, h4m, hap_h4n_ga, hap_h4n_gb, hap_h4n_gc, hap_h4d_ga, hap_h4d_gb, hap_h4d_gc⟩
                        intro R
                        refine WL.call Try.func39 rfl Try.nm39 rfl rfl (qCmp_c h3n.rd h3d.rd h4n.rd h4d.rd (digs_lim _) (digs_lim _) (qa * qc) (val_canon _) (digs_lim _) (digs_lim _) (qb * qc) (val_canon _) (by omega) (by omega)) ?_
                        rintro _ w295 ⟨rfl, hGw295⟩
                        have hB := ext_trans hB hGw295
                        exact WL.done ⟨_, rfl, hGw295, rfl⟩
                      · intro w296 hE
                        intro R
                        refine WL.move rfl rfl ?_
                        exact WL.done ⟨_, rfl, rfl, rfl⟩
                      · intro w297 hE
                        have hE := hE rfl
                        have hB := ext_trans hB hE
                        have hVgc := hVgc.ext hE
                        intro R
                        refine WL.loadV (cs := [.bool nc, .slice Acn mcn ccn, .slice Acd mcd ccd]) Try.el31 Try.agg31 rfl rfl hVgc.vcells rfl ?_
                        exact WL.done ⟨_, rfl, ext_refl _, rfl⟩
                      · intro w298 hE
                        have hE := hE rfl
                        have hB := ext_trans hB hE
                        have hcn := hcn0.ext hB
                        have hcd := hcd0.ext hB
                        rintro _ rfl
                        intro R
                        refine WL.call Try.func23 rfl Try.nm23 rfl rfl (qSign_c hcn hcd hLcn hLcd qc hqc (by omega)) ?_
                        rintro _ w299 ⟨rfl, hGw299⟩
                        have hB := ext_trans hB hGw299
                        exact WL.done ⟨_, rfl, hGw299, rfl⟩
                    · intro vals w300 hT hVs
                      have hB := ext_trans hB hT
                      have hv0 : vals 0 = _ := hVs 0 (by decide)
                      have hv1 : vals 1 = _ := hVs 1 (by decide)
                      obtain ⟨A267, hv2, hO269, hN270, hap_hO269_ga, hap_hO269_gb, hap_hO269_gc⟩ := hVs 2 (by decide)
                      obtain ⟨A273, m274, c275, A276, m277, c278, hv3, h3n, h3d, h3m, hap_h3n_ga, hap_h3n_gb, hap_h3n_gc, hap_h3d_ga, hap_h3d_gb, hap_h3d_gc⟩ := hVs 3 (by decide)
                      have hv4 : vals 4 = _ := hVs 4 (by decide)
                      have hv5 : vals 5 = _ := hVs 5 (by decide)
                      obtain ⟨A282, hv6, hO284, hN285, hap_hO284_ga, hap_hO284_gb, hap_hO284_gc⟩ := hVs 6 (by decide)
                      obtain ⟨A288, m289, c290, A291, m292, c293, hv7, h4n, h4d, h4m, hap_h4n_ga, hap_h4n_gb, hap_h4n_gc, hap_h4d_ga, hap_h4d_gb, hap_h4d_gc⟩ := hVs 7 (by decide)
                      have hv8 : vals 8 = _ := hVs 8 (by decide)
                      have hv9 : vals 9 = _ := hVs 9 (by decide)
                      have hv10 : vals 10 = _ := hVs 10 (by decide)
                      have hv11 : vals 11 = _ := hVs 11 (by decide)
                      rw [show (List.filterMap (fun i => Option.map (fun t => (t, vals i)) (dstAt _ i)) (List.range _)) = [(71, .agg #[.bool na, .slice Aan man can, .slice Aad mad cad]), (72, .agg #[.bool nc, .slice Acn mcn ccn, .slice Acd mcd ccd]), (73, .slice A267 2 2), (74, .agg #[.bool (qneg (qa * qc)), .slice A273 m274 c275, .slice A276 m277 c278]), (75, .agg #[.bool nb, .slice Abn mbn cbn, .slice Abd mbd cbd]), (76, .agg #[.bool nc, .slice Acn mcn ccn, .slice Acd mcd ccd]), (77, .slice A282 2 2), (78, .agg #[.bool (qneg (qb * qc)), .slice A288 m289 c290, .slice A291 m292 c293]), (79, .int .i64 (sg ((qa * qc) - (qb * qc)))), (80, .int .i64 (sg (qa - qb))), (81, .agg #[.bool nc, .slice Acn mcn ccn, .slice Acd mcd ccd]), (82, .int .i64 (sg (qc)))] from by
                        show [(71, vals 0), (72, vals 1), (73, vals 2), (74, vals 3), (75, vals 4), (76, vals 5), (77, vals 6), (78, vals 7), (79, vals 8), (80, vals 9), (81, vals 10), (82, vals 11)] = _
                        rw [hv0, hv1, hv2, hv3, hv4, hv5, hv6, hv7, hv8, hv9, hv10, hv11]]
                      refine WA.step [12] (by decide +kernel) rfl ?_
                      intro iQ hQ
                      simp only [List.mem_cons, List.not_mem_nil, or_false] at hQ
                      obtain rfl := hQ
                      · refine ⟨_, rfl, ?_⟩
                        refine WL.mul (r := (sg ((qa * qc) - (qb * qc)))) rfl rfl (by rw [← cmp_mul]; have h8 := sg_range (qa * qc - qb * qc); rw [← cmp_mul] at h8; exact wi64 (by omega) (by omega) rfl) rfl ?_
                        refine WL.done ?_
                        refine WA.step [13] (by decide +kernel) rfl ?_
                        intro iQ hQ
                        simp only [List.mem_cons, List.not_mem_nil, or_false] at hQ
                        obtain rfl := hQ
                        · refine ⟨_, rfl, ?_⟩
                          refine WL.eql rfl rfl rfl (fun c301 => ?_) (fun c301 => ?_)
                          · refine WL.done ?_
                            refine WA.step [14] (by decide +kernel) rfl ?_
                            intro iQ hQ
                            simp only [List.mem_cons, List.not_mem_nil, or_false] at hQ
                            obtain rfl := hQ
                            · refine ⟨_, rfl, ?_⟩
                              refine WL.assign rfl rfl ?_
                              refine WL.done ?_
                              refine WA.done (by decide +kernel) ?_
                              refine W.ret ?_
                              refine ⟨_, rfl, ?_⟩
                              exact ⟨rfl, hB⟩
                          · exfalso
                            exact c301 rfl
  · have hlo := hlo_t rfl
    refine WL.done ?_
    refine W.condT rfl ?_
    refine W.seq ?_
    refine W.region ?_
    refine WL.assign rfl rfl ?_
    refine WL.done ?_
    refine W.ret ?_
    refine ⟨_, rfl, ?_⟩
    exact ⟨rfl, hB⟩
end Go.Proofs.Ythfpcebcfjlkmab
