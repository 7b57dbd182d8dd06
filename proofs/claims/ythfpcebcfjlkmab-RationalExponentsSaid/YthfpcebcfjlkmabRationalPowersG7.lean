/- Contracts of functions of the program, and what they lean on: W31. -/
import Derived.Test.YthfpcebcfjlkmabRationalPowersG6
set_option linter.unusedSimpArgs false
set_option linter.unusedVariables false
namespace Go.Proofs.Ythfpcebcfjlkmab
open Go.RowKit
theorem count_c {w : World} {X : Int} (hX : -9223372036854775808 ≤ X ∧ X ≤ 9223372036854775807) :
    Calls Try.prog 74 #[.int .i64 X] w fun e w2 => ∃ v, e = .returned v ∧ (fun v w2 => v = .int .i64 ((cntZ X : Nat) : Int) ∧ w.grownBy w2 none) v w2 := by
  have hB := ext_refl w
  refine calls_of_W (vs := [.int .i64 X]) [2] Try.func74 rfl rfl rfl rfl ?_
  refine W.seq ?_
  refine W.region ?_
  refine WL.assign rfl rfl ?_
  refine WL.done ?_
  refine W.seq ?_
  refine W.seq ?_
  refine W.region ?_
  refine WL.move rfl rfl ?_
  refine WL.eql rfl rfl rfl (fun c11 => ?_) (fun c11 => ?_)
  · refine WL.done ?_
    refine W.condT rfl ?_
    refine W.seq ?_
    refine W.region ?_
    refine WL.assign rfl rfl ?_
    refine WL.done ?_
    refine W.ret ?_
    refine ⟨_, rfl, ?_⟩
    exact ⟨by congr 1; unfold cntZ; split <;> omega, hB⟩
  · refine WL.done ?_
    refine W.condF rfl ?_
    refine W.skip ?_
    refine W.seq ?_
    refine W.region ?_
    refine WL.move rfl rfl ?_
    refine WL.move rfl rfl ?_
    refine WL.neg (r := (-X)) rfl (wi64 (by omega) (by omega) (by omega)) rfl ?_
    refine WL.max2 (r := ((X.natAbs : Nat) : Int)) rfl rfl (by omega) rfl ?_
    refine WL.assign rfl rfl ?_
    refine WL.done ?_
    refine W.ret ?_
    refine ⟨_, rfl, ?_⟩
    exact ⟨by congr 1; unfold cntZ; split <;> omega, hB⟩

theorem PowD_ok {w : World} {Ba : Nat} {Aa : Option Addr} {ma ca : Nat} {xa : List Nat} (ha : Rd Ba w 1 Aa ma ca (us xa)) (hLa : Lim xa) (u : Nat) (hu : nv xa = u) (n : Nat) {X : Int} (hX : X = n) (hn : n < 9223372036854775808) (hs : ma ≤ 1048576) (hbig : u ^ n < bigN) : Calls Try.prog 73 #[.slice Aa ma ca, .int .i64 X] w fun e w2 => ∃ v, e = .returned v ∧ (fun v w2 => ∃ A2 m2 c2, v = .tuple #[.slice A2 m2 c2, .int .i64 0] ∧ w.grownBy w2 none ∧ Own w.heap.size w2 43 1 A2 m2 c2 (us (digs (u ^ n))) ∧ m2 ≤ 4096) v w2 := by
  subst hu; exact Pow_ok ha hLa n hX hn hs hbig
theorem PowD_err {w : World} {Ba : Nat} {Aa : Option Addr} {ma ca : Nat} {xa : List Nat} (ha : Rd Ba w 1 Aa ma ca (us xa)) (hLa : Lim xa) (u : Nat) (hu : nv xa = u) (n : Nat) {X : Int} (hX : X = n) (hn : n < 9223372036854775808) (hs : ma ≤ 1048576) (hbig : ¬ u ^ n < bigN) : Calls Try.prog 73 #[.slice Aa ma ca, .int .i64 X] w fun e w2 => ∃ v, e = .returned v ∧ (fun v w2 => v = .tuple #[.slice none 0 0, .int .i64 8] ∧ w.grownBy w2 none) v w2 := by
  subst hu; exact Pow_err ha hLa n hX hn hs (by omega)

theorem rPowD_ok {w : World} {Ba : Nat} {Aa : Option Addr} {ma ca : Nat} {xa : List Nat} (ha : Rd Ba w 1 Aa ma ca (us xa)) (hLa : Lim xa) (u : Nat) (hu : nv xa = u) (n : Nat) {X : Int} (hX : X = n) (hn : n < 9223372036854775808) (hs : ma ≤ 1048576) (hbig : u ^ n < bigN) : Calls Try.prog 76 #[.slice Aa ma ca, .int .i64 X] w fun e w2 => ∃ v, e = .returned v ∧ (fun v w2 => ∃ A2 m2 c2, v = .tuple #[.slice A2 m2 c2, .int .i64 0] ∧ w.grownBy w2 none ∧ Own w.heap.size w2 43 1 A2 m2 c2 (us (digs (u ^ n))) ∧ m2 ≤ 4096) v w2 := by
  subst hu; exact rPow_ok ha hLa n hX hn hs hbig
theorem rPowD_err {w : World} {Ba : Nat} {Aa : Option Addr} {ma ca : Nat} {xa : List Nat} (ha : Rd Ba w 1 Aa ma ca (us xa)) (hLa : Lim xa) (u : Nat) (hu : nv xa = u) (n : Nat) {X : Int} (hX : X = n) (hn : n < 9223372036854775808) (hs : ma ≤ 1048576) (hbig : ¬ u ^ n < bigN) : Calls Try.prog 76 #[.slice Aa ma ca, .int .i64 X] w fun e w2 => ∃ v, e = .returned v ∧ (fun v w2 => v = .tuple #[.slice none 0 0, .int .i64 8] ∧ w.grownBy w2 none) v w2 := by
  subst hu; exact rPow_err ha hLa n hX hn hs (by omega)

theorem rqInv_c {w : World} {Ban : Nat} {Aan : Option Addr} {man can : Nat} {xan : List Nat} (han : Rd Ban w 1 Aan man can (us xan)) {Bad : Nat} {Aad : Option Addr} {mad cad : Nat} {xad : List Nat} (had : Rd Bad w 1 Aad mad cad (us xad)) {na : Bool} (hLan : Lim xan) (hLad : Lim xad) (qa : Rat) (hqa : val na (nv xan) (nv xad) = qa) (hsa : man ≤ 4194304 ∧ mad ≤ 4194304) :
    Calls Try.prog 75 #[.agg #[.bool na, .slice Aan man can, .slice Aad mad cad]] w fun e w2 => ∃ v, e = .returned v ∧ (fun v w2 => ∃ A2 m2 c2 A3 m3 c3, v = .agg #[.bool (qneg qa), .slice A2 m2 c2, .slice A3 m3 c3] ∧ w.grownBy w2 none ∧ Own w.heap.size w2 43 1 A2 m2 c2 (us (digs qa.den)) ∧ Own w.heap.size w2 43 1 A3 m3 c3 (us (digs (qnum qa))) ∧ m2 ≤ mad + 1 ∧ m3 ≤ man) v w2 := by
  have han := han.norm
  have han_l := han.ulen
  have han_x := han.max
  simp only [maxLen] at han_x
  have han_c := han.cap
  have had := had.norm
  have had_l := had.ulen
  have had_x := had.max
  simp only [maxLen] at had_x
  have had_c := had.cap
  have han0 := han
  have had0 := had
  have hB := ext_refl w
  refine calls_of_Wc (vs := [.agg #[.bool na, .slice Aan man can, .slice Aad mad cad]]) [.cell 2 31] Try.func75 rfl rfl rfl rfl ?_
  refine W.seq ?_
  refine W.region ?_
  refine WL.box Try.el31 rfl rfl rfl ?_
  intro g11 w12 hg_g11 hVg11 hGw12
  change Own _ _ _ _ _ _ _ [.bool na, .slice Aan man can, .slice Aad mad cad] at hVg11
  have hVg11 := hVg11.low (b' := w.heap.size) hB.size
  have hB := ext_trans hB hGw12
  have han := han0.ext hB
  have had := had0.ext hB
  refine WL.alloc Try.el31 rfl ?_
  intro g13 w14 hg_g13 hVg13 hGw14
  change Own _ _ _ _ _ _ _ [.bool false, .slice none 0 0, .slice none 0 0] at hVg13
  have hlt_g11_g13 : g11 < g13 := by rw [hg_g13]; exact (hVg11.bl_ge _ rfl).2
  have hVg13 := hVg13.low (b' := w.heap.size) hB.size
  have hB := ext_trans hB hGw14
  have han := han0.ext hB
  have had := had0.ext hB
  have hVg11 := hVg11.ext hGw14
  refine WL.done ?_
  refine W.seq ?_
  refine W.region ?_
  refine WL.loadV (cs := [.bool na, .slice Aan man can, .slice Aad mad cad]) Try.el31 Try.agg31 rfl rfl hVg11.vcells rfl ?_
  refine WL.call Try.func20 rfl Try.nm20 rfl rfl (rqTrim_c han had hLan hLad qa hqa (by omega)) ?_
  rintro _ w15 ⟨A16, m17, c18, A19, m20, c21, rfl, hGw15, htn, htd, htm⟩
  have hap_htn_g11 := ap_new htn (hVg11.bl_ge _ rfl).2
  have hap_htn_g13 := ap_new htn (hVg13.bl_ge _ rfl).2
  have hap_htd_g11 := ap_new htd (hVg11.bl_ge _ rfl).2
  have hap_htd_g13 := ap_new htd (hVg13.bl_ge _ rfl).2
  have htn := htn.low (b' := w.heap.size) hB.size
  have htd := htd.low (b' := w.heap.size) hB.size
  have hB := ext_trans hB hGw15
  have hVg11 := hVg11.ext hGw15
  have hVg13 := hVg13.ext hGw15
  have htn_l := htn.rd.ulen
  have htd_l := htd.rd.ulen
  refine WL.storeV Try.el31 rfl rfl rfl rfl hVg11 ?_
  have hOld23 := hVg11
  intro w22 hVg11 hGw22
  change Own _ _ _ _ _ _ _ [.bool (qneg (qa)), .slice A16 m17 c18, .slice A19 m20 c21] at hVg11
  have hB := ext_own hB hGw22 (fun g hg => (hOld23.bl_ge g hg).1)
  have hVg13 := hVg13.grown hGw22 (apart (by omega))
  have htn := htn.grown hGw22 (ap_row (by first | exact hap_htn_g11 | exact ap_type htn hOld23 (by decide)))
  have htd := htd.grown hGw22 (ap_row (by first | exact hap_htd_g11 | exact ap_type htd hOld23 (by decide)))
  refine WL.done ?_
  refine W.seq ?_
  refine W.region ?_
  refine WL.fieldA (off := 0) Try.fla31_0 rfl rfl ?_
  refine WL.load Try.underlying4 rfl rfl (hVg11.vcells 0 _ rfl) rfl ?_
  refine WL.fieldA (off := 2) Try.fla31_2 rfl rfl ?_
  refine WL.load Try.underlying23 rfl rfl (hVg11.vcells 2 _ rfl) rfl ?_
  refine WL.fieldA (off := 1) Try.fla31_1 rfl rfl ?_
  refine WL.load Try.underlying23 rfl rfl (hVg11.vcells 1 _ rfl) rfl ?_
  refine WL.build (cells := #[.bool (qneg (qa)), .slice A19 m20 c21, .slice A16 m17 c18]) Try.bld31 rfl rfl rfl ?_
  refine WL.storeV Try.el31 rfl rfl rfl rfl hVg13 ?_
  have hOld25 := hVg13
  intro w24 hVg13 hGw24
  change Own _ _ _ _ _ _ _ [.bool (qneg (qa)), .slice A19 m20 c21, .slice A16 m17 c18] at hVg13
  have hB := ext_own hB hGw24 (fun g hg => (hOld25.bl_ge g hg).1)
  have htn := htn.grown hGw24 (ap_row (by first | exact hap_htn_g13 | exact ap_type htn hOld25 (by decide)))
  have htd := htd.grown hGw24 (ap_row (by first | exact hap_htd_g13 | exact ap_type htd hOld25 (by decide)))
  refine WL.done ?_
  refine W.ret ?_
  refine ⟨[.agg #[.bool (qneg (qa)), .slice A19 m20 c21, .slice A16 m17 c18]], ⟨_, _, _, rfl, rfl, run_loadV (cs := [.bool (qneg (qa)), .slice A19 m20 c21, .slice A16 m17 c18]) Try.el31 Try.agg31 rfl hVg13.vcells, rfl⟩, ?_⟩
  exact ⟨_, _, _, _, _, _, rfl, hB, htd, htn, by omega⟩

set_option maxHeartbeats 1000000 in
theorem qPow_p_okok {w : World} {Ban : Nat} {Aan : Option Addr} {man can : Nat} {xan : List Nat} (han : Rd Ban w 1 Aan man can (us xan)) {Bad : Nat} {Aad : Option Addr} {mad cad : Nat} {xad : List Nat} (had : Rd Bad w 1 Aad mad cad (us xad)) {na : Bool} (hLan : Lim xan) (hLad : Lim xad) (qa : Rat) (hqa : val na (nv xan) (nv xad) = qa) (hsa : man ≤ 4194304 ∧ mad ≤ 4194304) {X : Int} (hX : -9223372036854775808 ≤ X ∧ X ≤ 9223372036854775807) (hsm : man ≤ 1000 ∧ mad ≤ 1000) (hsg : 0 ≤ X) (h1 : (qnum qa) ^ X.natAbs < bigN) (h2 : (qa.den) ^ X.natAbs < bigN) :
    Calls Try.prog 40 #[.agg #[.bool na, .slice Aan man can, .slice Aad mad cad], .int .i64 X] w fun e w2 => ∃ v, e = .returned v ∧ (fun v w2 => ∃ A2 m2 c2 A3 m3 c3, v = .tuple #[.agg #[.bool (qneg (qa ^ X)), .slice A2 m2 c2, .slice A3 m3 c3], .int .i64 0] ∧ w.grownBy w2 none ∧ Own w.heap.size w2 43 1 A2 m2 c2 (us (digs (qnum (qa ^ X)))) ∧ Own w.heap.size w2 43 1 A3 m3 c3 (us (digs (Rat.den (qa ^ X)))) ∧ m2 ≤ 4096 ∧ m3 ≤ 4096) v w2 := by
  have han := han.norm
  have han_l := han.ulen
  have han_x := han.max
  simp only [maxLen] at han_x
  have han_c := han.cap
  have had := had.norm
  have had_l := had.ulen
  have had_x := had.max
  simp only [maxLen] at had_x
  have had_c := had.cap
  have han0 := han
  have had0 := had
  obtain ⟨zp1, zp2, zp3⟩ := zp_pos (q := qa) hsg
  have hcl := cntZ_lt hX
  obtain ⟨pu1, pu2⟩ := powcap (x := qnum qa) (cntZ_cap X)
  obtain ⟨pv1, pv2⟩ := powcap (x := qa.den) (cntZ_cap X)
  have ht2 := tm2 X
  have k1 := pu1.2 h1
  have e1 := pu2 h1
  have k2 := pv1.2 h2
  have e2 := pv2 h2
  have hB := ext_refl w
  refine calls_of_Wc (vs := [.agg #[.bool na, .slice Aan man can, .slice Aad mad cad], .int .i64 X]) [.cell 4 31, .tmp 5] Try.func40 rfl rfl rfl rfl ?_
  refine W.seq ?_
  refine W.region ?_
  refine WL.box Try.el31 rfl rfl rfl ?_
  intro g11 w12 hg_g11 hVg11 hGw12
  change Own _ _ _ _ _ _ _ [.bool na, .slice Aan man can, .slice Aad mad cad] at hVg11
  have hVg11 := hVg11.low (b' := w.heap.size) hB.size
  have hB := ext_trans hB hGw12
  have han := han0.ext hB
  have had := had0.ext hB
  refine WL.alloc Try.el31 rfl ?_
  intro g13 w14 hg_g13 hVg13 hGw14
  change Own _ _ _ _ _ _ _ [.bool false, .slice none 0 0, .slice none 0 0] at hVg13
  have hlt_g11_g13 : g11 < g13 := by rw [hg_g13]; exact (hVg11.bl_ge _ rfl).2
  have hVg13 := hVg13.low (b' := w.heap.size) hB.size
  have hB := ext_trans hB hGw14
  have han := han0.ext hB
  have had := had0.ext hB
  have hVg11 := hVg11.ext hGw14
  refine WL.assign rfl rfl ?_
  refine WL.done ?_
  refine W.seq ?_
  refine W.region ?_
  refine WL.loadV (cs := [.bool na, .slice Aan man can, .slice Aad mad cad]) Try.el31 Try.agg31 rfl rfl hVg11.vcells rfl ?_
  refine WL.call Try.func19 rfl Try.nm19 rfl rfl (qTrim_c han had hLan hLad qa hqa (by omega)) ?_
  rintro _ w15 ⟨A16, m17, c18, A19, m20, c21, rfl, hGw15, htn, htd, htm⟩
  have hap_htn_g11 := ap_new htn (hVg11.bl_ge _ rfl).2
  have hap_htd_g11 := ap_new htd (hVg11.bl_ge _ rfl).2
  have htn := htn.low (b' := w.heap.size) hB.size
  have htd := htd.low (b' := w.heap.size) hB.size
  have hB := ext_trans hB hGw15
  have hVg11 := hVg11.ext hGw15
  have hVg13 := hVg13.ext hGw15
  have htn_l := htn.rd.ulen
  have htd_l := htd.rd.ulen
  refine WL.storeV Try.el31 rfl rfl rfl rfl hVg11 ?_
  have hOld23 := hVg11
  intro w22 hVg11 hGw22
  change Own _ _ _ _ _ _ _ [.bool (qneg (qa)), .slice A16 m17 c18, .slice A19 m20 c21] at hVg11
  have hB := ext_own hB hGw22 (fun g hg => (hOld23.bl_ge g hg).1)
  have hVg13 := hVg13.grown hGw22 (apart (by omega))
  have htn := htn.grown hGw22 (ap_row (by first | exact hap_htn_g11 | exact ap_type htn hOld23 (by decide)))
  have htd := htd.grown hGw22 (ap_row (by first | exact hap_htd_g11 | exact ap_type htd hOld23 (by decide)))
  refine WL.done ?_
  refine W.seq ?_
  refine W.seq ?_
  refine W.region ?_
  refine WL.move rfl rfl ?_
  refine WL.lss rfl rfl rfl (fun c24 => ?_) (fun c24 => ?_)
  · exfalso
    omega
  · refine WL.done ?_
    refine W.condF rfl ?_
    refine W.skip ?_
    refine W.seq ?_
    refine W.drawT 9 [⟨[], [2], true⟩, ⟨[0], [], false⟩, ⟨[], [1], true⟩, ⟨[2], [], false⟩, ⟨[1, 3], [], false⟩, ⟨[4], [], true⟩, ⟨[5], [], true⟩, ⟨[5], [], true⟩, ⟨[6], [], true⟩] [[(2, .pointer (some ⟨g11, 0, none⟩))], [], [(1, .int .i64 X)], [], [], [], [], [], []] (fun iQ => [fun v wQ => v = .pointer (some ((⟨g11, 0, none⟩ : Addr).add 1)), fun v wQ => v = .slice A16 m17 c18, fun v wQ => v = .int .i64 X, fun v wQ => v = .int .i64 ((cntZ X : Nat) : Int), fun v wQ => ∃ A32 m33 cp34, v = .tuple #[.slice A32 m33 cp34, .int .i64 (0 : Int)] ∧ (Own w.heap.size wQ 43 1 A32 m33 cp34 (us (digs ((qnum qa) ^ (cntZ X))))) ∧ (m33 ≤ 4096) ∧ (∀ k, bl A32 = some k → k ≠ g11) ∧ (∀ k, bl A32 = some k → k ≠ g13), fun v wQ => ∃ A32_5 m33_5 cp34_5, v = .tuple #[.slice A32_5 m33_5 cp34_5, .int .i64 (0 : Int)] ∧ (Own w.heap.size wQ 43 1 A32_5 m33_5 cp34_5 (us (digs ((qnum qa) ^ (cntZ X))))) ∧ (m33_5 ≤ 4096) ∧ (∀ k, bl A32_5 = some k → k ≠ g11) ∧ (∀ k, bl A32_5 = some k → k ≠ g13), fun v wQ => ∃ A32_5_6 m33_5_6 cp34_5_6, v = .slice A32_5_6 m33_5_6 cp34_5_6 ∧ (Own w.heap.size wQ 43 1 A32_5_6 m33_5_6 cp34_5_6 (us (digs ((qnum qa) ^ (cntZ X))))) ∧ (m33_5_6 ≤ 4096) ∧ (∀ k, bl A32_5_6 = some k → k ≠ g11) ∧ (∀ k, bl A32_5_6 = some k → k ≠ g13), fun v wQ => v = .int .i64 (0 : Int), fun v wQ => ∃ A32_5_6_8 m33_5_6_8 cp34_5_6_8, v = .slice A32_5_6_8 m33_5_6_8 cp34_5_6_8 ∧ (Own w.heap.size wQ 43 1 A32_5_6_8 m33_5_6_8 cp34_5_6_8 (us (digs ((qnum qa) ^ (cntZ X))))) ∧ (m33_5_6_8 ≤ 4096) ∧ (∀ k, bl A32_5_6_8 = some k → k ≠ g11) ∧ (∀ k, bl A32_5_6_8 = some k → k ≠ g13)].getD iQ (fun _ _ => True)) Try.mixed (by kernel_rfl) ?_ ?_ ?_
    · refine Vs_monoT _ ?_
      intro VQ hVQ vQ wQ1 wQ2 hQ1 hQ2
      simp only [List.mem_cons, List.not_mem_nil, or_false] at hVQ
      rcases hVQ with rfl | rfl | rfl | rfl | rfl | rfl | rfl | rfl | rfl
      · exact hQ1
      · exact hQ1
      · exact hQ1
      · exact hQ1
      · obtain ⟨A32, m33, cp34, hQe, hu, hum, hap_hu_g11, hap_hu_g13⟩ := hQ1
        exact ⟨A32, m33, cp34, hQe, hu.ext hQ2, hum, hap_hu_g11, hap_hu_g13⟩
      · obtain ⟨A32_5, m33_5, cp34_5, hQe, hu_5, hum_5, hap_hu_g11_5, hap_hu_g13_5⟩ := hQ1
        exact ⟨A32_5, m33_5, cp34_5, hQe, hu_5.ext hQ2, hum_5, hap_hu_g11_5, hap_hu_g13_5⟩
      · obtain ⟨A32_5_6, m33_5_6, cp34_5_6, hQe, hu_5_6, hum_5_6, hap_hu_g11_5_6, hap_hu_g13_5_6⟩ := hQ1
        exact ⟨A32_5_6, m33_5_6, cp34_5_6, hQe, hu_5_6.ext hQ2, hum_5_6, hap_hu_g11_5_6, hap_hu_g13_5_6⟩
      · exact hQ1
      · obtain ⟨A32_5_6_8, m33_5_6_8, cp34_5_6_8, hQe, hu_5_6_8, hum_5_6_8, hap_hu_g11_5_6_8, hap_hu_g13_5_6_8⟩ := hQ1
        exact ⟨A32_5_6_8, m33_5_6_8, cp34_5_6_8, hQe, hu_5_6_8.ext hQ2, hum_5_6_8, hap_hu_g11_5_6_8, hap_hu_g13_5_6_8⟩
    · refine ⟨⟨rfl, ⟨rfl, trivial⟩, ?_⟩, ⟨rfl, trivial, ?_⟩, ⟨rfl, ⟨rfl, trivial⟩, ?_⟩, ⟨rfl, trivial, ?_⟩, ⟨rfl, trivial, ?_⟩, ⟨rfl, trivial, ?_⟩, ⟨rfl, trivial, ?_⟩, ⟨rfl, trivial, ?_⟩, ⟨rfl, trivial, ?_⟩, trivial⟩
      · intro w25 hE
        intro R
        refine WL.fieldA (off := 1) Try.fla31_1 rfl rfl ?_
        exact WL.done ⟨_, rfl, rfl, rfl⟩
      · intro w26 hE
        have hE := hE rfl
        have hB := ext_trans hB hE
        have hVg11 := hVg11.ext hE
        rintro _ rfl
        intro R
        refine WL.load Try.underlying23 rfl rfl (hVg11.vcells 1 _ rfl) rfl ?_
        exact WL.done ⟨_, rfl, ext_refl _, rfl⟩
      · intro w27 hE
        intro R
        refine WL.move rfl rfl ?_
        exact WL.done ⟨_, rfl, rfl, rfl⟩
      · intro w28 hE
        have hE := hE rfl
        have hB := ext_trans hB hE
        rintro _ rfl
        intro R
        refine WL.call Try.func74 rfl Try.nm74 rfl rfl (count_c (by omega)) ?_
        rintro _ w29 ⟨rfl, hGw29⟩
        have hB := ext_trans hB hGw29
        exact WL.done ⟨_, rfl, hGw29, rfl⟩
      · intro w30 hE
        have hE := hE rfl
        have hB := ext_trans hB hE
        have hVg13 := hVg13.ext hE
        have htn := htn.ext hE
        have hVg11 := hVg11.ext hE
        rintro _ rfl
        rintro _ rfl
        intro R
        refine WL.call Try.func73 rfl Try.nm73 rfl rfl (PowD_ok htn.rd (digs_lim _) (qnum qa) (nv_digs _) (cntZ X) (by omega) (by omega) (by omega) k1) ?_
        rintro _ w31 ⟨A32, m33, cp34, rfl, hGw31, hu, hum⟩
        have hap_hu_g11 := ap_new hu (hVg11.bl_ge _ rfl).2
        have hap_hu_g13 := ap_new hu (hVg13.bl_ge _ rfl).2
        have hu := hu.low (b' := w.heap.size) hB.size
        have hB := ext_trans hB hGw31
        have hu_l := hu.rd.ulen
        exact WL.done ⟨_, rfl, hGw31, ⟨A32, m33, cp34, rfl, hu, hum, hap_hu_g11, hap_hu_g13⟩⟩
      · intro w35 hE
        rintro _ ⟨A32, m33, cp34, rfl, hu, hum, hap_hu_g11, hap_hu_g13⟩
        intro R
        refine WL.move rfl rfl ?_
        exact WL.done ⟨_, rfl, rfl, ⟨A32, m33, cp34, rfl, hu, hum, hap_hu_g11, hap_hu_g13⟩⟩
      · intro w36 hE
        rintro _ ⟨A32_5, m33_5, cp34_5, rfl, hu_5, hum_5, hap_hu_g11_5, hap_hu_g13_5⟩
        intro R
        refine WL.extract rfl rfl rfl ?_
        exact WL.done ⟨_, rfl, rfl, ⟨A32_5, m33_5, cp34_5, rfl, hu_5, hum_5, hap_hu_g11_5, hap_hu_g13_5⟩⟩
      · intro w37 hE
        rintro _ ⟨A32_5, m33_5, cp34_5, rfl, hu_5, hum_5, hap_hu_g11_5, hap_hu_g13_5⟩
        intro R
        refine WL.extract rfl rfl rfl ?_
        exact WL.done ⟨_, rfl, rfl, rfl⟩
      · intro w38 hE
        rintro _ ⟨A32_5_6, m33_5_6, cp34_5_6, rfl, hu_5_6, hum_5_6, hap_hu_g11_5_6, hap_hu_g13_5_6⟩
        intro R
        refine WL.assign rfl rfl ?_
        exact WL.done ⟨_, rfl, rfl, ⟨A32_5_6, m33_5_6, cp34_5_6, rfl, hu_5_6, hum_5_6, hap_hu_g11_5_6, hap_hu_g13_5_6⟩⟩
    · intro vals w39 hT hVs
      have hB := ext_trans hB hT
      have hVg13 := hVg13.ext hT
      have htd := htd.ext hT
      have hVg11 := hVg11.ext hT
      have hv0 : vals 0 = _ := hVs 0 (by decide)
      have hv1 : vals 1 = _ := hVs 1 (by decide)
      have hv2 : vals 2 = _ := hVs 2 (by decide)
      have hv3 : vals 3 = _ := hVs 3 (by decide)
      obtain ⟨A32, m33, cp34, hv4, hu, hum, hap_hu_g11, hap_hu_g13⟩ := hVs 4 (by decide)
      obtain ⟨A32_5, m33_5, cp34_5, hv5, hu_5, hum_5, hap_hu_g11_5, hap_hu_g13_5⟩ := hVs 5 (by decide)
      obtain ⟨A32_5_6, m33_5_6, cp34_5_6, hv6, hu_5_6, hum_5_6, hap_hu_g11_5_6, hap_hu_g13_5_6⟩ := hVs 6 (by decide)
      have hv7 : vals 7 = _ := hVs 7 (by decide)
      obtain ⟨A32_5_6_8, m33_5_6_8, cp34_5_6_8, hv8, hu_5_6_8, hum_5_6_8, hap_hu_g11_5_6_8, hap_hu_g13_5_6_8⟩ := hVs 8 (by decide)
      rw [show (List.filterMap (fun i => Option.map (fun t => (t, vals i)) (dstAt _ i)) (List.range _)) = [(23, .pointer (some ((⟨g11, 0, none⟩ : Addr).add 1))), (24, .slice A16 m17 c18), (25, .int .i64 X), (26, .int .i64 ((cntZ X : Nat) : Int)), (27, .tuple #[.slice A32 m33 cp34, .int .i64 (0 : Int)]), (22, .tuple #[.slice A32_5 m33_5 cp34_5, .int .i64 (0 : Int)]), (28, .slice A32_5_6 m33_5_6 cp34_5_6), (29, .int .i64 (0 : Int)), (6, .slice A32_5_6_8 m33_5_6_8 cp34_5_6_8)] from by
        show [(23, vals 0), (24, vals 1), (25, vals 2), (26, vals 3), (27, vals 4), (22, vals 5), (28, vals 6), (29, vals 7), (6, vals 8)] = _
        rw [hv0, hv1, hv2, hv3, hv4, hv5, hv6, hv7, hv8]]
      refine WA.step [9] (by decide +kernel) rfl ?_
      intro iQ hQ
      simp only [List.mem_cons, List.not_mem_nil, or_false] at hQ
      obtain rfl := hQ
      · refine ⟨_, rfl, ?_⟩
        refine WL.assign rfl rfl ?_
        refine WL.done ?_
        refine WA.done (by decide +kernel) ?_
        refine W.seq ?_
        refine W.seq ?_
        refine W.region ?_
        refine WL.move rfl rfl ?_
        refine WL.neq rfl rfl rfl (fun c40 => ?_) (fun c40 => ?_)
        · exfalso
          omega
        · refine WL.done ?_
          refine W.condF rfl ?_
          refine W.skip ?_
          refine W.seq ?_
          refine W.drawT 9 [⟨[], [2], true⟩, ⟨[0], [], false⟩, ⟨[], [1], true⟩, ⟨[2], [], false⟩, ⟨[1, 3], [], false⟩, ⟨[4], [], true⟩, ⟨[5], [], true⟩, ⟨[5], [], true⟩, ⟨[6], [], true⟩] [[(2, .pointer (some ⟨g11, 0, none⟩))], [], [(1, .int .i64 X)], [], [], [], [], [], []] (fun iQ => [fun v wQ => v = .pointer (some ((⟨g11, 0, none⟩ : Addr).add 2)), fun v wQ => v = .slice A19 m20 c21, fun v wQ => v = .int .i64 X, fun v wQ => v = .int .i64 ((cntZ X : Nat) : Int), fun v wQ => ∃ A48 m49 cp50, v = .tuple #[.slice A48 m49 cp50, .int .i64 (0 : Int)] ∧ (Own w.heap.size wQ 43 1 A48 m49 cp50 (us (digs (qa.den ^ (cntZ X))))) ∧ (m49 ≤ 4096) ∧ (∀ k, bl A48 = some k → k ≠ g11) ∧ (∀ k, bl A48 = some k → k ≠ g13), fun v wQ => ∃ A48_5 m49_5 cp50_5, v = .tuple #[.slice A48_5 m49_5 cp50_5, .int .i64 (0 : Int)] ∧ (Own w.heap.size wQ 43 1 A48_5 m49_5 cp50_5 (us (digs (qa.den ^ (cntZ X))))) ∧ (m49_5 ≤ 4096) ∧ (∀ k, bl A48_5 = some k → k ≠ g11) ∧ (∀ k, bl A48_5 = some k → k ≠ g13), fun v wQ => ∃ A48_5_6 m49_5_6 cp50_5_6, v = .slice A48_5_6 m49_5_6 cp50_5_6 ∧ (Own w.heap.size wQ 43 1 A48_5_6 m49_5_6 cp50_5_6 (us (digs (qa.den ^ (cntZ X))))) ∧ (m49_5_6 ≤ 4096) ∧ (∀ k, bl A48_5_6 = some k → k ≠ g11) ∧ (∀ k, bl A48_5_6 = some k → k ≠ g13), fun v wQ => v = .int .i64 (0 : Int), fun v wQ => ∃ A48_5_6_8 m49_5_6_8 cp50_5_6_8, v = .slice A48_5_6_8 m49_5_6_8 cp50_5_6_8 ∧ (Own w.heap.size wQ 43 1 A48_5_6_8 m49_5_6_8 cp50_5_6_8 (us (digs (qa.den ^ (cntZ X))))) ∧ (m49_5_6_8 ≤ 4096) ∧ (∀ k, bl A48_5_6_8 = some k → k ≠ g11) ∧ (∀ k, bl A48_5_6_8 = some k → k ≠ g13)].getD iQ (fun _ _ => True)) Try.mixed (by kernel_rfl) ?_ ?_ ?_
          · refine Vs_monoT _ ?_
            intro VQ hVQ vQ wQ1 wQ2 hQ1 hQ2
            simp only [List.mem_cons, List.not_mem_nil, or_false] at hVQ
            rcases hVQ with rfl | rfl | rfl | rfl | rfl | rfl | rfl | rfl | rfl
            · exact hQ1
            · exact hQ1
            · exact hQ1
            · exact hQ1
            · obtain ⟨A48, m49, cp50, hQe, hv, hvm, hap_hv_g11, hap_hv_g13⟩ := hQ1
              exact ⟨A48, m49, cp50, hQe, hv.ext hQ2, hvm, hap_hv_g11, hap_hv_g13⟩
            · obtain ⟨A48_5, m49_5, cp50_5, hQe, hv_5, hvm_5, hap_hv_g11_5, hap_hv_g13_5⟩ := hQ1
              exact ⟨A48_5, m49_5, cp50_5, hQe, hv_5.ext hQ2, hvm_5, hap_hv_g11_5, hap_hv_g13_5⟩
            · obtain ⟨A48_5_6, m49_5_6, cp50_5_6, hQe, hv_5_6, hvm_5_6, hap_hv_g11_5_6, hap_hv_g13_5_6⟩ := hQ1
              exact ⟨A48_5_6, m49_5_6, cp50_5_6, hQe, hv_5_6.ext hQ2, hvm_5_6, hap_hv_g11_5_6, hap_hv_g13_5_6⟩
            · exact hQ1
            · obtain ⟨A48_5_6_8, m49_5_6_8, cp50_5_6_8, hQe, hv_5_6_8, hvm_5_6_8, hap_hv_g11_5_6_8, hap_hv_g13_5_6_8⟩ := hQ1
              exact ⟨A48_5_6_8, m49_5_6_8, cp50_5_6_8, hQe, hv_5_6_8.ext hQ2, hvm_5_6_8, hap_hv_g11_5_6_8, hap_hv_g13_5_6_8⟩
          · refine ⟨⟨rfl, ⟨rfl, trivial⟩, ?_⟩, ⟨rfl, trivial, ?_⟩, ⟨rfl, ⟨rfl, trivial⟩, ?_⟩, ⟨rfl, trivial, ?_⟩, ⟨rfl, trivial, ?_⟩, ⟨rfl, trivial, ?_⟩, ⟨rfl, trivial, ?_⟩, ⟨rfl, trivial, ?_⟩, ⟨rfl, trivial, ?_⟩, trivial⟩
            · intro w41 hE
              intro R
              refine WL.fieldA (off := 2) Try.fla31_2 rfl rfl ?_
              exact WL.done ⟨_, rfl, rfl, rfl⟩
            · intro w42 hE
              have hE := hE rfl
              have hB := ext_trans hB hE
              have hVg11 := hVg11.ext hE
              rintro _ rfl
              intro R
              refine WL.load Try.underlying23 rfl rfl (hVg11.vcells 2 _ rfl) rfl ?_
              exact WL.done ⟨_, rfl, ext_refl _, rfl⟩
            · intro w43 hE
              intro R
              refine WL.move rfl rfl ?_
              exact WL.done ⟨_, rfl, rfl, rfl⟩
            · intro w44 hE
              have hE := hE rfl
              have hB := ext_trans hB hE
              rintro _ rfl
              intro R
              refine WL.call Try.func74 rfl Try.nm74 rfl rfl (count_c (by omega)) ?_
              rintro _ w45 ⟨rfl, hGw45⟩
              have hB := ext_trans hB hGw45
              exact WL.done ⟨_, rfl, hGw45, rfl⟩
            · intro w46 hE
              have hE := hE rfl
              have hB := ext_trans hB hE
              have hVg13 := hVg13.ext hE
              have htd := htd.ext hE
              have hVg11 := hVg11.ext hE
              rintro _ rfl
              rintro _ rfl
              intro R
              refine WL.call Try.func73 rfl Try.nm73 rfl rfl (PowD_ok htd.rd (digs_lim _) qa.den (nv_digs _) (cntZ X) (by omega) (by omega) (by omega) k2) ?_
              rintro _ w47 ⟨A48, m49, cp50, rfl, hGw47, hv, hvm⟩
              have hap_hv_g11 := ap_new hv (hVg11.bl_ge _ rfl).2
              have hap_hv_g13 := ap_new hv (hVg13.bl_ge _ rfl).2
              have hv := hv.low (b' := w.heap.size) hB.size
              have hB := ext_trans hB hGw47
              have hv_l := hv.rd.ulen
              exact WL.done ⟨_, rfl, hGw47, ⟨A48, m49, cp50, rfl, hv, hvm, hap_hv_g11, hap_hv_g13⟩⟩
            · intro w51 hE
              rintro _ ⟨A48, m49, cp50, rfl, hv, hvm, hap_hv_g11, hap_hv_g13⟩
              intro R
              refine WL.move rfl rfl ?_
              exact WL.done ⟨_, rfl, rfl, ⟨A48, m49, cp50, rfl, hv, hvm, hap_hv_g11, hap_hv_g13⟩⟩
            · intro w52 hE
              rintro _ ⟨A48_5, m49_5, cp50_5, rfl, hv_5, hvm_5, hap_hv_g11_5, hap_hv_g13_5⟩
              intro R
              refine WL.extract rfl rfl rfl ?_
              exact WL.done ⟨_, rfl, rfl, ⟨A48_5, m49_5, cp50_5, rfl, hv_5, hvm_5, hap_hv_g11_5, hap_hv_g13_5⟩⟩
            · intro w53 hE
              rintro _ ⟨A48_5, m49_5, cp50_5, rfl, hv_5, hvm_5, hap_hv_g11_5, hap_hv_g13_5⟩
              intro R
              refine WL.extract rfl rfl rfl ?_
              exact WL.done ⟨_, rfl, rfl, rfl⟩
            · intro w54 hE
              rintro _ ⟨A48_5_6, m49_5_6, cp50_5_6, rfl, hv_5_6, hvm_5_6, hap_hv_g11_5_6, hap_hv_g13_5_6⟩
              intro R
              refine WL.assign rfl rfl ?_
              exact WL.done ⟨_, rfl, rfl, ⟨A48_5_6, m49_5_6, cp50_5_6, rfl, hv_5_6, hvm_5_6, hap_hv_g11_5_6, hap_hv_g13_5_6⟩⟩
          · intro vals w55 hT hVs
            have hB := ext_trans hB hT
            have hVg13 := hVg13.ext hT
            have hVg11 := hVg11.ext hT
            have hu_5_6_8 := hu_5_6_8.ext hT
            have hv0 : vals 0 = _ := hVs 0 (by decide)
            have hv1 : vals 1 = _ := hVs 1 (by decide)
            have hv2 : vals 2 = _ := hVs 2 (by decide)
            have hv3 : vals 3 = _ := hVs 3 (by decide)
            obtain ⟨A48, m49, cp50, hv4, hv, hvm, hap_hv_g11, hap_hv_g13⟩ := hVs 4 (by decide)
            obtain ⟨A48_5, m49_5, cp50_5, hv5, hv_5, hvm_5, hap_hv_g11_5, hap_hv_g13_5⟩ := hVs 5 (by decide)
            obtain ⟨A48_5_6, m49_5_6, cp50_5_6, hv6, hv_5_6, hvm_5_6, hap_hv_g11_5_6, hap_hv_g13_5_6⟩ := hVs 6 (by decide)
            have hv7 : vals 7 = _ := hVs 7 (by decide)
            obtain ⟨A48_5_6_8, m49_5_6_8, cp50_5_6_8, hv8, hv_5_6_8, hvm_5_6_8, hap_hv_g11_5_6_8, hap_hv_g13_5_6_8⟩ := hVs 8 (by decide)
            rw [show (List.filterMap (fun i => Option.map (fun t => (t, vals i)) (dstAt _ i)) (List.range _)) = [(35, .pointer (some ((⟨g11, 0, none⟩ : Addr).add 2))), (36, .slice A19 m20 c21), (37, .int .i64 X), (38, .int .i64 ((cntZ X : Nat) : Int)), (39, .tuple #[.slice A48 m49 cp50, .int .i64 (0 : Int)]), (34, .tuple #[.slice A48_5 m49_5 cp50_5, .int .i64 (0 : Int)]), (40, .slice A48_5_6 m49_5_6 cp50_5_6), (41, .int .i64 (0 : Int)), (8, .slice A48_5_6_8 m49_5_6_8 cp50_5_6_8)] from by
              show [(35, vals 0), (36, vals 1), (37, vals 2), (38, vals 3), (39, vals 4), (34, vals 5), (40, vals 6), (41, vals 7), (8, vals 8)] = _
              rw [hv0, hv1, hv2, hv3, hv4, hv5, hv6, hv7, hv8]]
            refine WA.step [9] (by decide +kernel) rfl ?_
            intro iQ hQ
            simp only [List.mem_cons, List.not_mem_nil, or_false] at hQ
            obtain rfl := hQ
            · refine ⟨_, rfl, ?_⟩
              refine WL.assign rfl rfl ?_
              refine WL.done ?_
              refine WA.done (by decide +kernel) ?_
              refine W.seq ?_
              refine W.seq ?_
              refine W.region ?_
              refine WL.move rfl rfl ?_
              refine WL.neq rfl rfl rfl (fun c56 => ?_) (fun c56 => ?_)
              · exfalso
                omega
              · refine WL.done ?_
                refine W.condF rfl ?_
                refine W.skip ?_
                refine W.seq ?_
                refine W.region ?_
                refine WL.fieldA (off := 0) Try.fla31_0 rfl rfl ?_
                refine WL.load Try.underlying4 rfl rfl (hVg11.vcells 0 _ rfl) rfl ?_
                refine WL.move rfl rfl ?_
                rcases hg57 : (qneg (qa)) with _ | _
                · refine WL.pass rfl rfl rfl ?_
                  refine WL.pass rfl rfl rfl ?_
                  refine WL.pass rfl rfl rfl ?_
                  refine WL.pick rfl rfl rfl ?_
                  refine WL.move rfl rfl ?_
                  refine WL.move rfl rfl ?_
                  refine WL.build (cells := #[.bool false, .slice A32_5_6_8 m33_5_6_8 cp34_5_6_8, .slice A48_5_6_8 m49_5_6_8 cp50_5_6_8]) Try.bld31 rfl rfl rfl ?_
                  refine WL.storeV Try.el31 rfl rfl rfl rfl hVg13 ?_
                  have hOld59 := hVg13
                  intro w58 hVg13 hGw58
                  change Own _ _ _ _ _ _ _ [.bool false, .slice A32_5_6_8 m33_5_6_8 cp34_5_6_8, .slice A48_5_6_8 m49_5_6_8 cp50_5_6_8] at hVg13
                  have hB := ext_own hB hGw58 (fun g hg => (hOld59.bl_ge g hg).1)
                  have hu_5_6_8 := hu_5_6_8.grown hGw58 (ap_row (by first | exact hap_hu_5_6_8_g13 | exact ap_type hu_5_6_8 hOld59 (by decide)))
                  have hv_5_6_8 := hv_5_6_8.grown hGw58 (ap_row (by first | exact hap_hv_5_6_8_g13 | exact ap_type hv_5_6_8 hOld59 (by decide)))
                  refine WL.assign rfl rfl ?_
                  refine WL.done ?_
                  refine W.ret ?_
                  refine ⟨[.agg #[.bool false, .slice A32_5_6_8 m33_5_6_8 cp34_5_6_8, .slice A48_5_6_8 m49_5_6_8 cp50_5_6_8], .int .i64 (0 : Int)], ⟨_, _, _, rfl, rfl, run_loadV (cs := [.bool false, .slice A32_5_6_8 m33_5_6_8 cp34_5_6_8, .slice A48_5_6_8 m49_5_6_8 cp50_5_6_8]) Try.el31 Try.agg31 rfl hVg13.vcells, ⟨_, _, rfl, rfl, rfl⟩⟩, ?_⟩
                  rw [e1] at hu_5_6_8
                  rw [e2] at hv_5_6_8
                  rw [zp1, zp2, zp3]
                  first
                  | (rw [sgn_f1 (by assumption)]; exact ⟨_, _, _, _, _, _, rfl, hB, hu_5_6_8, hv_5_6_8, by omega⟩)
                  | (rw [sgn_f2 (by assumption)]; exact ⟨_, _, _, _, _, _, rfl, hB, hu_5_6_8, hv_5_6_8, by omega⟩)
                  | (rw [sgn_t (by assumption) (by assumption)]; exact ⟨_, _, _, _, _, _, rfl, hB, hu_5_6_8, hv_5_6_8, by omega⟩)
                · refine WL.take rfl ?_
                  refine WL.move rfl rfl ?_
                  refine WL.take rfl ?_
                  refine WL.rem (r := (X.tmod 2)) rfl rfl (by omega) rfl rfl ?_
                  refine WL.take rfl ?_
                  refine WL.neq rfl rfl rfl (fun c60 => ?_) (fun c60 => ?_)
                  · refine WL.pick rfl rfl rfl ?_
                    refine WL.move rfl rfl ?_
                    refine WL.move rfl rfl ?_
                    refine WL.build (cells := #[.bool true, .slice A32_5_6_8 m33_5_6_8 cp34_5_6_8, .slice A48_5_6_8 m49_5_6_8 cp50_5_6_8]) Try.bld31 rfl rfl rfl ?_
                    refine WL.storeV Try.el31 rfl rfl rfl rfl hVg13 ?_
                    have hOld62 := hVg13
                    intro w61 hVg13 hGw61
                    change Own _ _ _ _ _ _ _ [.bool true, .slice A32_5_6_8 m33_5_6_8 cp34_5_6_8, .slice A48_5_6_8 m49_5_6_8 cp50_5_6_8] at hVg13
                    have hB := ext_own hB hGw61 (fun g hg => (hOld62.bl_ge g hg).1)
                    have hu_5_6_8 := hu_5_6_8.grown hGw61 (ap_row (by first | exact hap_hu_5_6_8_g13 | exact ap_type hu_5_6_8 hOld62 (by decide)))
                    have hv_5_6_8 := hv_5_6_8.grown hGw61 (ap_row (by first | exact hap_hv_5_6_8_g13 | exact ap_type hv_5_6_8 hOld62 (by decide)))
                    refine WL.assign rfl rfl ?_
                    refine WL.done ?_
                    refine W.ret ?_
                    refine ⟨[.agg #[.bool true, .slice A32_5_6_8 m33_5_6_8 cp34_5_6_8, .slice A48_5_6_8 m49_5_6_8 cp50_5_6_8], .int .i64 (0 : Int)], ⟨_, _, _, rfl, rfl, run_loadV (cs := [.bool true, .slice A32_5_6_8 m33_5_6_8 cp34_5_6_8, .slice A48_5_6_8 m49_5_6_8 cp50_5_6_8]) Try.el31 Try.agg31 rfl hVg13.vcells, ⟨_, _, rfl, rfl, rfl⟩⟩, ?_⟩
                    rw [e1] at hu_5_6_8
                    rw [e2] at hv_5_6_8
                    rw [zp1, zp2, zp3]
                    first
                    | (rw [sgn_f1 (by assumption)]; exact ⟨_, _, _, _, _, _, rfl, hB, hu_5_6_8, hv_5_6_8, by omega⟩)
                    | (rw [sgn_f2 (by assumption)]; exact ⟨_, _, _, _, _, _, rfl, hB, hu_5_6_8, hv_5_6_8, by omega⟩)
                    | (rw [sgn_t (by assumption) (by assumption)]; exact ⟨_, _, _, _, _, _, rfl, hB, hu_5_6_8, hv_5_6_8, by omega⟩)
                  · refine WL.pick rfl rfl rfl ?_
                    refine WL.move rfl rfl ?_
                    refine WL.move rfl rfl ?_
                    refine WL.build (cells := #[.bool false, .slice A32_5_6_8 m33_5_6_8 cp34_5_6_8, .slice A48_5_6_8 m49_5_6_8 cp50_5_6_8]) Try.bld31 rfl rfl rfl ?_
                    refine WL.storeV Try.el31 rfl rfl rfl rfl hVg13 ?_
                    have hOld64 := hVg13
                    intro w63 hVg13 hGw63
                    change Own _ _ _ _ _ _ _ [.bool false, .slice A32_5_6_8 m33_5_6_8 cp34_5_6_8, .slice A48_5_6_8 m49_5_6_8 cp50_5_6_8] at hVg13
                    have hB := ext_own hB hGw63 (fun g hg => (hOld64.bl_ge g hg).1)
                    have hu_5_6_8 := hu_5_6_8.grown hGw63 (ap_row (by first | exact hap_hu_5_6_8_g13 | exact ap_type hu_5_6_8 hOld64 (by decide)))
                    have hv_5_6_8 := hv_5_6_8.grown hGw63 (ap_row (by first | exact hap_hv_5_6_8_g13 | exact ap_type hv_5_6_8 hOld64 (by decide)))
                    refine WL.assign rfl rfl ?_
                    refine WL.done ?_
                    refine W.ret ?_
                    refine ⟨[.agg #[.bool false, .slice A32_5_6_8 m33_5_6_8 cp34_5_6_8, .slice A48_5_6_8 m49_5_6_8 cp50_5_6_8], .int .i64 (0 : Int)], ⟨_, _, _, rfl, rfl, run_loadV (cs := [.bool false, .slice A32_5_6_8 m33_5_6_8 cp34_5_6_8, .slice A48_5_6_8 m49_5_6_8 cp50_5_6_8]) Try.el31 Try.agg31 rfl hVg13.vcells, ⟨_, _, rfl, rfl, rfl⟩⟩, ?_⟩
                    rw [e1] at hu_5_6_8
                    rw [e2] at hv_5_6_8
                    rw [zp1, zp2, zp3]
                    first
                    | (rw [sgn_f1 (by assumption)]; exact ⟨_, _, _, _, _, _, rfl, hB, hu_5_6_8, hv_5_6_8, by omega⟩)
                    | (rw [sgn_f2 (by assumption)]; exact ⟨_, _, _, _, _, _, rfl, hB, hu_5_6_8, hv_5_6_8, by omega⟩)
                    | (rw [sgn_t (by assumption) (by assumption)]; exact ⟨_, _, _, _, _, _, rfl, hB, hu_5_6_8, hv_5_6_8, by omega⟩)

set_option maxHeartbeats 1000000 in
theorem rqPow_p_okok {w : World} {Ban : Nat} {Aan : Option Addr} {man can : Nat} {xan : List Nat} (han : Rd Ban w 1 Aan man can (us xan)) {Bad : Nat} {Aad : Option Addr} {mad cad : Nat} {xad : List Nat} (had : Rd Bad w 1 Aad mad cad (us xad)) {na : Bool} (hLan : Lim xan) (hLad : Lim xad) (qa : Rat) (hqa : val na (nv xan) (nv xad) = qa) (hsa : man ≤ 4194304 ∧ mad ≤ 4194304) {X : Int} (hX : -9223372036854775808 ≤ X ∧ X ≤ 9223372036854775807) (hsm : man ≤ 1000 ∧ mad ≤ 1000) (hsg : 0 ≤ X) (h1 : (qnum qa) ^ X.natAbs < bigN) (h2 : (qa.den) ^ X.natAbs < bigN) :
    Calls Try.prog 41 #[.agg #[.bool na, .slice Aan man can, .slice Aad mad cad], .int .i64 X] w fun e w2 => ∃ v, e = .returned v ∧ (fun v w2 => ∃ A2 m2 c2 A3 m3 c3, v = .tuple #[.agg #[.bool (qneg (qa ^ X)), .slice A2 m2 c2, .slice A3 m3 c3], .int .i64 0] ∧ w.grownBy w2 none ∧ Own w.heap.size w2 43 1 A2 m2 c2 (us (digs (qnum (qa ^ X)))) ∧ Own w.heap.size w2 43 1 A3 m3 c3 (us (digs (Rat.den (qa ^ X)))) ∧ m2 ≤ 4096 ∧ m3 ≤ 4097) v w2 := by
  have han := han.norm
  have han_l := han.ulen
  have han_x := han.max
  simp only [maxLen] at han_x
  have han_c := han.cap
  have had := had.norm
  have had_l := had.ulen
  have had_x := had.max
  simp only [maxLen] at had_x
  have had_c := had.cap
  have han0 := han
  have had0 := had
  obtain ⟨zp1, zp2, zp3⟩ := zp_pos (q := qa) hsg
  have hcl := crZ_lt hX
  obtain ⟨pu1, pu2⟩ := powcap (x := qnum qa) (crZ_cap X)
  obtain ⟨pv1, pv2⟩ := powcap (x := qa.den) (crZ_cap X)
  have ht2 := tm2 X
  have k1 := pu1.2 h1
  have e1 := pu2 h1
  have k2 := pv1.2 h2
  have e2 := pv2 h2
  have hcz : ((crZ X : Nat) : Int) = X := by unfold crZ; rw [if_neg (by omega)]; omega
  have hB := ext_refl w
  refine calls_of_Wc (vs := [.agg #[.bool na, .slice Aan man can, .slice Aad mad cad], .int .i64 X]) [.cell 4 31, .tmp 5] Try.func41 rfl rfl rfl rfl ?_
  refine W.seq ?_
  refine W.region ?_
  refine WL.box Try.el31 rfl rfl rfl ?_
  intro g11 w12 hg_g11 hVg11 hGw12
  change Own _ _ _ _ _ _ _ [.bool na, .slice Aan man can, .slice Aad mad cad] at hVg11
  have hVg11 := hVg11.low (b' := w.heap.size) hB.size
  have hB := ext_trans hB hGw12
  have han := han0.ext hB
  have had := had0.ext hB
  refine WL.alloc Try.el31 rfl ?_
  intro g13 w14 hg_g13 hVg13 hGw14
  change Own _ _ _ _ _ _ _ [.bool false, .slice none 0 0, .slice none 0 0] at hVg13
  have hlt_g11_g13 : g11 < g13 := by rw [hg_g13]; exact (hVg11.bl_ge _ rfl).2
  have hVg13 := hVg13.low (b' := w.heap.size) hB.size
  have hB := ext_trans hB hGw14
  have han := han0.ext hB
  have had := had0.ext hB
  have hVg11 := hVg11.ext hGw14
  refine WL.assign rfl rfl ?_
  refine WL.done ?_
  refine W.seq ?_
  refine W.region ?_
  refine WL.loadV (cs := [.bool na, .slice Aan man can, .slice Aad mad cad]) Try.el31 Try.agg31 rfl rfl hVg11.vcells rfl ?_
  refine WL.call Try.func20 rfl Try.nm20 rfl rfl (rqTrim_c han had hLan hLad qa hqa (by omega)) ?_
  rintro _ w15 ⟨A16, m17, c18, A19, m20, c21, rfl, hGw15, htn, htd, htm⟩
  have hap_htn_g11 := ap_new htn (hVg11.bl_ge _ rfl).2
  have hap_htd_g11 := ap_new htd (hVg11.bl_ge _ rfl).2
  have htn := htn.low (b' := w.heap.size) hB.size
  have htd := htd.low (b' := w.heap.size) hB.size
  have hB := ext_trans hB hGw15
  have hVg11 := hVg11.ext hGw15
  have hVg13 := hVg13.ext hGw15
  have htn_l := htn.rd.ulen
  have htd_l := htd.rd.ulen
  refine WL.storeV Try.el31 rfl rfl rfl rfl hVg11 ?_
  have hOld23 := hVg11
  intro w22 hVg11 hGw22
  change Own _ _ _ _ _ _ _ [.bool (qneg (qa)), .slice A16 m17 c18, .slice A19 m20 c21] at hVg11
  have hB := ext_own hB hGw22 (fun g hg => (hOld23.bl_ge g hg).1)
  have hVg13 := hVg13.grown hGw22 (apart (by omega))
  have htn := htn.grown hGw22 (ap_row (by first | exact hap_htn_g11 | exact ap_type htn hOld23 (by decide)))
  have htd := htd.grown hGw22 (ap_row (by first | exact hap_htd_g11 | exact ap_type htd hOld23 (by decide)))
  refine WL.done ?_
  refine W.seq ?_
  refine W.seq ?_
  refine W.region ?_
  refine WL.move rfl rfl ?_
  refine WL.lss rfl rfl rfl (fun c24 => ?_) (fun c24 => ?_)
  · exfalso
    omega
  · refine WL.done ?_
    refine W.condF rfl ?_
    refine W.skip ?_
    refine W.seq ?_
    refine W.region ?_
    refine WL.move rfl rfl ?_
    refine WL.rem (r := (X.tmod 2)) rfl rfl (by omega) rfl rfl ?_
    refine WL.neq rfl rfl rfl (fun c25 => ?_) (fun c25 => ?_)
    · refine WL.assign rfl rfl ?_
      refine WL.done ?_
      refine W.seq ?_
      refine W.seq ?_
      refine W.region ?_
      refine WL.move rfl rfl ?_
      refine WL.lss rfl rfl rfl (fun c26 => ?_) (fun c26 => ?_)
      · exfalso
        omega
      · refine WL.done ?_
        refine W.condF rfl ?_
        refine W.skip ?_
        refine W.seq ?_
        refine W.region ?_
        refine WL.fieldA (off := 1) Try.fla31_1 rfl rfl ?_
        refine WL.load Try.underlying23 rfl rfl (hVg11.vcells 1 _ rfl) rfl ?_
        refine WL.move rfl rfl ?_
        refine WL.call Try.func76 rfl Try.nm76 rfl rfl (rPowD_ok htn.rd (digs_lim _) (qnum qa) (nv_digs _) (crZ X) (by omega) (by omega) (by omega) k1) ?_
        rintro _ w27 ⟨A28, m29, cp30, rfl, hGw27, hu, hum⟩
        have hu := hu.low (b' := w.heap.size) hB.size
        have hB := ext_trans hB hGw27
        have hVg13 := hVg13.ext hGw27
        have htd := htd.ext hGw27
        have hVg11 := hVg11.ext hGw27
        have hu_l := hu.rd.ulen
        refine WL.move rfl rfl ?_
        refine WL.extract rfl rfl rfl ?_
        refine WL.extract rfl rfl rfl ?_
        refine WL.assign rfl rfl ?_
        refine WL.assign rfl rfl ?_
        refine WL.done ?_
        refine W.seq ?_
        refine W.region ?_
        refine WL.fieldA (off := 2) Try.fla31_2 rfl rfl ?_
        refine WL.load Try.underlying23 rfl rfl (hVg11.vcells 2 _ rfl) rfl ?_
        refine WL.move rfl rfl ?_
        refine WL.call Try.func76 rfl Try.nm76 rfl rfl (rPowD_ok htd.rd (digs_lim _) qa.den (nv_digs _) (crZ X) (by omega) (by omega) (by omega) k2) ?_
        rintro _ w31 ⟨A32, m33, cp34, rfl, hGw31, hv, hvm⟩
        have hv := hv.low (b' := w.heap.size) hB.size
        have hB := ext_trans hB hGw31
        have hVg13 := hVg13.ext hGw31
        have hVg11 := hVg11.ext hGw31
        have hu := hu.ext hGw31
        have hv_l := hv.rd.ulen
        refine WL.move rfl rfl ?_
        refine WL.extract rfl rfl rfl ?_
        refine WL.extract rfl rfl rfl ?_
        refine WL.assign rfl rfl ?_
        refine WL.assign rfl rfl ?_
        refine WL.done ?_
        refine W.seq ?_
        refine W.seq ?_
        refine W.region ?_
        refine WL.move rfl rfl ?_
        refine WL.neq rfl rfl rfl (fun c35 => ?_) (fun c35 => ?_)
        · exfalso
          omega
        · refine WL.move rfl rfl ?_
          refine WL.take rfl ?_
          refine WL.move rfl rfl ?_
          refine WL.take rfl ?_
          refine WL.neq rfl rfl rfl (fun c36 => ?_) (fun c36 => ?_)
          · exfalso
            omega
          · refine WL.pick rfl rfl rfl ?_
            refine WL.done ?_
            refine W.condF rfl ?_
            refine W.skip ?_
            refine W.seq ?_
            refine W.region ?_
            refine WL.fieldA (off := 0) Try.fla31_0 rfl rfl ?_
            refine WL.load Try.underlying4 rfl rfl (hVg11.vcells 0 _ rfl) rfl ?_
            refine WL.move rfl rfl ?_
            rcases hg37 : (qneg (qa)) with _ | _
            · refine WL.pass rfl rfl rfl ?_
              refine WL.pick rfl rfl rfl ?_
              refine WL.move rfl rfl ?_
              refine WL.move rfl rfl ?_
              refine WL.call Try.func31 rfl Try.nm31 rfl rfl (rMake_c hu.rd hv.rd (digs_lim _) (digs_lim _) (by omega) (by omega) (qa ^ X) (by simp only [nv_digs, e1, e2]; rw [← val_q (qa ^ X), zp1, zp2, zp3]; first | rw [sgn_f1 (by assumption)] | rw [sgn_f2 (by assumption)] | rw [sgn_t (by assumption) (by assumption)])) ?_
              rintro _ w38 ⟨A39, m40, c41, A42, m43, c44, rfl, hGw38, hrn, hrd, hrm⟩
              have hap_hrn_g13 := ap_new hrn (hVg13.bl_ge _ rfl).2
              have hap_hrd_g13 := ap_new hrd (hVg13.bl_ge _ rfl).2
              have hrn := hrn.low (b' := w.heap.size) hB.size
              have hrd := hrd.low (b' := w.heap.size) hB.size
              have hB := ext_trans hB hGw38
              have hVg13 := hVg13.ext hGw38
              have hrn_l := hrn.rd.ulen
              have hrd_l := hrd.rd.ulen
              refine WL.storeV Try.el31 rfl rfl rfl rfl hVg13 ?_
              have hOld46 := hVg13
              intro w45 hVg13 hGw45
              change Own _ _ _ _ _ _ _ [.bool (qneg (qa ^ X)), .slice A39 m40 c41, .slice A42 m43 c44] at hVg13
              have hB := ext_own hB hGw45 (fun g hg => (hOld46.bl_ge g hg).1)
              have hrn := hrn.grown hGw45 (ap_row (by first | exact hap_hrn_g13 | exact ap_type hrn hOld46 (by decide)))
              have hrd := hrd.grown hGw45 (ap_row (by first | exact hap_hrd_g13 | exact ap_type hrd hOld46 (by decide)))
              refine WL.assign rfl rfl ?_
              refine WL.done ?_
              refine W.ret ?_
              refine ⟨[.agg #[.bool (qneg (qa ^ X)), .slice A39 m40 c41, .slice A42 m43 c44], .int .i64 (0 : Int)], ⟨_, _, _, rfl, rfl, run_loadV (cs := [.bool (qneg (qa ^ X)), .slice A39 m40 c41, .slice A42 m43 c44]) Try.el31 Try.agg31 rfl hVg13.vcells, ⟨_, _, rfl, rfl, rfl⟩⟩, ?_⟩
              exact ⟨_, _, _, _, _, _, rfl, hB, hrn, hrd, by omega⟩
            · refine WL.take rfl ?_
              refine WL.move rfl rfl ?_
              refine WL.pick rfl rfl rfl ?_
              refine WL.move rfl rfl ?_
              refine WL.move rfl rfl ?_
              refine WL.call Try.func31 rfl Try.nm31 rfl rfl (rMake_c hu.rd hv.rd (digs_lim _) (digs_lim _) (by omega) (by omega) (qa ^ X) (by simp only [nv_digs, e1, e2]; rw [← val_q (qa ^ X), zp1, zp2, zp3]; first | rw [sgn_f1 (by assumption)] | rw [sgn_f2 (by assumption)] | rw [sgn_t (by assumption) (by assumption)])) ?_
              rintro _ w47 ⟨A48, m49, c50, A51, m52, c53, rfl, hGw47, hrn, hrd, hrm⟩
              have hap_hrn_g13 := ap_new hrn (hVg13.bl_ge _ rfl).2
              have hap_hrd_g13 := ap_new hrd (hVg13.bl_ge _ rfl).2
              have hrn := hrn.low (b' := w.heap.size) hB.size
              have hrd := hrd.low (b' := w.heap.size) hB.size
              have hB := ext_trans hB hGw47
              have hVg13 := hVg13.ext hGw47
              have hrn_l := hrn.rd.ulen
              have hrd_l := hrd.rd.ulen
              refine WL.storeV Try.el31 rfl rfl rfl rfl hVg13 ?_
              have hOld55 := hVg13
              intro w54 hVg13 hGw54
              change Own _ _ _ _ _ _ _ [.bool (qneg (qa ^ X)), .slice A48 m49 c50, .slice A51 m52 c53] at hVg13
              have hB := ext_own hB hGw54 (fun g hg => (hOld55.bl_ge g hg).1)
              have hrn := hrn.grown hGw54 (ap_row (by first | exact hap_hrn_g13 | exact ap_type hrn hOld55 (by decide)))
              have hrd := hrd.grown hGw54 (ap_row (by first | exact hap_hrd_g13 | exact ap_type hrd hOld55 (by decide)))
              refine WL.assign rfl rfl ?_
              refine WL.done ?_
              refine W.ret ?_
              refine ⟨[.agg #[.bool (qneg (qa ^ X)), .slice A48 m49 c50, .slice A51 m52 c53], .int .i64 (0 : Int)], ⟨_, _, _, rfl, rfl, run_loadV (cs := [.bool (qneg (qa ^ X)), .slice A48 m49 c50, .slice A51 m52 c53]) Try.el31 Try.agg31 rfl hVg13.vcells, ⟨_, _, rfl, rfl, rfl⟩⟩, ?_⟩
              exact ⟨_, _, _, _, _, _, rfl, hB, hrn, hrd, by omega⟩
    · refine WL.assign rfl rfl ?_
      refine WL.done ?_
      refine W.seq ?_
      refine W.seq ?_
      refine W.region ?_
      refine WL.move rfl rfl ?_
      refine WL.lss rfl rfl rfl (fun c56 => ?_) (fun c56 => ?_)
      · exfalso
        omega
      · refine WL.done ?_
        refine W.condF rfl ?_
        refine W.skip ?_
        refine W.seq ?_
        refine W.region ?_
        refine WL.fieldA (off := 1) Try.fla31_1 rfl rfl ?_
        refine WL.load Try.underlying23 rfl rfl (hVg11.vcells 1 _ rfl) rfl ?_
        refine WL.move rfl rfl ?_
        refine WL.call Try.func76 rfl Try.nm76 rfl rfl (rPowD_ok htn.rd (digs_lim _) (qnum qa) (nv_digs _) (crZ X) (by omega) (by omega) (by omega) k1) ?_
        rintro _ w57 ⟨A58, m59, cp60, rfl, hGw57, hu, hum⟩
        have hu := hu.low (b' := w.heap.size) hB.size
        have hB := ext_trans hB hGw57
        have hVg13 := hVg13.ext hGw57
        have htd := htd.ext hGw57
        have hVg11 := hVg11.ext hGw57
        have hu_l := hu.rd.ulen
        refine WL.move rfl rfl ?_
        refine WL.extract rfl rfl rfl ?_
        refine WL.extract rfl rfl rfl ?_
        refine WL.assign rfl rfl ?_
        refine WL.assign rfl rfl ?_
        refine WL.done ?_
        refine W.seq ?_
        refine W.region ?_
        refine WL.fieldA (off := 2) Try.fla31_2 rfl rfl ?_
        refine WL.load Try.underlying23 rfl rfl (hVg11.vcells 2 _ rfl) rfl ?_
        refine WL.move rfl rfl ?_
        refine WL.call Try.func76 rfl Try.nm76 rfl rfl (rPowD_ok htd.rd (digs_lim _) qa.den (nv_digs _) (crZ X) (by omega) (by omega) (by omega) k2) ?_
        rintro _ w61 ⟨A62, m63, cp64, rfl, hGw61, hv, hvm⟩
        have hv := hv.low (b' := w.heap.size) hB.size
        have hB := ext_trans hB hGw61
        have hVg13 := hVg13.ext hGw61
        have hVg11 := hVg11.ext hGw61
        have hu := hu.ext hGw61
        have hv_l := hv.rd.ulen
        refine WL.move rfl rfl ?_
        refine WL.extract rfl rfl rfl ?_
        refine WL.extract rfl rfl rfl ?_
        refine WL.assign rfl rfl ?_
        refine WL.assign rfl rfl ?_
        refine WL.done ?_
        refine W.seq ?_
        refine W.seq ?_
        refine W.region ?_
        refine WL.move rfl rfl ?_
        refine WL.neq rfl rfl rfl (fun c65 => ?_) (fun c65 => ?_)
        · exfalso
          omega
        · refine WL.move rfl rfl ?_
          refine WL.take rfl ?_
          refine WL.move rfl rfl ?_
          refine WL.take rfl ?_
          refine WL.neq rfl rfl rfl (fun c66 => ?_) (fun c66 => ?_)
          · exfalso
            omega
          · refine WL.pick rfl rfl rfl ?_
            refine WL.done ?_
            refine W.condF rfl ?_
            refine W.skip ?_
            refine W.seq ?_
            refine W.region ?_
            refine WL.fieldA (off := 0) Try.fla31_0 rfl rfl ?_
            refine WL.load Try.underlying4 rfl rfl (hVg11.vcells 0 _ rfl) rfl ?_
            refine WL.move rfl rfl ?_
            rcases hg67 : (qneg (qa)) with _ | _
            · refine WL.pass rfl rfl rfl ?_
              refine WL.pick rfl rfl rfl ?_
              refine WL.move rfl rfl ?_
              refine WL.move rfl rfl ?_
              refine WL.call Try.func31 rfl Try.nm31 rfl rfl (rMake_c hu.rd hv.rd (digs_lim _) (digs_lim _) (by omega) (by omega) (qa ^ X) (by simp only [nv_digs, e1, e2]; rw [← val_q (qa ^ X), zp1, zp2, zp3]; first | rw [sgn_f1 (by assumption)] | rw [sgn_f2 (by assumption)] | rw [sgn_t (by assumption) (by assumption)])) ?_
              rintro _ w68 ⟨A69, m70, c71, A72, m73, c74, rfl, hGw68, hrn, hrd, hrm⟩
              have hap_hrn_g13 := ap_new hrn (hVg13.bl_ge _ rfl).2
              have hap_hrd_g13 := ap_new hrd (hVg13.bl_ge _ rfl).2
              have hrn := hrn.low (b' := w.heap.size) hB.size
              have hrd := hrd.low (b' := w.heap.size) hB.size
              have hB := ext_trans hB hGw68
              have hVg13 := hVg13.ext hGw68
              have hrn_l := hrn.rd.ulen
              have hrd_l := hrd.rd.ulen
              refine WL.storeV Try.el31 rfl rfl rfl rfl hVg13 ?_
              have hOld76 := hVg13
              intro w75 hVg13 hGw75
              change Own _ _ _ _ _ _ _ [.bool (qneg (qa ^ X)), .slice A69 m70 c71, .slice A72 m73 c74] at hVg13
              have hB := ext_own hB hGw75 (fun g hg => (hOld76.bl_ge g hg).1)
              have hrn := hrn.grown hGw75 (ap_row (by first | exact hap_hrn_g13 | exact ap_type hrn hOld76 (by decide)))
              have hrd := hrd.grown hGw75 (ap_row (by first | exact hap_hrd_g13 | exact ap_type hrd hOld76 (by decide)))
              refine WL.assign rfl rfl ?_
              refine WL.done ?_
              refine W.ret ?_
              refine ⟨[.agg #[.bool (qneg (qa ^ X)), .slice A69 m70 c71, .slice A72 m73 c74], .int .i64 (0 : Int)], ⟨_, _, _, rfl, rfl, run_loadV (cs := [.bool (qneg (qa ^ X)), .slice A69 m70 c71, .slice A72 m73 c74]) Try.el31 Try.agg31 rfl hVg13.vcells, ⟨_, _, rfl, rfl, rfl⟩⟩, ?_⟩
              exact ⟨_, _, _, _, _, _, rfl, hB, hrn, hrd, by omega⟩
            · refine WL.take rfl ?_
              refine WL.move rfl rfl ?_
              refine WL.pick rfl rfl rfl ?_
              refine WL.move rfl rfl ?_
              refine WL.move rfl rfl ?_
              refine WL.call Try.func31 rfl Try.nm31 rfl rfl (rMake_c hu.rd hv.rd (digs_lim _) (digs_lim _) (by omega) (by omega) (qa ^ X) (by simp only [nv_digs, e1, e2]; rw [← val_q (qa ^ X), zp1, zp2, zp3]; first | rw [sgn_f1 (by assumption)] | rw [sgn_f2 (by assumption)] | rw [sgn_t (by assumption) (by assumption)])) ?_
              rintro _ w77 ⟨A78, m79, c80, A81, m82, c83, rfl, hGw77, hrn, hrd, hrm⟩
              have hap_hrn_g13 := ap_new hrn (hVg13.bl_ge _ rfl).2
              have hap_hrd_g13 := ap_new hrd (hVg13.bl_ge _ rfl).2
              have hrn := hrn.low (b' := w.heap.size) hB.size
              have hrd := hrd.low (b' := w.heap.size) hB.size
              have hB := ext_trans hB hGw77
              have hVg13 := hVg13.ext hGw77
              have hrn_l := hrn.rd.ulen
              have hrd_l := hrd.rd.ulen
              refine WL.storeV Try.el31 rfl rfl rfl rfl hVg13 ?_
              have hOld85 := hVg13
              intro w84 hVg13 hGw84
              change Own _ _ _ _ _ _ _ [.bool (qneg (qa ^ X)), .slice A78 m79 c80, .slice A81 m82 c83] at hVg13
              have hB := ext_own hB hGw84 (fun g hg => (hOld85.bl_ge g hg).1)
              have hrn := hrn.grown hGw84 (ap_row (by first | exact hap_hrn_g13 | exact ap_type hrn hOld85 (by decide)))
              have hrd := hrd.grown hGw84 (ap_row (by first | exact hap_hrd_g13 | exact ap_type hrd hOld85 (by decide)))
              refine WL.assign rfl rfl ?_
              refine WL.done ?_
              refine W.ret ?_
              refine ⟨[.agg #[.bool (qneg (qa ^ X)), .slice A78 m79 c80, .slice A81 m82 c83], .int .i64 (0 : Int)], ⟨_, _, _, rfl, rfl, run_loadV (cs := [.bool (qneg (qa ^ X)), .slice A78 m79 c80, .slice A81 m82 c83]) Try.el31 Try.agg31 rfl hVg13.vcells, ⟨_, _, rfl, rfl, rfl⟩⟩, ?_⟩
              exact ⟨_, _, _, _, _, _, rfl, hB, hrn, hrd, by omega⟩

set_option maxHeartbeats 1000000 in
theorem qPow_p_okerr {w : World} {Ban : Nat} {Aan : Option Addr} {man can : Nat} {xan : List Nat} (han : Rd Ban w 1 Aan man can (us xan)) {Bad : Nat} {Aad : Option Addr} {mad cad : Nat} {xad : List Nat} (had : Rd Bad w 1 Aad mad cad (us xad)) {na : Bool} (hLan : Lim xan) (hLad : Lim xad) (qa : Rat) (hqa : val na (nv xan) (nv xad) = qa) (hsa : man ≤ 4194304 ∧ mad ≤ 4194304) {X : Int} (hX : -9223372036854775808 ≤ X ∧ X ≤ 9223372036854775807) (hsm : man ≤ 1000 ∧ mad ≤ 1000) (hsg : 0 ≤ X) (h1 : (qnum qa) ^ X.natAbs < bigN) (h2 : ¬ (qa.den) ^ X.natAbs < bigN) :
    Calls Try.prog 40 #[.agg #[.bool na, .slice Aan man can, .slice Aad mad cad], .int .i64 X] w fun e w2 => ∃ v, e = .returned v ∧ (fun v w2 => v = .tuple #[.agg #[.bool false, .slice none 0 0, .slice none 0 0], .int .i64 8] ∧ w.grownBy w2 none) v w2 := by
  have han := han.norm
  have han_l := han.ulen
  have han_x := han.max
  simp only [maxLen] at han_x
  have han_c := han.cap
  have had := had.norm
  have had_l := had.ulen
  have had_x := had.max
  simp only [maxLen] at had_x
  have had_c := had.cap
  have han0 := han
  have had0 := had
  obtain ⟨zp1, zp2, zp3⟩ := zp_pos (q := qa) hsg
  have hcl := cntZ_lt hX
  obtain ⟨pu1, pu2⟩ := powcap (x := qnum qa) (cntZ_cap X)
  obtain ⟨pv1, pv2⟩ := powcap (x := qa.den) (cntZ_cap X)
  have ht2 := tm2 X
  have k1 := pu1.2 h1
  have e1 := pu2 h1
  have k2 := mt pv1.1 h2
  have hB := ext_refl w
  refine calls_of_Wc (vs := [.agg #[.bool na, .slice Aan man can, .slice Aad mad cad], .int .i64 X]) [.cell 4 31, .tmp 5] Try.func40 rfl rfl rfl rfl ?_
  refine W.seq ?_
  refine W.region ?_
  refine WL.box Try.el31 rfl rfl rfl ?_
  intro g11 w12 hg_g11 hVg11 hGw12
  change Own _ _ _ _ _ _ _ [.bool na, .slice Aan man can, .slice Aad mad cad] at hVg11
  have hVg11 := hVg11.low (b' := w.heap.size) hB.size
  have hB := ext_trans hB hGw12
  have han := han0.ext hB
  have had := had0.ext hB
  refine WL.alloc Try.el31 rfl ?_
  intro g13 w14 hg_g13 hVg13 hGw14
  change Own _ _ _ _ _ _ _ [.bool false, .slice none 0 0, .slice none 0 0] at hVg13
  have hlt_g11_g13 : g11 < g13 := by rw [hg_g13]; exact (hVg11.bl_ge _ rfl).2
  have hVg13 := hVg13.low (b' := w.heap.size) hB.size
  have hB := ext_trans hB hGw14
  have han := han0.ext hB
  have had := had0.ext hB
  have hVg11 := hVg11.ext hGw14
  refine WL.assign rfl rfl ?_
  refine WL.done ?_
  refine W.seq ?_
  refine W.region ?_
  refine WL.loadV (cs := [.bool na, .slice Aan man can, .slice Aad mad cad]) Try.el31 Try.agg31 rfl rfl hVg11.vcells rfl ?_
  refine WL.call Try.func19 rfl Try.nm19 rfl rfl (qTrim_c han had hLan hLad qa hqa (by omega)) ?_
  rintro _ w15 ⟨A16, m17, c18, A19, m20, c21, rfl, hGw15, htn, htd, htm⟩
  have hap_htn_g11 := ap_new htn (hVg11.bl_ge _ rfl).2
  have hap_htd_g11 := ap_new htd (hVg11.bl_ge _ rfl).2
  have htn := htn.low (b' := w.heap.size) hB.size
  have htd := htd.low (b' := w.heap.size) hB.size
  have hB := ext_trans hB hGw15
  have hVg11 := hVg11.ext hGw15
  have hVg13 := hVg13.ext hGw15
  have htn_l := htn.rd.ulen
  have htd_l := htd.rd.ulen
  refine WL.storeV Try.el31 rfl rfl rfl rfl hVg11 ?_
  have hOld23 := hVg11
  intro w22 hVg11 hGw22
  change Own _ _ _ _ _ _ _ [.bool (qneg (qa)), .slice A16 m17 c18, .slice A19 m20 c21] at hVg11
  have hB := ext_own hB hGw22 (fun g hg => (hOld23.bl_ge g hg).1)
  have hVg13 := hVg13.grown hGw22 (apart (by omega))
  have htn := htn.grown hGw22 (ap_row (by first | exact hap_htn_g11 | exact ap_type htn hOld23 (by decide)))
  have htd := htd.grown hGw22 (ap_row (by first | exact hap_htd_g11 | exact ap_type htd hOld23 (by decide)))
  refine WL.done ?_
  refine W.seq ?_
  refine W.seq ?_
  refine W.region ?_
  refine WL.move rfl rfl ?_
  refine WL.lss rfl rfl rfl (fun c24 => ?_) (fun c24 => ?_)
  · exfalso
    omega
  · refine WL.done ?_
    refine W.condF rfl ?_
    refine W.skip ?_
    refine W.seq ?_
    refine W.drawT 9 [⟨[], [2], true⟩, ⟨[0], [], false⟩, ⟨[], [1], true⟩, ⟨[2], [], false⟩, ⟨[1, 3], [], false⟩, ⟨[4], [], true⟩, ⟨[5], [], true⟩, ⟨[5], [], true⟩, ⟨[6], [], true⟩] [[(2, .pointer (some ⟨g11, 0, none⟩))], [], [(1, .int .i64 X)], [], [], [], [], [], []] (fun iQ => [fun v wQ => v = .pointer (some ((⟨g11, 0, none⟩ : Addr).add 1)), fun v wQ => v = .slice A16 m17 c18, fun v wQ => v = .int .i64 X, fun v wQ => v = .int .i64 ((cntZ X : Nat) : Int), fun v wQ => ∃ A32 m33 cp34, v = .tuple #[.slice A32 m33 cp34, .int .i64 (0 : Int)] ∧ (Own w.heap.size wQ 43 1 A32 m33 cp34 (us (digs ((qnum qa) ^ (cntZ X))))) ∧ (m33 ≤ 4096) ∧ (∀ k, bl A32 = some k → k ≠ g11) ∧ (∀ k, bl A32 = some k → k ≠ g13), fun v wQ => ∃ A32_5 m33_5 cp34_5, v = .tuple #[.slice A32_5 m33_5 cp34_5, .int .i64 (0 : Int)] ∧ (Own w.heap.size wQ 43 1 A32_5 m33_5 cp34_5 (us (digs ((qnum qa) ^ (cntZ X))))) ∧ (m33_5 ≤ 4096) ∧ (∀ k, bl A32_5 = some k → k ≠ g11) ∧ (∀ k, bl A32_5 = some k → k ≠ g13), fun v wQ => ∃ A32_5_6 m33_5_6 cp34_5_6, v = .slice A32_5_6 m33_5_6 cp34_5_6 ∧ (Own w.heap.size wQ 43 1 A32_5_6 m33_5_6 cp34_5_6 (us (digs ((qnum qa) ^ (cntZ X))))) ∧ (m33_5_6 ≤ 4096) ∧ (∀ k, bl A32_5_6 = some k → k ≠ g11) ∧ (∀ k, bl A32_5_6 = some k → k ≠ g13), fun v wQ => v = .int .i64 (0 : Int), fun v wQ => ∃ A32_5_6_8 m33_5_6_8 cp34_5_6_8, v = .slice A32_5_6_8 m33_5_6_8 cp34_5_6_8 ∧ (Own w.heap.size wQ 43 1 A32_5_6_8 m33_5_6_8 cp34_5_6_8 (us (digs ((qnum qa) ^ (cntZ X))))) ∧ (m33_5_6_8 ≤ 4096) ∧ (∀ k, bl A32_5_6_8 = some k → k ≠ g11) ∧ (∀ k, bl A32_5_6_8 = some k → k ≠ g13)].getD iQ (fun _ _ => True)) Try.mixed (by kernel_rfl) ?_ ?_ ?_
    · refine Vs_monoT _ ?_
      intro VQ hVQ vQ wQ1 wQ2 hQ1 hQ2
      simp only [List.mem_cons, List.not_mem_nil, or_false] at hVQ
      rcases hVQ with rfl | rfl | rfl | rfl | rfl | rfl | rfl | rfl | rfl
      · exact hQ1
      · exact hQ1
      · exact hQ1
      · exact hQ1
      · obtain ⟨A32, m33, cp34, hQe, hu, hum, hap_hu_g11, hap_hu_g13⟩ := hQ1
        exact ⟨A32, m33, cp34, hQe, hu.ext hQ2, hum, hap_hu_g11, hap_hu_g13⟩
      · obtain ⟨A32_5, m33_5, cp34_5, hQe, hu_5, hum_5, hap_hu_g11_5, hap_hu_g13_5⟩ := hQ1
        exact ⟨A32_5, m33_5, cp34_5, hQe, hu_5.ext hQ2, hum_5, hap_hu_g11_5, hap_hu_g13_5⟩
      · obtain ⟨A32_5_6, m33_5_6, cp34_5_6, hQe, hu_5_6, hum_5_6, hap_hu_g11_5_6, hap_hu_g13_5_6⟩ := hQ1
        exact ⟨A32_5_6, m33_5_6, cp34_5_6, hQe, hu_5_6.ext hQ2, hum_5_6, hap_hu_g11_5_6, hap_hu_g13_5_6⟩
      · exact hQ1
      · obtain ⟨A32_5_6_8, m33_5_6_8, cp34_5_6_8, hQe, hu_5_6_8, hum_5_6_8, hap_hu_g11_5_6_8, hap_hu_g13_5_6_8⟩ := hQ1
        exact ⟨A32_5_6_8, m33_5_6_8, cp34_5_6_8, hQe, hu_5_6_8.ext hQ2, hum_5_6_8, hap_hu_g11_5_6_8, hap_hu_g13_5_6_8⟩
    · refine ⟨⟨rfl, ⟨rfl, trivial⟩, ?_⟩, ⟨rfl, trivial, ?_⟩, ⟨rfl, ⟨rfl, trivial⟩, ?_⟩, ⟨rfl, trivial, ?_⟩, ⟨rfl, trivial, ?_⟩, ⟨rfl, trivial, ?_⟩, ⟨rfl, trivial, ?_⟩, ⟨rfl, trivial, ?_⟩, ⟨rfl, trivial, ?_⟩, trivial⟩
      · intro w25 hE
        intro R
        refine WL.fieldA (off := 1) Try.fla31_1 rfl rfl ?_
        exact WL.done ⟨_, rfl, rfl, rfl⟩
      · intro w26 hE
        have hE := hE rfl
        have hB := ext_trans hB hE
        have hVg11 := hVg11.ext hE
        rintro _ rfl
        intro R
        refine WL.load Try.underlying23 rfl rfl (hVg11.vcells 1 _ rfl) rfl ?_
        exact WL.done ⟨_, rfl, ext_refl _, rfl⟩
      · intro w27 hE
        intro R
        refine WL.move rfl rfl ?_
        exact WL.done ⟨_, rfl, rfl, rfl⟩
      · intro w28 hE
        have hE := hE rfl
        have hB := ext_trans hB hE
        rintro _ rfl
        intro R
        refine WL.call Try.func74 rfl Try.nm74 rfl rfl (count_c (by omega)) ?_
        rintro _ w29 ⟨rfl, hGw29⟩
        have hB := ext_trans hB hGw29
        exact WL.done ⟨_, rfl, hGw29, rfl⟩
      · intro w30 hE
        have hE := hE rfl
        have hB := ext_trans hB hE
        have hVg13 := hVg13.ext hE
        have htn := htn.ext hE
        have hVg11 := hVg11.ext hE
        rintro _ rfl
        rintro _ rfl
        intro R
        refine WL.call Try.func73 rfl Try.nm73 rfl rfl (PowD_ok htn.rd (digs_lim _) (qnum qa) (nv_digs _) (cntZ X) (by omega) (by omega) (by omega) k1) ?_
        rintro _ w31 ⟨A32, m33, cp34, rfl, hGw31, hu, hum⟩
        have hap_hu_g11 := ap_new hu (hVg11.bl_ge _ rfl).2
        have hap_hu_g13 := ap_new hu (hVg13.bl_ge _ rfl).2
        have hu := hu.low (b' := w.heap.size) hB.size
        have hB := ext_trans hB hGw31
        have hu_l := hu.rd.ulen
        exact WL.done ⟨_, rfl, hGw31, ⟨A32, m33, cp34, rfl, hu, hum, hap_hu_g11, hap_hu_g13⟩⟩
      · intro w35 hE
        rintro _ ⟨A32, m33, cp34, rfl, hu, hum, hap_hu_g11, hap_hu_g13⟩
        intro R
        refine WL.move rfl rfl ?_
        exact WL.done ⟨_, rfl, rfl, ⟨A32, m33, cp34, rfl, hu, hum, hap_hu_g11, hap_hu_g13⟩⟩
      · intro w36 hE
        rintro _ ⟨A32_5, m33_5, cp34_5, rfl, hu_5, hum_5, hap_hu_g11_5, hap_hu_g13_5⟩
        intro R
        refine WL.extract rfl rfl rfl ?_
        exact WL.done ⟨_, rfl, rfl, ⟨A32_5, m33_5, cp34_5, rfl, hu_5, hum_5, hap_hu_g11_5, hap_hu_g13_5⟩⟩
      · intro w37 hE
        rintro _ ⟨A32_5, m33_5, cp34_5, rfl, hu_5, hum_5, hap_hu_g11_5, hap_hu_g13_5⟩
        intro R
        refine WL.extract rfl rfl rfl ?_
        exact WL.done ⟨_, rfl, rfl, rfl⟩
      · intro w38 hE
        rintro _ ⟨A32_5_6, m33_5_6, cp34_5_6, rfl, hu_5_6, hum_5_6, hap_hu_g11_5_6, hap_hu_g13_5_6⟩
        intro R
        refine WL.assign rfl rfl ?_
        exact WL.done ⟨_, rfl, rfl, ⟨A32_5_6, m33_5_6, cp34_5_6, rfl, hu_5_6, hum_5_6, hap_hu_g11_5_6, hap_hu_g13_5_6⟩⟩
    · intro vals w39 hT hVs
      have hB := ext_trans hB hT
      have hVg13 := hVg13.ext hT
      have htd := htd.ext hT
      have hVg11 := hVg11.ext hT
      have hv0 : vals 0 = _ := hVs 0 (by decide)
      have hv1 : vals 1 = _ := hVs 1 (by decide)
      have hv2 : vals 2 = _ := hVs 2 (by decide)
      have hv3 : vals 3 = _ := hVs 3 (by decide)
      obtain ⟨A32, m33, cp34, hv4, hu, hum, hap_hu_g11, hap_hu_g13⟩ := hVs 4 (by decide)
      obtain ⟨A32_5, m33_5, cp34_5, hv5, hu_5, hum_5, hap_hu_g11_5, hap_hu_g13_5⟩ := hVs 5 (by decide)
      obtain ⟨A32_5_6, m33_5_6, cp34_5_6, hv6, hu_5_6, hum_5_6, hap_hu_g11_5_6, hap_hu_g13_5_6⟩ := hVs 6 (by decide)
      have hv7 : vals 7 = _ := hVs 7 (by decide)
      obtain ⟨A32_5_6_8, m33_5_6_8, cp34_5_6_8, hv8, hu_5_6_8, hum_5_6_8, hap_hu_g11_5_6_8, hap_hu_g13_5_6_8⟩ := hVs 8 (by decide)
      rw [show (List.filterMap (fun i => Option.map (fun t => (t, vals i)) (dstAt _ i)) (List.range _)) = [(23, .pointer (some ((⟨g11, 0, none⟩ : Addr).add 1))), (24, .slice A16 m17 c18), (25, .int .i64 X), (26, .int .i64 ((cntZ X : Nat) : Int)), (27, .tuple #[.slice A32 m33 cp34, .int .i64 (0 : Int)]), (22, .tuple #[.slice A32_5 m33_5 cp34_5, .int .i64 (0 : Int)]), (28, .slice A32_5_6 m33_5_6 cp34_5_6), (29, .int .i64 (0 : Int)), (6, .slice A32_5_6_8 m33_5_6_8 cp34_5_6_8)] from by
        show [(23, vals 0), (24, vals 1), (25, vals 2), (26, vals 3), (27, vals 4), (22, vals 5), (28, vals 6), (29, vals 7), (6, vals 8)] = _
        rw [hv0, hv1, hv2, hv3, hv4, hv5, hv6, hv7, hv8]]
      refine WA.step [9] (by decide +kernel) rfl ?_
      intro iQ hQ
      simp only [List.mem_cons, List.not_mem_nil, or_false] at hQ
      obtain rfl := hQ
      · refine ⟨_, rfl, ?_⟩
        refine WL.assign rfl rfl ?_
        refine WL.done ?_
        refine WA.done (by decide +kernel) ?_
        refine W.seq ?_
        refine W.seq ?_
        refine W.region ?_
        refine WL.move rfl rfl ?_
        refine WL.neq rfl rfl rfl (fun c40 => ?_) (fun c40 => ?_)
        · exfalso
          omega
        · refine WL.done ?_
          refine W.condF rfl ?_
          refine W.skip ?_
          refine W.seq ?_
          refine W.drawT 9 [⟨[], [2], true⟩, ⟨[0], [], false⟩, ⟨[], [1], true⟩, ⟨[2], [], false⟩, ⟨[1, 3], [], false⟩, ⟨[4], [], true⟩, ⟨[5], [], true⟩, ⟨[5], [], true⟩, ⟨[6], [], true⟩] [[(2, .pointer (some ⟨g11, 0, none⟩))], [], [(1, .int .i64 X)], [], [], [], [], [], []] (fun iQ => [fun v wQ => v = .pointer (some ((⟨g11, 0, none⟩ : Addr).add 2)), fun v wQ => v = .slice A19 m20 c21, fun v wQ => v = .int .i64 X, fun v wQ => v = .int .i64 ((cntZ X : Nat) : Int), fun v wQ => v = .tuple #[.slice none 0 0, .int .i64 (8 : Int)], fun v wQ => v = .tuple #[.slice none 0 0, .int .i64 (8 : Int)], fun v wQ => v = .slice none 0 0, fun v wQ => v = .int .i64 (8 : Int), fun v wQ => v = .slice none 0 0].getD iQ (fun _ _ => True)) Try.mixed (by kernel_rfl) ?_ ?_ ?_
          · refine Vs_monoT _ ?_
            intro VQ hVQ vQ wQ1 wQ2 hQ1 hQ2
            simp only [List.mem_cons, List.not_mem_nil, or_false] at hVQ
            rcases hVQ with rfl | rfl | rfl | rfl | rfl | rfl | rfl | rfl | rfl
            · exact hQ1
            · exact hQ1
            · exact hQ1
            · exact hQ1
            · exact hQ1
            · exact hQ1
            · exact hQ1
            · exact hQ1
            · exact hQ1
          · refine ⟨⟨rfl, ⟨rfl, trivial⟩, ?_⟩, ⟨rfl, trivial, ?_⟩, ⟨rfl, ⟨rfl, trivial⟩, ?_⟩, ⟨rfl, trivial, ?_⟩, ⟨rfl, trivial, ?_⟩, ⟨rfl, trivial, ?_⟩, ⟨rfl, trivial, ?_⟩, ⟨rfl, trivial, ?_⟩, ⟨rfl, trivial, ?_⟩, trivial⟩
            · intro w41 hE
              intro R
              refine WL.fieldA (off := 2) Try.fla31_2 rfl rfl ?_
              exact WL.done ⟨_, rfl, rfl, rfl⟩
            · intro w42 hE
              have hE := hE rfl
              have hB := ext_trans hB hE
              have hVg11 := hVg11.ext hE
              rintro _ rfl
              intro R
              refine WL.load Try.underlying23 rfl rfl (hVg11.vcells 2 _ rfl) rfl ?_
              exact WL.done ⟨_, rfl, ext_refl _, rfl⟩
            · intro w43 hE
              intro R
              refine WL.move rfl rfl ?_
              exact WL.done ⟨_, rfl, rfl, rfl⟩
            · intro w44 hE
              have hE := hE rfl
              have hB := ext_trans hB hE
              rintro _ rfl
              intro R
              refine WL.call Try.func74 rfl Try.nm74 rfl rfl (count_c (by omega)) ?_
              rintro _ w45 ⟨rfl, hGw45⟩
              have hB := ext_trans hB hGw45
              exact WL.done ⟨_, rfl, hGw45, rfl⟩
            · intro w46 hE
              have hE := hE rfl
              have hB := ext_trans hB hE
              have htd := htd.ext hE
              rintro _ rfl
              rintro _ rfl
              intro R
              refine WL.call Try.func73 rfl Try.nm73 rfl rfl (PowD_err htd.rd (digs_lim _) qa.den (nv_digs _) (cntZ X) (by omega) (by omega) (by omega) k2) ?_
              rintro _ w47 ⟨rfl, hGw47⟩
              have hB := ext_trans hB hGw47
              exact WL.done ⟨_, rfl, hGw47, rfl⟩
            · intro w48 hE
              rintro _ rfl
              intro R
              refine WL.move rfl rfl ?_
              exact WL.done ⟨_, rfl, rfl, rfl⟩
            · intro w49 hE
              rintro _ rfl
              intro R
              refine WL.extract rfl rfl rfl ?_
              exact WL.done ⟨_, rfl, rfl, rfl⟩
            · intro w50 hE
              rintro _ rfl
              intro R
              refine WL.extract rfl rfl rfl ?_
              exact WL.done ⟨_, rfl, rfl, rfl⟩
            · intro w51 hE
              rintro _ rfl
              intro R
              refine WL.assign rfl rfl ?_
              exact WL.done ⟨_, rfl, rfl, rfl⟩
          · intro vals w52 hT hVs
            have hB := ext_trans hB hT
            have hVg13 := hVg13.ext hT
            have hv0 : vals 0 = _ := hVs 0 (by decide)
            have hv1 : vals 1 = _ := hVs 1 (by decide)
            have hv2 : vals 2 = _ := hVs 2 (by decide)
            have hv3 : vals 3 = _ := hVs 3 (by decide)
            have hv4 : vals 4 = _ := hVs 4 (by decide)
            have hv5 : vals 5 = _ := hVs 5 (by decide)
            have hv6 : vals 6 = _ := hVs 6 (by decide)
            have hv7 : vals 7 = _ := hVs 7 (by decide)
            have hv8 : vals 8 = _ := hVs 8 (by decide)
            rw [show (List.filterMap (fun i => Option.map (fun t => (t, vals i)) (dstAt _ i)) (List.range _)) = [(35, .pointer (some ((⟨g11, 0, none⟩ : Addr).add 2))), (36, .slice A19 m20 c21), (37, .int .i64 X), (38, .int .i64 ((cntZ X : Nat) : Int)), (39, .tuple #[.slice none 0 0, .int .i64 (8 : Int)]), (34, .tuple #[.slice none 0 0, .int .i64 (8 : Int)]), (40, .slice none 0 0), (41, .int .i64 (8 : Int)), (8, .slice none 0 0)] from by
              show [(35, vals 0), (36, vals 1), (37, vals 2), (38, vals 3), (39, vals 4), (34, vals 5), (40, vals 6), (41, vals 7), (8, vals 8)] = _
              rw [hv0, hv1, hv2, hv3, hv4, hv5, hv6, hv7, hv8]]
            refine WA.step [9] (by decide +kernel) rfl ?_
            intro iQ hQ
            simp only [List.mem_cons, List.not_mem_nil, or_false] at hQ
            obtain rfl := hQ
            · refine ⟨_, rfl, ?_⟩
              refine WL.assign rfl rfl ?_
              refine WL.done ?_
              refine WA.done (by decide +kernel) ?_
              refine W.seq ?_
              refine W.seq ?_
              refine W.region ?_
              refine WL.move rfl rfl ?_
              refine WL.neq rfl rfl rfl (fun c53 => ?_) (fun c53 => ?_)
              · refine WL.done ?_
                refine W.condT rfl ?_
                refine W.seq ?_
                refine W.region ?_
                refine WL.build (cells := #[.bool false, .slice none 0 0, .slice none 0 0]) Try.bld31 rfl rfl rfl ?_
                refine WL.move rfl rfl ?_
                refine WL.storeV Try.el31 rfl rfl rfl rfl hVg13 ?_
                have hOld55 := hVg13
                intro w54 hVg13 hGw54
                change Own _ _ _ _ _ _ _ [.bool false, .slice none 0 0, .slice none 0 0] at hVg13
                have hB := ext_own hB hGw54 (fun g hg => (hOld55.bl_ge g hg).1)
                refine WL.assign rfl rfl ?_
                refine WL.done ?_
                refine W.ret ?_
                refine ⟨[.agg #[.bool false, .slice none 0 0, .slice none 0 0], .int .i64 (8 : Int)], ⟨_, _, _, rfl, rfl, run_loadV (cs := [.bool false, .slice none 0 0, .slice none 0 0]) Try.el31 Try.agg31 rfl hVg13.vcells, ⟨_, _, rfl, rfl, rfl⟩⟩, ?_⟩
                exact ⟨rfl, hB⟩
              · exfalso
                omega

set_option maxHeartbeats 1000000 in
theorem rqPow_p_okerr {w : World} {Ban : Nat} {Aan : Option Addr} {man can : Nat} {xan : List Nat} (han : Rd Ban w 1 Aan man can (us xan)) {Bad : Nat} {Aad : Option Addr} {mad cad : Nat} {xad : List Nat} (had : Rd Bad w 1 Aad mad cad (us xad)) {na : Bool} (hLan : Lim xan) (hLad : Lim xad) (qa : Rat) (hqa : val na (nv xan) (nv xad) = qa) (hsa : man ≤ 4194304 ∧ mad ≤ 4194304) {X : Int} (hX : -9223372036854775808 ≤ X ∧ X ≤ 9223372036854775807) (hsm : man ≤ 1000 ∧ mad ≤ 1000) (hsg : 0 ≤ X) (h1 : (qnum qa) ^ X.natAbs < bigN) (h2 : ¬ (qa.den) ^ X.natAbs < bigN) :
    Calls Try.prog 41 #[.agg #[.bool na, .slice Aan man can, .slice Aad mad cad], .int .i64 X] w fun e w2 => ∃ v, e = .returned v ∧ (fun v w2 => v = .tuple #[.agg #[.bool false, .slice none 0 0, .slice none 0 0], .int .i64 8] ∧ w.grownBy w2 none) v w2 := by
  have han := han.norm
  have han_l := han.ulen
  have han_x := han.max
  simp only [maxLen] at han_x
  have han_c := han.cap
  have had := had.norm
  have had_l := had.ulen
  have had_x := had.max
  simp only [maxLen] at had_x
  have had_c := had.cap
  have han0 := han
  have had0 := had
  obtain ⟨zp1, zp2, zp3⟩ := zp_pos (q := qa) hsg
  have hcl := crZ_lt hX
  obtain ⟨pu1, pu2⟩ := powcap (x := qnum qa) (crZ_cap X)
  obtain ⟨pv1, pv2⟩ := powcap (x := qa.den) (crZ_cap X)
  have ht2 := tm2 X
  have k1 := pu1.2 h1
  have e1 := pu2 h1
  have k2 := mt pv1.1 h2
  have hcz : ((crZ X : Nat) : Int) = X := by unfold crZ; rw [if_neg (by omega)]; omega
  have hB := ext_refl w
  refine calls_of_Wc (vs := [.agg #[.bool na, .slice Aan man can, .slice Aad mad cad], .int .i64 X]) [.cell 4 31, .tmp 5] Try.func41 rfl rfl rfl rfl ?_
  refine W.seq ?_
  refine W.region ?_
  refine WL.box Try.el31 rfl rfl rfl ?_
  intro g11 w12 hg_g11 hVg11 hGw12
  change Own _ _ _ _ _ _ _ [.bool na, .slice Aan man can, .slice Aad mad cad] at hVg11
  have hVg11 := hVg11.low (b' := w.heap.size) hB.size
  have hB := ext_trans hB hGw12
  have han := han0.ext hB
  have had := had0.ext hB
  refine WL.alloc Try.el31 rfl ?_
  intro g13 w14 hg_g13 hVg13 hGw14
  change Own _ _ _ _ _ _ _ [.bool false, .slice none 0 0, .slice none 0 0] at hVg13
  have hlt_g11_g13 : g11 < g13 := by rw [hg_g13]; exact (hVg11.bl_ge _ rfl).2
  have hVg13 := hVg13.low (b' := w.heap.size) hB.size
  have hB := ext_trans hB hGw14
  have han := han0.ext hB
  have had := had0.ext hB
  have hVg11 := hVg11.ext hGw14
  refine WL.assign rfl rfl ?_
  refine WL.done ?_
  refine W.seq ?_
  refine W.region ?_
  refine WL.loadV (cs := [.bool na, .slice Aan man can, .slice Aad mad cad]) Try.el31 Try.agg31 rfl rfl hVg11.vcells rfl ?_
  refine WL.call Try.func20 rfl Try.nm20 rfl rfl (rqTrim_c han had hLan hLad qa hqa (by omega)) ?_
  rintro _ w15 ⟨A16, m17, c18, A19, m20, c21, rfl, hGw15, htn, htd, htm⟩
  have hap_htn_g11 := ap_new htn (hVg11.bl_ge _ rfl).2
  have hap_htd_g11 := ap_new htd (hVg11.bl_ge _ rfl).2
  have htn := htn.low (b' := w.heap.size) hB.size
  have htd := htd.low (b' := w.heap.size) hB.size
  have hB := ext_trans hB hGw15
  have hVg11 := hVg11.ext hGw15
  have hVg13 := hVg13.ext hGw15
  have htn_l := htn.rd.ulen
  have htd_l := htd.rd.ulen
  refine WL.storeV Try.el31 rfl rfl rfl rfl hVg11 ?_
  have hOld23 := hVg11
  intro w22 hVg11 hGw22
  change Own _ _ _ _ _ _ _ [.bool (qneg (qa)), .slice A16 m17 c18, .slice A19 m20 c21] at hVg11
  have hB := ext_own hB hGw22 (fun g hg => (hOld23.bl_ge g hg).1)
  have hVg13 := hVg13.grown hGw22 (apart (by omega))
  have htn := htn.grown hGw22 (ap_row (by first | exact hap_htn_g11 | exact ap_type htn hOld23 (by decide)))
  have htd := htd.grown hGw22 (ap_row (by first | exact hap_htd_g11 | exact ap_type htd hOld23 (by decide)))
  refine WL.done ?_
  refine W.seq ?_
  refine W.seq ?_
  refine W.region ?_
  refine WL.move rfl rfl ?_
  refine WL.lss rfl rfl rfl (fun c24 => ?_) (fun c24 => ?_)
  · exfalso
    omega
  · refine WL.done ?_
    refine W.condF rfl ?_
    refine W.skip ?_
    refine W.seq ?_
    refine W.region ?_
    refine WL.move rfl rfl ?_
    refine WL.rem (r := (X.tmod 2)) rfl rfl (by omega) rfl rfl ?_
    refine WL.neq rfl rfl rfl (fun c25 => ?_) (fun c25 => ?_)
    · refine WL.assign rfl rfl ?_
      refine WL.done ?_
      refine W.seq ?_
      refine W.seq ?_
      refine W.region ?_
      refine WL.move rfl rfl ?_
      refine WL.lss rfl rfl rfl (fun c26 => ?_) (fun c26 => ?_)
      · exfalso
        omega
      · refine WL.done ?_
        refine W.condF rfl ?_
        refine W.skip ?_
        refine W.seq ?_
        refine W.region ?_
        refine WL.fieldA (off := 1) Try.fla31_1 rfl rfl ?_
        refine WL.load Try.underlying23 rfl rfl (hVg11.vcells 1 _ rfl) rfl ?_
        refine WL.move rfl rfl ?_
        refine WL.call Try.func76 rfl Try.nm76 rfl rfl (rPowD_ok htn.rd (digs_lim _) (qnum qa) (nv_digs _) (crZ X) (by omega) (by omega) (by omega) k1) ?_
        rintro _ w27 ⟨A28, m29, cp30, rfl, hGw27, hu, hum⟩
        have hu := hu.low (b' := w.heap.size) hB.size
        have hB := ext_trans hB hGw27
        have hVg13 := hVg13.ext hGw27
        have htd := htd.ext hGw27
        have hVg11 := hVg11.ext hGw27
        have hu_l := hu.rd.ulen
        refine WL.move rfl rfl ?_
        refine WL.extract rfl rfl rfl ?_
        refine WL.extract rfl rfl rfl ?_
        refine WL.assign rfl rfl ?_
        refine WL.assign rfl rfl ?_
        refine WL.done ?_
        refine W.seq ?_
        refine W.region ?_
        refine WL.fieldA (off := 2) Try.fla31_2 rfl rfl ?_
        refine WL.load Try.underlying23 rfl rfl (hVg11.vcells 2 _ rfl) rfl ?_
        refine WL.move rfl rfl ?_
        refine WL.call Try.func76 rfl Try.nm76 rfl rfl (rPowD_err htd.rd (digs_lim _) qa.den (nv_digs _) (crZ X) (by omega) (by omega) (by omega) k2) ?_
        rintro _ w31 ⟨rfl, hGw31⟩
        have hB := ext_trans hB hGw31
        have hVg13 := hVg13.ext hGw31
        refine WL.move rfl rfl ?_
        refine WL.extract rfl rfl rfl ?_
        refine WL.extract rfl rfl rfl ?_
        refine WL.assign rfl rfl ?_
        refine WL.assign rfl rfl ?_
        refine WL.done ?_
        refine W.seq ?_
        refine W.seq ?_
        refine W.region ?_
        refine WL.move rfl rfl ?_
        refine WL.neq rfl rfl rfl (fun c32 => ?_) (fun c32 => ?_)
        · exfalso
          omega
        · refine WL.move rfl rfl ?_
          refine WL.take rfl ?_
          refine WL.move rfl rfl ?_
          refine WL.take rfl ?_
          refine WL.neq rfl rfl rfl (fun c33 => ?_) (fun c33 => ?_)
          · refine WL.pick rfl rfl rfl ?_
            refine WL.done ?_
            refine W.condT rfl ?_
            refine W.seq ?_
            refine W.region ?_
            refine WL.build (cells := #[.bool false, .slice none 0 0, .slice none 0 0]) Try.bld31 rfl rfl rfl ?_
            refine WL.storeV Try.el31 rfl rfl rfl rfl hVg13 ?_
            have hOld35 := hVg13
            intro w34 hVg13 hGw34
            change Own _ _ _ _ _ _ _ [.bool false, .slice none 0 0, .slice none 0 0] at hVg13
            have hB := ext_own hB hGw34 (fun g hg => (hOld35.bl_ge g hg).1)
            refine WL.assign rfl rfl ?_
            refine WL.done ?_
            refine W.ret ?_
            refine ⟨[.agg #[.bool false, .slice none 0 0, .slice none 0 0], .int .i64 (8 : Int)], ⟨_, _, _, rfl, rfl, run_loadV (cs := [.bool false, .slice none 0 0, .slice none 0 0]) Try.el31 Try.agg31 rfl hVg13.vcells, ⟨_, _, rfl, rfl, rfl⟩⟩, ?_⟩
            exact ⟨rfl, hB⟩
          · exfalso
            omega
    · refine WL.assign rfl rfl ?_
      refine WL.done ?_
      refine W.seq ?_
      refine W.seq ?_
      refine W.region ?_
      refine WL.move rfl rfl ?_
      refine WL.lss rfl rfl rfl (fun c36 => ?_) (fun c36 => ?_)
      · exfalso
        omega
      · refine WL.done ?_
        refine W.condF rfl ?_
        refine W.skip ?_
        refine W.seq ?_
        refine W.region ?_
        refine WL.fieldA (off := 1) Try.fla31_1 rfl rfl ?_
        refine WL.load Try.underlying23 rfl rfl (hVg11.vcells 1 _ rfl) rfl ?_
        refine WL.move rfl rfl ?_
        refine WL.call Try.func76 rfl Try.nm76 rfl rfl (rPowD_ok htn.rd (digs_lim _) (qnum qa) (nv_digs _) (crZ X) (by omega) (by omega) (by omega) k1) ?_
        rintro _ w37 ⟨A38, m39, cp40, rfl, hGw37, hu, hum⟩
        have hu := hu.low (b' := w.heap.size) hB.size
        have hB := ext_trans hB hGw37
        have hVg13 := hVg13.ext hGw37
        have htd := htd.ext hGw37
        have hVg11 := hVg11.ext hGw37
        have hu_l := hu.rd.ulen
        refine WL.move rfl rfl ?_
        refine WL.extract rfl rfl rfl ?_
        refine WL.extract rfl rfl rfl ?_
        refine WL.assign rfl rfl ?_
        refine WL.assign rfl rfl ?_
        refine WL.done ?_
        refine W.seq ?_
        refine W.region ?_
        refine WL.fieldA (off := 2) Try.fla31_2 rfl rfl ?_
        refine WL.load Try.underlying23 rfl rfl (hVg11.vcells 2 _ rfl) rfl ?_
        refine WL.move rfl rfl ?_
        refine WL.call Try.func76 rfl Try.nm76 rfl rfl (rPowD_err htd.rd (digs_lim _) qa.den (nv_digs _) (crZ X) (by omega) (by omega) (by omega) k2) ?_
        rintro _ w41 ⟨rfl, hGw41⟩
        have hB := ext_trans hB hGw41
        have hVg13 := hVg13.ext hGw41
        refine WL.move rfl rfl ?_
        refine WL.extract rfl rfl rfl ?_
        refine WL.extract rfl rfl rfl ?_
        refine WL.assign rfl rfl ?_
        refine WL.assign rfl rfl ?_
        refine WL.done ?_
        refine W.seq ?_
        refine W.seq ?_
        refine W.region ?_
        refine WL.move rfl rfl ?_
        refine WL.neq rfl rfl rfl (fun c42 => ?_) (fun c42 => ?_)
        · exfalso
          omega
        · refine WL.move rfl rfl ?_
          refine WL.take rfl ?_
          refine WL.move rfl rfl ?_
          refine WL.take rfl ?_
          refine WL.neq rfl rfl rfl (fun c43 => ?_) (fun c43 => ?_)
          · refine WL.pick rfl rfl rfl ?_
            refine WL.done ?_
            refine W.condT rfl ?_
            refine W.seq ?_
            refine W.region ?_
            refine WL.build (cells := #[.bool false, .slice none 0 0, .slice none 0 0]) Try.bld31 rfl rfl rfl ?_
            refine WL.storeV Try.el31 rfl rfl rfl rfl hVg13 ?_
            have hOld45 := hVg13
            intro w44 hVg13 hGw44
            change Own _ _ _ _ _ _ _ [.bool false, .slice none 0 0, .slice none 0 0] at hVg13
            have hB := ext_own hB hGw44 (fun g hg => (hOld45.bl_ge g hg).1)
            refine WL.assign rfl rfl ?_
            refine WL.done ?_
            refine W.ret ?_
            refine ⟨[.agg #[.bool false, .slice none 0 0, .slice none 0 0], .int .i64 (8 : Int)], ⟨_, _, _, rfl, rfl, run_loadV (cs := [.bool false, .slice none 0 0, .slice none 0 0]) Try.el31 Try.agg31 rfl hVg13.vcells, ⟨_, _, rfl, rfl, rfl⟩⟩, ?_⟩
            exact ⟨rfl, hB⟩
          · exfalso
            omega

set_option maxHeartbeats 1000000 in
theorem qPow_p_errok {w : World} {Ban : Nat} {Aan : Option Addr} {man can : Nat} {xan : List Nat} (han : Rd Ban w 1 Aan man can (us xan)) {Bad : Nat} {Aad : Option Addr} {mad cad : Nat} {xad : List Nat} (had : Rd Bad w 1 Aad mad cad (us xad)) {na : Bool} (hLan : Lim xan) (hLad : Lim xad) (qa : Rat) (hqa : val na (nv xan) (nv xad) = qa) (hsa : man ≤ 4194304 ∧ mad ≤ 4194304) {X : Int} (hX : -9223372036854775808 ≤ X ∧ X ≤ 9223372036854775807) (hsm : man ≤ 1000 ∧ mad ≤ 1000) (hsg : 0 ≤ X) (h1 : ¬ (qnum qa) ^ X.natAbs < bigN) (h2 : (qa.den) ^ X.natAbs < bigN) :
    Calls Try.prog 40 #[.agg #[.bool na, .slice Aan man can, .slice Aad mad cad], .int .i64 X] w fun e w2 => ∃ v, e = .returned v ∧ (fun v w2 => v = .tuple #[.agg #[.bool false, .slice none 0 0, .slice none 0 0], .int .i64 8] ∧ w.grownBy w2 none) v w2 := by
  have han := han.norm
  have han_l := han.ulen
  have han_x := han.max
  simp only [maxLen] at han_x
  have han_c := han.cap
  have had := had.norm
  have had_l := had.ulen
  have had_x := had.max
  simp only [maxLen] at had_x
  have had_c := had.cap
  have han0 := han
  have had0 := had
  obtain ⟨zp1, zp2, zp3⟩ := zp_pos (q := qa) hsg
  have hcl := cntZ_lt hX
  obtain ⟨pu1, pu2⟩ := powcap (x := qnum qa) (cntZ_cap X)
  obtain ⟨pv1, pv2⟩ := powcap (x := qa.den) (cntZ_cap X)
  have ht2 := tm2 X
  have k1 := mt pu1.1 h1
  have k2 := pv1.2 h2
  have e2 := pv2 h2
  have hB := ext_refl w
  refine calls_of_Wc (vs := [.agg #[.bool na, .slice Aan man can, .slice Aad mad cad], .int .i64 X]) [.cell 4 31, .tmp 5] Try.func40 rfl rfl rfl rfl ?_
  refine W.seq ?_
  refine W.region ?_
  refine WL.box Try.el31 rfl rfl rfl ?_
  intro g11 w12 hg_g11 hVg11 hGw12
  change Own _ _ _ _ _ _ _ [.bool na, .slice Aan man can, .slice Aad mad cad] at hVg11
  have hVg11 := hVg11.low (b' := w.heap.size) hB.size
  have hB := ext_trans hB hGw12
  have han := han0.ext hB
  have had := had0.ext hB
  refine WL.alloc Try.el31 rfl ?_
  intro g13 w14 hg_g13 hVg13 hGw14
  change Own _ _ _ _ _ _ _ [.bool false, .slice none 0 0, .slice none 0 0] at hVg13
  have hlt_g11_g13 : g11 < g13 := by rw [hg_g13]; exact (hVg11.bl_ge _ rfl).2
  have hVg13 := hVg13.low (b' := w.heap.size) hB.size
  have hB := ext_trans hB hGw14
  have han := han0.ext hB
  have had := had0.ext hB
  have hVg11 := hVg11.ext hGw14
  refine WL.assign rfl rfl ?_
  refine WL.done ?_
  refine W.seq ?_
  refine W.region ?_
  refine WL.loadV (cs := [.bool na, .slice Aan man can, .slice Aad mad cad]) Try.el31 Try.agg31 rfl rfl hVg11.vcells rfl ?_
  refine WL.call Try.func19 rfl Try.nm19 rfl rfl (qTrim_c han had hLan hLad qa hqa (by omega)) ?_
  rintro _ w15 ⟨A16, m17, c18, A19, m20, c21, rfl, hGw15, htn, htd, htm⟩
  have hap_htn_g11 := ap_new htn (hVg11.bl_ge _ rfl).2
  have htn := htn.low (b' := w.heap.size) hB.size
  have htd := htd.low (b' := w.heap.size) hB.size
  have hB := ext_trans hB hGw15
  have hVg11 := hVg11.ext hGw15
  have hVg13 := hVg13.ext hGw15
  have htn_l := htn.rd.ulen
  have htd_l := htd.rd.ulen
  refine WL.storeV Try.el31 rfl rfl rfl rfl hVg11 ?_
  have hOld23 := hVg11
  intro w22 hVg11 hGw22
  change Own _ _ _ _ _ _ _ [.bool (qneg (qa)), .slice A16 m17 c18, .slice A19 m20 c21] at hVg11
  have hB := ext_own hB hGw22 (fun g hg => (hOld23.bl_ge g hg).1)
  have hVg13 := hVg13.grown hGw22 (apart (by omega))
  have htn := htn.grown hGw22 (ap_row (by first | exact hap_htn_g11 | exact ap_type htn hOld23 (by decide)))
  refine WL.done ?_
  refine W.seq ?_
  refine W.seq ?_
  refine W.region ?_
  refine WL.move rfl rfl ?_
  refine WL.lss rfl rfl rfl (fun c24 => ?_) (fun c24 => ?_)
  · exfalso
    omega
  · refine WL.done ?_
    refine W.condF rfl ?_
    refine W.skip ?_
    refine W.seq ?_
    refine W.drawT 9 [⟨[], [2], true⟩, ⟨[0], [], false⟩, ⟨[], [1], true⟩, ⟨[2], [], false⟩, ⟨[1, 3], [], false⟩, ⟨[4], [], true⟩, ⟨[5], [], true⟩, ⟨[5], [], true⟩, ⟨[6], [], true⟩] [[(2, .pointer (some ⟨g11, 0, none⟩))], [], [(1, .int .i64 X)], [], [], [], [], [], []] (fun iQ => [fun v wQ => v = .pointer (some ((⟨g11, 0, none⟩ : Addr).add 1)), fun v wQ => v = .slice A16 m17 c18, fun v wQ => v = .int .i64 X, fun v wQ => v = .int .i64 ((cntZ X : Nat) : Int), fun v wQ => v = .tuple #[.slice none 0 0, .int .i64 (8 : Int)], fun v wQ => v = .tuple #[.slice none 0 0, .int .i64 (8 : Int)], fun v wQ => v = .slice none 0 0, fun v wQ => v = .int .i64 (8 : Int), fun v wQ => v = .slice none 0 0].getD iQ (fun _ _ => True)) Try.mixed (by kernel_rfl) ?_ ?_ ?_
    · refine Vs_monoT _ ?_
      intro VQ hVQ vQ wQ1 wQ2 hQ1 hQ2
      simp only [List.mem_cons, List.not_mem_nil, or_false] at hVQ
      rcases hVQ with rfl | rfl | rfl | rfl | rfl | rfl | rfl | rfl | rfl
      · exact hQ1
      · exact hQ1
      · exact hQ1
      · exact hQ1
      · exact hQ1
      · exact hQ1
      · exact hQ1
      · exact hQ1
      · exact hQ1
    · refine ⟨⟨rfl, ⟨rfl, trivial⟩, ?_⟩, ⟨rfl, trivial, ?_⟩, ⟨rfl, ⟨rfl, trivial⟩, ?_⟩, ⟨rfl, trivial, ?_⟩, ⟨rfl, trivial, ?_⟩, ⟨rfl, trivial, ?_⟩, ⟨rfl, trivial, ?_⟩, ⟨rfl, trivial, ?_⟩, ⟨rfl, trivial, ?_⟩, trivial⟩
      · intro w25 hE
        intro R
        refine WL.fieldA (off := 1) Try.fla31_1 rfl rfl ?_
        exact WL.done ⟨_, rfl, rfl, rfl⟩
      · intro w26 hE
        have hE := hE rfl
        have hB := ext_trans hB hE
        have hVg11 := hVg11.ext hE
        rintro _ rfl
        intro R
        refine WL.load Try.underlying23 rfl rfl (hVg11.vcells 1 _ rfl) rfl ?_
        exact WL.done ⟨_, rfl, ext_refl _, rfl⟩
      · intro w27 hE
        intro R
        refine WL.move rfl rfl ?_
        exact WL.done ⟨_, rfl, rfl, rfl⟩
      · intro w28 hE
        have hE := hE rfl
        have hB := ext_trans hB hE
        rintro _ rfl
        intro R
        refine WL.call Try.func74 rfl Try.nm74 rfl rfl (count_c (by omega)) ?_
        rintro _ w29 ⟨rfl, hGw29⟩
        have hB := ext_trans hB hGw29
        exact WL.done ⟨_, rfl, hGw29, rfl⟩
      · intro w30 hE
        have hE := hE rfl
        have hB := ext_trans hB hE
        have htn := htn.ext hE
        rintro _ rfl
        rintro _ rfl
        intro R
        refine WL.call Try.func73 rfl Try.nm73 rfl rfl (PowD_err htn.rd (digs_lim _) (qnum qa) (nv_digs _) (cntZ X) (by omega) (by omega) (by omega) k1) ?_
        rintro _ w31 ⟨rfl, hGw31⟩
        have hB := ext_trans hB hGw31
        exact WL.done ⟨_, rfl, hGw31, rfl⟩
      · intro w32 hE
        rintro _ rfl
        intro R
        refine WL.move rfl rfl ?_
        exact WL.done ⟨_, rfl, rfl, rfl⟩
      · intro w33 hE
        rintro _ rfl
        intro R
        refine WL.extract rfl rfl rfl ?_
        exact WL.done ⟨_, rfl, rfl, rfl⟩
      · intro w34 hE
        rintro _ rfl
        intro R
        refine WL.extract rfl rfl rfl ?_
        exact WL.done ⟨_, rfl, rfl, rfl⟩
      · intro w35 hE
        rintro _ rfl
        intro R
        refine WL.assign rfl rfl ?_
        exact WL.done ⟨_, rfl, rfl, rfl⟩
    · intro vals w36 hT hVs
      have hB := ext_trans hB hT
      have hVg13 := hVg13.ext hT
      have hv0 : vals 0 = _ := hVs 0 (by decide)
      have hv1 : vals 1 = _ := hVs 1 (by decide)
      have hv2 : vals 2 = _ := hVs 2 (by decide)
      have hv3 : vals 3 = _ := hVs 3 (by decide)
      have hv4 : vals 4 = _ := hVs 4 (by decide)
      have hv5 : vals 5 = _ := hVs 5 (by decide)
      have hv6 : vals 6 = _ := hVs 6 (by decide)
      have hv7 : vals 7 = _ := hVs 7 (by decide)
      have hv8 : vals 8 = _ := hVs 8 (by decide)
      rw [show (List.filterMap (fun i => Option.map (fun t => (t, vals i)) (dstAt _ i)) (List.range _)) = [(23, .pointer (some ((⟨g11, 0, none⟩ : Addr).add 1))), (24, .slice A16 m17 c18), (25, .int .i64 X), (26, .int .i64 ((cntZ X : Nat) : Int)), (27, .tuple #[.slice none 0 0, .int .i64 (8 : Int)]), (22, .tuple #[.slice none 0 0, .int .i64 (8 : Int)]), (28, .slice none 0 0), (29, .int .i64 (8 : Int)), (6, .slice none 0 0)] from by
        show [(23, vals 0), (24, vals 1), (25, vals 2), (26, vals 3), (27, vals 4), (22, vals 5), (28, vals 6), (29, vals 7), (6, vals 8)] = _
        rw [hv0, hv1, hv2, hv3, hv4, hv5, hv6, hv7, hv8]]
      refine WA.step [9] (by decide +kernel) rfl ?_
      intro iQ hQ
      simp only [List.mem_cons, List.not_mem_nil, or_false] at hQ
      obtain rfl := hQ
      · refine ⟨_, rfl, ?_⟩
        refine WL.assign rfl rfl ?_
        refine WL.done ?_
        refine WA.done (by decide +kernel) ?_
        refine W.seq ?_
        refine W.seq ?_
        refine W.region ?_
        refine WL.move rfl rfl ?_
        refine WL.neq rfl rfl rfl (fun c37 => ?_) (fun c37 => ?_)
        · refine WL.done ?_
          refine W.condT rfl ?_
          refine W.seq ?_
          refine W.region ?_
          refine WL.build (cells := #[.bool false, .slice none 0 0, .slice none 0 0]) Try.bld31 rfl rfl rfl ?_
          refine WL.move rfl rfl ?_
          refine WL.storeV Try.el31 rfl rfl rfl rfl hVg13 ?_
          have hOld39 := hVg13
          intro w38 hVg13 hGw38
          change Own _ _ _ _ _ _ _ [.bool false, .slice none 0 0, .slice none 0 0] at hVg13
          have hB := ext_own hB hGw38 (fun g hg => (hOld39.bl_ge g hg).1)
          refine WL.assign rfl rfl ?_
          refine WL.done ?_
          refine W.ret ?_
          refine ⟨[.agg #[.bool false, .slice none 0 0, .slice none 0 0], .int .i64 (8 : Int)], ⟨_, _, _, rfl, rfl, run_loadV (cs := [.bool false, .slice none 0 0, .slice none 0 0]) Try.el31 Try.agg31 rfl hVg13.vcells, ⟨_, _, rfl, rfl, rfl⟩⟩, ?_⟩
          exact ⟨rfl, hB⟩
        · exfalso
          omega

set_option maxHeartbeats 1000000 in
theorem rqPow_p_errok {w : World} {Ban : Nat} {Aan : Option Addr} {man can : Nat} {xan : List Nat} (han : Rd Ban w 1 Aan man can (us xan)) {Bad : Nat} {Aad : Option Addr} {mad cad : Nat} {xad : List Nat} (had : Rd Bad w 1 Aad mad cad (us xad)) {na : Bool} (hLan : Lim xan) (hLad : Lim xad) (qa : Rat) (hqa : val na (nv xan) (nv xad) = qa) (hsa : man ≤ 4194304 ∧ mad ≤ 4194304) {X : Int} (hX : -9223372036854775808 ≤ X ∧ X ≤ 9223372036854775807) (hsm : man ≤ 1000 ∧ mad ≤ 1000) (hsg : 0 ≤ X) (h1 : ¬ (qnum qa) ^ X.natAbs < bigN) (h2 : (qa.den) ^ X.natAbs < bigN) :
    Calls Try.prog 41 #[.agg #[.bool na, .slice Aan man can, .slice Aad mad cad], .int .i64 X] w fun e w2 => ∃ v, e = .returned v ∧ (fun v w2 => v = .tuple #[.agg #[.bool false, .slice none 0 0, .slice none 0 0], .int .i64 8] ∧ w.grownBy w2 none) v w2 := by
  have han := han.norm
  have han_l := han.ulen
  have han_x := han.max
  simp only [maxLen] at han_x
  have han_c := han.cap
  have had := had.norm
  have had_l := had.ulen
  have had_x := had.max
  simp only [maxLen] at had_x
  have had_c := had.cap
  have han0 := han
  have had0 := had
  obtain ⟨zp1, zp2, zp3⟩ := zp_pos (q := qa) hsg
  have hcl := crZ_lt hX
  obtain ⟨pu1, pu2⟩ := powcap (x := qnum qa) (crZ_cap X)
  obtain ⟨pv1, pv2⟩ := powcap (x := qa.den) (crZ_cap X)
  have ht2 := tm2 X
  have k1 := mt pu1.1 h1
  have k2 := pv1.2 h2
  have e2 := pv2 h2
  have hcz : ((crZ X : Nat) : Int) = X := by unfold crZ; rw [if_neg (by omega)]; omega
  have hB := ext_refl w
  refine calls_of_Wc (vs := [.agg #[.bool na, .slice Aan man can, .slice Aad mad cad], .int .i64 X]) [.cell 4 31, .tmp 5] Try.func41 rfl rfl rfl rfl ?_
  refine W.seq ?_
  refine W.region ?_
  refine WL.box Try.el31 rfl rfl rfl ?_
  intro g11 w12 hg_g11 hVg11 hGw12
  change Own _ _ _ _ _ _ _ [.bool na, .slice Aan man can, .slice Aad mad cad] at hVg11
  have hVg11 := hVg11.low (b' := w.heap.size) hB.size
  have hB := ext_trans hB hGw12
  have han := han0.ext hB
  have had := had0.ext hB
  refine WL.alloc Try.el31 rfl ?_
  intro g13 w14 hg_g13 hVg13 hGw14
  change Own _ _ _ _ _ _ _ [.bool false, .slice none 0 0, .slice none 0 0] at hVg13
  have hlt_g11_g13 : g11 < g13 := by rw [hg_g13]; exact (hVg11.bl_ge _ rfl).2
  have hVg13 := hVg13.low (b' := w.heap.size) hB.size
  have hB := ext_trans hB hGw14
  have han := han0.ext hB
  have had := had0.ext hB
  have hVg11 := hVg11.ext hGw14
  refine WL.assign rfl rfl ?_
  refine WL.done ?_
  refine W.seq ?_
  refine W.region ?_
  refine WL.loadV (cs := [.bool na, .slice Aan man can, .slice Aad mad cad]) Try.el31 Try.agg31 rfl rfl hVg11.vcells rfl ?_
  refine WL.call Try.func20 rfl Try.nm20 rfl rfl (rqTrim_c han had hLan hLad qa hqa (by omega)) ?_
  rintro _ w15 ⟨A16, m17, c18, A19, m20, c21, rfl, hGw15, htn, htd, htm⟩
  have hap_htn_g11 := ap_new htn (hVg11.bl_ge _ rfl).2
  have hap_htd_g11 := ap_new htd (hVg11.bl_ge _ rfl).2
  have htn := htn.low (b' := w.heap.size) hB.size
  have htd := htd.low (b' := w.heap.size) hB.size
  have hB := ext_trans hB hGw15
  have hVg11 := hVg11.ext hGw15
  have hVg13 := hVg13.ext hGw15
  have htn_l := htn.rd.ulen
  have htd_l := htd.rd.ulen
  refine WL.storeV Try.el31 rfl rfl rfl rfl hVg11 ?_
  have hOld23 := hVg11
  intro w22 hVg11 hGw22
  change Own _ _ _ _ _ _ _ [.bool (qneg (qa)), .slice A16 m17 c18, .slice A19 m20 c21] at hVg11
  have hB := ext_own hB hGw22 (fun g hg => (hOld23.bl_ge g hg).1)
  have hVg13 := hVg13.grown hGw22 (apart (by omega))
  have htn := htn.grown hGw22 (ap_row (by first | exact hap_htn_g11 | exact ap_type htn hOld23 (by decide)))
  have htd := htd.grown hGw22 (ap_row (by first | exact hap_htd_g11 | exact ap_type htd hOld23 (by decide)))
  refine WL.done ?_
  refine W.seq ?_
  refine W.seq ?_
  refine W.region ?_
  refine WL.move rfl rfl ?_
  refine WL.lss rfl rfl rfl (fun c24 => ?_) (fun c24 => ?_)
  · exfalso
    omega
  · refine WL.done ?_
    refine W.condF rfl ?_
    refine W.skip ?_
    refine W.seq ?_
    refine W.region ?_
    refine WL.move rfl rfl ?_
    refine WL.rem (r := (X.tmod 2)) rfl rfl (by omega) rfl rfl ?_
    refine WL.neq rfl rfl rfl (fun c25 => ?_) (fun c25 => ?_)
    · refine WL.assign rfl rfl ?_
      refine WL.done ?_
      refine W.seq ?_
      refine W.seq ?_
      refine W.region ?_
      refine WL.move rfl rfl ?_
      refine WL.lss rfl rfl rfl (fun c26 => ?_) (fun c26 => ?_)
      · exfalso
        omega
      · refine WL.done ?_
        refine W.condF rfl ?_
        refine W.skip ?_
        refine W.seq ?_
        refine W.region ?_
        refine WL.fieldA (off := 1) Try.fla31_1 rfl rfl ?_
        refine WL.load Try.underlying23 rfl rfl (hVg11.vcells 1 _ rfl) rfl ?_
        refine WL.move rfl rfl ?_
        refine WL.call Try.func76 rfl Try.nm76 rfl rfl (rPowD_err htn.rd (digs_lim _) (qnum qa) (nv_digs _) (crZ X) (by omega) (by omega) (by omega) k1) ?_
        rintro _ w27 ⟨rfl, hGw27⟩
        have hB := ext_trans hB hGw27
        have hVg13 := hVg13.ext hGw27
        have htd := htd.ext hGw27
        have hVg11 := hVg11.ext hGw27
        refine WL.move rfl rfl ?_
        refine WL.extract rfl rfl rfl ?_
        refine WL.extract rfl rfl rfl ?_
        refine WL.assign rfl rfl ?_
        refine WL.assign rfl rfl ?_
        refine WL.done ?_
        refine W.seq ?_
        refine W.region ?_
        refine WL.fieldA (off := 2) Try.fla31_2 rfl rfl ?_
        refine WL.load Try.underlying23 rfl rfl (hVg11.vcells 2 _ rfl) rfl ?_
        refine WL.move rfl rfl ?_
        refine WL.call Try.func76 rfl Try.nm76 rfl rfl (rPowD_ok htd.rd (digs_lim _) qa.den (nv_digs _) (crZ X) (by omega) (by omega) (by omega) k2) ?_
        rintro _ w28 ⟨A29, m30, cp31, rfl, hGw28, hv, hvm⟩
        have hv := hv.low (b' := w.heap.size) hB.size
        have hB := ext_trans hB hGw28
        have hVg13 := hVg13.ext hGw28
        have hv_l := hv.rd.ulen
        refine WL.move rfl rfl ?_
        refine WL.extract rfl rfl rfl ?_
        refine WL.extract rfl rfl rfl ?_
        refine WL.assign rfl rfl ?_
        refine WL.assign rfl rfl ?_
        refine WL.done ?_
        refine W.seq ?_
        refine W.seq ?_
        refine W.region ?_
        refine WL.move rfl rfl ?_
        refine WL.neq rfl rfl rfl (fun c32 => ?_) (fun c32 => ?_)
        · refine WL.move rfl rfl ?_
          refine WL.pass rfl rfl rfl ?_
          refine WL.pass rfl rfl rfl ?_
          refine WL.pick rfl rfl rfl ?_
          refine WL.done ?_
          refine W.condT rfl ?_
          refine W.seq ?_
          refine W.region ?_
          refine WL.build (cells := #[.bool false, .slice none 0 0, .slice none 0 0]) Try.bld31 rfl rfl rfl ?_
          refine WL.storeV Try.el31 rfl rfl rfl rfl hVg13 ?_
          have hOld34 := hVg13
          intro w33 hVg13 hGw33
          change Own _ _ _ _ _ _ _ [.bool false, .slice none 0 0, .slice none 0 0] at hVg13
          have hB := ext_own hB hGw33 (fun g hg => (hOld34.bl_ge g hg).1)
          refine WL.assign rfl rfl ?_
          refine WL.done ?_
          refine W.ret ?_
          refine ⟨[.agg #[.bool false, .slice none 0 0, .slice none 0 0], .int .i64 (8 : Int)], ⟨_, _, _, rfl, rfl, run_loadV (cs := [.bool false, .slice none 0 0, .slice none 0 0]) Try.el31 Try.agg31 rfl hVg13.vcells, ⟨_, _, rfl, rfl, rfl⟩⟩, ?_⟩
          exact ⟨rfl, hB⟩
        · exfalso
          omega
    · refine WL.assign rfl rfl ?_
      refine WL.done ?_
      refine W.seq ?_
      refine W.seq ?_
      refine W.region ?_
      refine WL.move rfl rfl ?_
      refine WL.lss rfl rfl rfl (fun c35 => ?_) (fun c35 => ?_)
      · exfalso
        omega
      · refine WL.done ?_
        refine W.condF rfl ?_
        refine W.skip ?_
        refine W.seq ?_
        refine W.region ?_
        refine WL.fieldA (off := 1) Try.fla31_1 rfl rfl ?_
        refine WL.load Try.underlying23 rfl rfl (hVg11.vcells 1 _ rfl) rfl ?_
        refine WL.move rfl rfl ?_
        refine WL.call Try.func76 rfl Try.nm76 rfl rfl (rPowD_err htn.rd (digs_lim _) (qnum qa) (nv_digs _) (crZ X) (by omega) (by omega) (by omega) k1) ?_
        rintro _ w36 ⟨rfl, hGw36⟩
        have hB := ext_trans hB hGw36
        have hVg13 := hVg13.ext hGw36
        have htd := htd.ext hGw36
        have hVg11 := hVg11.ext hGw36
        refine WL.move rfl rfl ?_
        refine WL.extract rfl rfl rfl ?_
        refine WL.extract rfl rfl rfl ?_
        refine WL.assign rfl rfl ?_
        refine WL.assign rfl rfl ?_
        refine WL.done ?_
        refine W.seq ?_
        refine W.region ?_
        refine WL.fieldA (off := 2) Try.fla31_2 rfl rfl ?_
        refine WL.load Try.underlying23 rfl rfl (hVg11.vcells 2 _ rfl) rfl ?_
        refine WL.move rfl rfl ?_
        refine WL.call Try.func76 rfl Try.nm76 rfl rfl (rPowD_ok htd.rd (digs_lim _) qa.den (nv_digs _) (crZ X) (by omega) (by omega) (by omega) k2) ?_
        rintro _ w37 ⟨A38, m39, cp40, rfl, hGw37, hv, hvm⟩
        have hv := hv.low (b' := w.heap.size) hB.size
        have hB := ext_trans hB hGw37
        have hVg13 := hVg13.ext hGw37
        have hv_l := hv.rd.ulen
        refine WL.move rfl rfl ?_
        refine WL.extract rfl rfl rfl ?_
        refine WL.extract rfl rfl rfl ?_
        refine WL.assign rfl rfl ?_
        refine WL.assign rfl rfl ?_
        refine WL.done ?_
        refine W.seq ?_
        refine W.seq ?_
        refine W.region ?_
        refine WL.move rfl rfl ?_
        refine WL.neq rfl rfl rfl (fun c41 => ?_) (fun c41 => ?_)
        · refine WL.move rfl rfl ?_
          refine WL.pass rfl rfl rfl ?_
          refine WL.pass rfl rfl rfl ?_
          refine WL.pick rfl rfl rfl ?_
          refine WL.done ?_
          refine W.condT rfl ?_
          refine W.seq ?_
          refine W.region ?_
          refine WL.build (cells := #[.bool false, .slice none 0 0, .slice none 0 0]) Try.bld31 rfl rfl rfl ?_
          refine WL.storeV Try.el31 rfl rfl rfl rfl hVg13 ?_
          have hOld43 := hVg13
          intro w42 hVg13 hGw42
          change Own _ _ _ _ _ _ _ [.bool false, .slice none 0 0, .slice none 0 0] at hVg13
          have hB := ext_own hB hGw42 (fun g hg => (hOld43.bl_ge g hg).1)
          refine WL.assign rfl rfl ?_
          refine WL.done ?_
          refine W.ret ?_
          refine ⟨[.agg #[.bool false, .slice none 0 0, .slice none 0 0], .int .i64 (8 : Int)], ⟨_, _, _, rfl, rfl, run_loadV (cs := [.bool false, .slice none 0 0, .slice none 0 0]) Try.el31 Try.agg31 rfl hVg13.vcells, ⟨_, _, rfl, rfl, rfl⟩⟩, ?_⟩
          exact ⟨rfl, hB⟩
        · exfalso
          omega

set_option maxHeartbeats 1000000 in
theorem qPow_p_errerr {w : World} {Ban : Nat} {Aan : Option Addr} {man can : Nat} {xan : List Nat} (han : Rd Ban w 1 Aan man can (us xan)) {Bad : Nat} {Aad : Option Addr} {mad cad : Nat} {xad : List Nat} (had : Rd Bad w 1 Aad mad cad (us xad)) {na : Bool} (hLan : Lim xan) (hLad : Lim xad) (qa : Rat) (hqa : val na (nv xan) (nv xad) = qa) (hsa : man ≤ 4194304 ∧ mad ≤ 4194304) {X : Int} (hX : -9223372036854775808 ≤ X ∧ X ≤ 9223372036854775807) (hsm : man ≤ 1000 ∧ mad ≤ 1000) (hsg : 0 ≤ X) (h1 : ¬ (qnum qa) ^ X.natAbs < bigN) (h2 : ¬ (qa.den) ^ X.natAbs < bigN) :
    Calls Try.prog 40 #[.agg #[.bool na, .slice Aan man can, .slice Aad mad cad], .int .i64 X] w fun e w2 => ∃ v, e = .returned v ∧ (fun v w2 => v = .tuple #[.agg #[.bool false, .slice none 0 0, .slice none 0 0], .int .i64 8] ∧ w.grownBy w2 none) v w2 := by
  have han := han.norm
  have han_l := han.ulen
  have han_x := han.max
  simp only [maxLen] at han_x
  have han_c := han.cap
  have had := had.norm
  have had_l := had.ulen
  have had_x := had.max
  simp only [maxLen] at had_x
  have had_c := had.cap
  have han0 := han
  have had0 := had
  obtain ⟨zp1, zp2, zp3⟩ := zp_pos (q := qa) hsg
  have hcl := cntZ_lt hX
  obtain ⟨pu1, pu2⟩ := powcap (x := qnum qa) (cntZ_cap X)
  obtain ⟨pv1, pv2⟩ := powcap (x := qa.den) (cntZ_cap X)
  have ht2 := tm2 X
  have k1 := mt pu1.1 h1
  have k2 := mt pv1.1 h2
  have hB := ext_refl w
  refine calls_of_Wc (vs := [.agg #[.bool na, .slice Aan man can, .slice Aad mad cad], .int .i64 X]) [.cell 4 31, .tmp 5] Try.func40 rfl rfl rfl rfl ?_
  refine W.seq ?_
  refine W.region ?_
  refine WL.box Try.el31 rfl rfl rfl ?_
  intro g11 w12 hg_g11 hVg11 hGw12
  change Own _ _ _ _ _ _ _ [.bool na, .slice Aan man can, .slice Aad mad cad] at hVg11
  have hVg11 := hVg11.low (b' := w.heap.size) hB.size
  have hB := ext_trans hB hGw12
  have han := han0.ext hB
  have had := had0.ext hB
  refine WL.alloc Try.el31 rfl ?_
  intro g13 w14 hg_g13 hVg13 hGw14
  change Own _ _ _ _ _ _ _ [.bool false, .slice none 0 0, .slice none 0 0] at hVg13
  have hlt_g11_g13 : g11 < g13 := by rw [hg_g13]; exact (hVg11.bl_ge _ rfl).2
  have hVg13 := hVg13.low (b' := w.heap.size) hB.size
  have hB := ext_trans hB hGw14
  have han := han0.ext hB
  have had := had0.ext hB
  have hVg11 := hVg11.ext hGw14
  refine WL.assign rfl rfl ?_
  refine WL.done ?_
  refine W.seq ?_
  refine W.region ?_
  refine WL.loadV (cs := [.bool na, .slice Aan man can, .slice Aad mad cad]) Try.el31 Try.agg31 rfl rfl hVg11.vcells rfl ?_
  refine WL.call Try.func19 rfl Try.nm19 rfl rfl (qTrim_c han had hLan hLad qa hqa (by omega)) ?_
  rintro _ w15 ⟨A16, m17, c18, A19, m20, c21, rfl, hGw15, htn, htd, htm⟩
  have hap_htn_g11 := ap_new htn (hVg11.bl_ge _ rfl).2
  have htn := htn.low (b' := w.heap.size) hB.size
  have htd := htd.low (b' := w.heap.size) hB.size
  have hB := ext_trans hB hGw15
  have hVg11 := hVg11.ext hGw15
  have hVg13 := hVg13.ext hGw15
  have htn_l := htn.rd.ulen
  have htd_l := htd.rd.ulen
  refine WL.storeV Try.el31 rfl rfl rfl rfl hVg11 ?_
  have hOld23 := hVg11
  intro w22 hVg11 hGw22
  change Own _ _ _ _ _ _ _ [.bool (qneg (qa)), .slice A16 m17 c18, .slice A19 m20 c21] at hVg11
  have hB := ext_own hB hGw22 (fun g hg => (hOld23.bl_ge g hg).1)
  have hVg13 := hVg13.grown hGw22 (apart (by omega))
  have htn := htn.grown hGw22 (ap_row (by first | exact hap_htn_g11 | exact ap_type htn hOld23 (by decide)))
  refine WL.done ?_
  refine W.seq ?_
  refine W.seq ?_
  refine W.region ?_
  refine WL.move rfl rfl ?_
  refine WL.lss rfl rfl rfl (fun c24 => ?_) (fun c24 => ?_)
  · exfalso
    omega
  · refine WL.done ?_
    refine W.condF rfl ?_
    refine W.skip ?_
    refine W.seq ?_
    refine W.drawT 9 [⟨[], [2], true⟩, ⟨[0], [], false⟩, ⟨[], [1], true⟩, ⟨[2], [], false⟩, ⟨[1, 3], [], false⟩, ⟨[4], [], true⟩, ⟨[5], [], true⟩, ⟨[5], [], true⟩, ⟨[6], [], true⟩] [[(2, .pointer (some ⟨g11, 0, none⟩))], [], [(1, .int .i64 X)], [], [], [], [], [], []] (fun iQ => [fun v wQ => v = .pointer (some ((⟨g11, 0, none⟩ : Addr).add 1)), fun v wQ => v = .slice A16 m17 c18, fun v wQ => v = .int .i64 X, fun v wQ => v = .int .i64 ((cntZ X : Nat) : Int), fun v wQ => v = .tuple #[.slice none 0 0, .int .i64 (8 : Int)], fun v wQ => v = .tuple #[.slice none 0 0, .int .i64 (8 : Int)], fun v wQ => v = .slice none 0 0, fun v wQ => v = .int .i64 (8 : Int), fun v wQ => v = .slice none 0 0].getD iQ (fun _ _ => True)) Try.mixed (by kernel_rfl) ?_ ?_ ?_
    · refine Vs_monoT _ ?_
      intro VQ hVQ vQ wQ1 wQ2 hQ1 hQ2
      simp only [List.mem_cons, List.not_mem_nil, or_false] at hVQ
      rcases hVQ with rfl | rfl | rfl | rfl | rfl | rfl | rfl | rfl | rfl
      · exact hQ1
      · exact hQ1
      · exact hQ1
      · exact hQ1
      · exact hQ1
      · exact hQ1
      · exact hQ1
      · exact hQ1
      · exact hQ1
    · refine ⟨⟨rfl, ⟨rfl, trivial⟩, ?_⟩, ⟨rfl, trivial, ?_⟩, ⟨rfl, ⟨rfl, trivial⟩, ?_⟩, ⟨rfl, trivial, ?_⟩, ⟨rfl, trivial, ?_⟩, ⟨rfl, trivial, ?_⟩, ⟨rfl, trivial, ?_⟩, ⟨rfl, trivial, ?_⟩, ⟨rfl, trivial, ?_⟩, trivial⟩
      · intro w25 hE
        intro R
        refine WL.fieldA (off := 1) Try.fla31_1 rfl rfl ?_
        exact WL.done ⟨_, rfl, rfl, rfl⟩
      · intro w26 hE
        have hE := hE rfl
        have hB := ext_trans hB hE
        have hVg11 := hVg11.ext hE
        rintro _ rfl
        intro R
        refine WL.load Try.underlying23 rfl rfl (hVg11.vcells 1 _ rfl) rfl ?_
        exact WL.done ⟨_, rfl, ext_refl _, rfl⟩
      · intro w27 hE
        intro R
        refine WL.move rfl rfl ?_
        exact WL.done ⟨_, rfl, rfl, rfl⟩
      · intro w28 hE
        have hE := hE rfl
        have hB := ext_trans hB hE
        rintro _ rfl
        intro R
        refine WL.call Try.func74 rfl Try.nm74 rfl rfl (count_c (by omega)) ?_
        rintro _ w29 ⟨rfl, hGw29⟩
        have hB := ext_trans hB hGw29
        exact WL.done ⟨_, rfl, hGw29, rfl⟩
      · intro w30 hE
        have hE := hE rfl
        have hB := ext_trans hB hE
        have htn := htn.ext hE
        rintro _ rfl
        rintro _ rfl
        intro R
        refine WL.call Try.func73 rfl Try.nm73 rfl rfl (PowD_err htn.rd (digs_lim _) (qnum qa) (nv_digs _) (cntZ X) (by omega) (by omega) (by omega) k1) ?_
        rintro _ w31 ⟨rfl, hGw31⟩
        have hB := ext_trans hB hGw31
        exact WL.done ⟨_, rfl, hGw31, rfl⟩
      · intro w32 hE
        rintro _ rfl
        intro R
        refine WL.move rfl rfl ?_
        exact WL.done ⟨_, rfl, rfl, rfl⟩
      · intro w33 hE
        rintro _ rfl
        intro R
        refine WL.extract rfl rfl rfl ?_
        exact WL.done ⟨_, rfl, rfl, rfl⟩
      · intro w34 hE
        rintro _ rfl
        intro R
        refine WL.extract rfl rfl rfl ?_
        exact WL.done ⟨_, rfl, rfl, rfl⟩
      · intro w35 hE
        rintro _ rfl
        intro R
        refine WL.assign rfl rfl ?_
        exact WL.done ⟨_, rfl, rfl, rfl⟩
    · intro vals w36 hT hVs
      have hB := ext_trans hB hT
      have hVg13 := hVg13.ext hT
      have hv0 : vals 0 = _ := hVs 0 (by decide)
      have hv1 : vals 1 = _ := hVs 1 (by decide)
      have hv2 : vals 2 = _ := hVs 2 (by decide)
      have hv3 : vals 3 = _ := hVs 3 (by decide)
      have hv4 : vals 4 = _ := hVs 4 (by decide)
      have hv5 : vals 5 = _ := hVs 5 (by decide)
      have hv6 : vals 6 = _ := hVs 6 (by decide)
      have hv7 : vals 7 = _ := hVs 7 (by decide)
      have hv8 : vals 8 = _ := hVs 8 (by decide)
      rw [show (List.filterMap (fun i => Option.map (fun t => (t, vals i)) (dstAt _ i)) (List.range _)) = [(23, .pointer (some ((⟨g11, 0, none⟩ : Addr).add 1))), (24, .slice A16 m17 c18), (25, .int .i64 X), (26, .int .i64 ((cntZ X : Nat) : Int)), (27, .tuple #[.slice none 0 0, .int .i64 (8 : Int)]), (22, .tuple #[.slice none 0 0, .int .i64 (8 : Int)]), (28, .slice none 0 0), (29, .int .i64 (8 : Int)), (6, .slice none 0 0)] from by
        show [(23, vals 0), (24, vals 1), (25, vals 2), (26, vals 3), (27, vals 4), (22, vals 5), (28, vals 6), (29, vals 7), (6, vals 8)] = _
        rw [hv0, hv1, hv2, hv3, hv4, hv5, hv6, hv7, hv8]]
      refine WA.step [9] (by decide +kernel) rfl ?_
      intro iQ hQ
      simp only [List.mem_cons, List.not_mem_nil, or_false] at hQ
      obtain rfl := hQ
      · refine ⟨_, rfl, ?_⟩
        refine WL.assign rfl rfl ?_
        refine WL.done ?_
        refine WA.done (by decide +kernel) ?_
        refine W.seq ?_
        refine W.seq ?_
        refine W.region ?_
        refine WL.move rfl rfl ?_
        refine WL.neq rfl rfl rfl (fun c37 => ?_) (fun c37 => ?_)
        · refine WL.done ?_
          refine W.condT rfl ?_
          refine W.seq ?_
          refine W.region ?_
          refine WL.build (cells := #[.bool false, .slice none 0 0, .slice none 0 0]) Try.bld31 rfl rfl rfl ?_
          refine WL.move rfl rfl ?_
          refine WL.storeV Try.el31 rfl rfl rfl rfl hVg13 ?_
          have hOld39 := hVg13
          intro w38 hVg13 hGw38
          change Own _ _ _ _ _ _ _ [.bool false, .slice none 0 0, .slice none 0 0] at hVg13
          have hB := ext_own hB hGw38 (fun g hg => (hOld39.bl_ge g hg).1)
          refine WL.assign rfl rfl ?_
          refine WL.done ?_
          refine W.ret ?_
          refine ⟨[.agg #[.bool false, .slice none 0 0, .slice none 0 0], .int .i64 (8 : Int)], ⟨_, _, _, rfl, rfl, run_loadV (cs := [.bool false, .slice none 0 0, .slice none 0 0]) Try.el31 Try.agg31 rfl hVg13.vcells, ⟨_, _, rfl, rfl, rfl⟩⟩, ?_⟩
          exact ⟨rfl, hB⟩
        · exfalso
          omega

set_option maxHeartbeats 1000000 in
theorem rqPow_p_errerr {w : World} {Ban : Nat} {Aan : Option Addr} {man can : Nat} {xan : List Nat} (han : Rd Ban w 1 Aan man can (us xan)) {Bad : Nat} {Aad : Option Addr} {mad cad : Nat} {xad : List Nat} (had : Rd Bad w 1 Aad mad cad (us xad)) {na : Bool} (hLan : Lim xan) (hLad : Lim xad) (qa : Rat) (hqa : val na (nv xan) (nv xad) = qa) (hsa : man ≤ 4194304 ∧ mad ≤ 4194304) {X : Int} (hX : -9223372036854775808 ≤ X ∧ X ≤ 9223372036854775807) (hsm : man ≤ 1000 ∧ mad ≤ 1000) (hsg : 0 ≤ X) (h1 : ¬ (qnum qa) ^ X.natAbs < bigN) (h2 : ¬ (qa.den) ^ X.natAbs < bigN) :
    Calls Try.prog 41 #[.agg #[.bool na, .slice Aan man can, .slice Aad mad cad], .int .i64 X] w fun e w2 => ∃ v, e = .returned v ∧ (fun v w2 => v = .tuple #[.agg #[.bool false, .slice none 0 0, .slice none 0 0], .int .i64 8] ∧ w.grownBy w2 none) v w2 := by
  have han := han.norm
  have han_l := han.ulen
  have han_x := han.max
  simp only [maxLen] at han_x
  have han_c := han.cap
  have had := had.norm
  have had_l := had.ulen
  have had_x := had.max
  simp only [maxLen] at had_x
  have had_c := had.cap
  have han0 := han
  have had0 := had
  obtain ⟨zp1, zp2, zp3⟩ := zp_pos (q := qa) hsg
  have hcl := crZ_lt hX
  obtain ⟨pu1, pu2⟩ := powcap (x := qnum qa) (crZ_cap X)
  obtain ⟨pv1, pv2⟩ := powcap (x := qa.den) (crZ_cap X)
  have ht2 := tm2 X
  have k1 := mt pu1.1 h1
  have k2 := mt pv1.1 h2
  have hcz : ((crZ X : Nat) : Int) = X := by unfold crZ; rw [if_neg (by omega)]; omega
  have hB := ext_refl w
  refine calls_of_Wc (vs := [.agg #[.bool na, .slice Aan man can, .slice Aad mad cad], .int .i64 X]) [.cell 4 31, .tmp 5] Try.func41 rfl rfl rfl rfl ?_
  refine W.seq ?_
  refine W.region ?_
  refine WL.box Try.el31 rfl rfl rfl ?_
  intro g11 w12 hg_g11 hVg11 hGw12
  change Own _ _ _ _ _ _ _ [.bool na, .slice Aan man can, .slice Aad mad cad] at hVg11
  have hVg11 := hVg11.low (b' := w.heap.size) hB.size
  have hB := ext_trans hB hGw12
  have han := han0.ext hB
  have had := had0.ext hB
  refine WL.alloc Try.el31 rfl ?_
  intro g13 w14 hg_g13 hVg13 hGw14
  change Own _ _ _ _ _ _ _ [.bool false, .slice none 0 0, .slice none 0 0] at hVg13
  have hlt_g11_g13 : g11 < g13 := by rw [hg_g13]; exact (hVg11.bl_ge _ rfl).2
  have hVg13 := hVg13.low (b' := w.heap.size) hB.size
  have hB := ext_trans hB hGw14
  have han := han0.ext hB
  have had := had0.ext hB
  have hVg11 := hVg11.ext hGw14
  refine WL.assign rfl rfl ?_
  refine WL.done ?_
  refine W.seq ?_
  refine W.region ?_
  refine WL.loadV (cs := [.bool na, .slice Aan man can, .slice Aad mad cad]) Try.el31 Try.agg31 rfl rfl hVg11.vcells rfl ?_
  refine WL.call Try.func20 rfl Try.nm20 rfl rfl (rqTrim_c han had hLan hLad qa hqa (by omega)) ?_
  rintro _ w15 ⟨A16, m17, c18, A19, m20, c21, rfl, hGw15, htn, htd, htm⟩
  have hap_htn_g11 := ap_new htn (hVg11.bl_ge _ rfl).2
  have hap_htd_g11 := ap_new htd (hVg11.bl_ge _ rfl).2
  have htn := htn.low (b' := w.heap.size) hB.size
  have htd := htd.low (b' := w.heap.size) hB.size
  have hB := ext_trans hB hGw15
  have hVg11 := hVg11.ext hGw15
  have hVg13 := hVg13.ext hGw15
  have htn_l := htn.rd.ulen
  have htd_l := htd.rd.ulen
  refine WL.storeV Try.el31 rfl rfl rfl rfl hVg11 ?_
  have hOld23 := hVg11
  intro w22 hVg11 hGw22
  change Own _ _ _ _ _ _ _ [.bool (qneg (qa)), .slice A16 m17 c18, .slice A19 m20 c21] at hVg11
  have hB := ext_own hB hGw22 (fun g hg => (hOld23.bl_ge g hg).1)
  have hVg13 := hVg13.grown hGw22 (apart (by omega))
  have htn := htn.grown hGw22 (ap_row (by first | exact hap_htn_g11 | exact ap_type htn hOld23 (by decide)))
  have htd := htd.grown hGw22 (ap_row (by first | exact hap_htd_g11 | exact ap_type htd hOld23 (by decide)))
  refine WL.done ?_
  refine W.seq ?_
  refine W.seq ?_
  refine W.region ?_
  refine WL.move rfl rfl ?_
  refine WL.lss rfl rfl rfl (fun c24 => ?_) (fun c24 => ?_)
  · exfalso
    omega
  · refine WL.done ?_
    refine W.condF rfl ?_
    refine W.skip ?_
    refine W.seq ?_
    refine W.region ?_
    refine WL.move rfl rfl ?_
    refine WL.rem (r := (X.tmod 2)) rfl rfl (by omega) rfl rfl ?_
    refine WL.neq rfl rfl rfl (fun c25 => ?_) (fun c25 => ?_)
    · refine WL.assign rfl rfl ?_
      refine WL.done ?_
      refine W.seq ?_
      refine W.seq ?_
      refine W.region ?_
      refine WL.move rfl rfl ?_
      refine WL.lss rfl rfl rfl (fun c26 => ?_) (fun c26 => ?_)
      · exfalso
        omega
      · refine WL.done ?_
        refine W.condF rfl ?_
        refine W.skip ?_
        refine W.seq ?_
        refine W.region ?_
        refine WL.fieldA (off := 1) Try.fla31_1 rfl rfl ?_
        refine WL.load Try.underlying23 rfl rfl (hVg11.vcells 1 _ rfl) rfl ?_
        refine WL.move rfl rfl ?_
        refine WL.call Try.func76 rfl Try.nm76 rfl rfl (rPowD_err htn.rd (digs_lim _) (qnum qa) (nv_digs _) (crZ X) (by omega) (by omega) (by omega) k1) ?_
        rintro _ w27 ⟨rfl, hGw27⟩
        have hB := ext_trans hB hGw27
        have hVg13 := hVg13.ext hGw27
        have htd := htd.ext hGw27
        have hVg11 := hVg11.ext hGw27
        refine WL.move rfl rfl ?_
        refine WL.extract rfl rfl rfl ?_
        refine WL.extract rfl rfl rfl ?_
        refine WL.assign rfl rfl ?_
        refine WL.assign rfl rfl ?_
        refine WL.done ?_
        refine W.seq ?_
        refine W.region ?_
        refine WL.fieldA (off := 2) Try.fla31_2 rfl rfl ?_
        refine WL.load Try.underlying23 rfl rfl (hVg11.vcells 2 _ rfl) rfl ?_
        refine WL.move rfl rfl ?_
        refine WL.call Try.func76 rfl Try.nm76 rfl rfl (rPowD_err htd.rd (digs_lim _) qa.den (nv_digs _) (crZ X) (by omega) (by omega) (by omega) k2) ?_
        rintro _ w28 ⟨rfl, hGw28⟩
        have hB := ext_trans hB hGw28
        have hVg13 := hVg13.ext hGw28
        refine WL.move rfl rfl ?_
        refine WL.extract rfl rfl rfl ?_
        refine WL.extract rfl rfl rfl ?_
        refine WL.assign rfl rfl ?_
        refine WL.assign rfl rfl ?_
        refine WL.done ?_
        refine W.seq ?_
        refine W.seq ?_
        refine W.region ?_
        refine WL.move rfl rfl ?_
        refine WL.neq rfl rfl rfl (fun c29 => ?_) (fun c29 => ?_)
        · refine WL.move rfl rfl ?_
          refine WL.pass rfl rfl rfl ?_
          refine WL.pass rfl rfl rfl ?_
          refine WL.pick rfl rfl rfl ?_
          refine WL.done ?_
          refine W.condT rfl ?_
          refine W.seq ?_
          refine W.region ?_
          refine WL.build (cells := #[.bool false, .slice none 0 0, .slice none 0 0]) Try.bld31 rfl rfl rfl ?_
          refine WL.storeV Try.el31 rfl rfl rfl rfl hVg13 ?_
          have hOld31 := hVg13
          intro w30 hVg13 hGw30
          change Own _ _ _ _ _ _ _ [.bool false, .slice none 0 0, .slice none 0 0] at hVg13
          have hB := ext_own hB hGw30 (fun g hg => (hOld31.bl_ge g hg).1)
          refine WL.assign rfl rfl ?_
          refine WL.done ?_
          refine W.ret ?_
          refine ⟨[.agg #[.bool false, .slice none 0 0, .slice none 0 0], .int .i64 (8 : Int)], ⟨_, _, _, rfl, rfl, run_loadV (cs := [.bool false, .slice none 0 0, .slice none 0 0]) Try.el31 Try.agg31 rfl hVg13.vcells, ⟨_, _, rfl, rfl, rfl⟩⟩, ?_⟩
          exact ⟨rfl, hB⟩
        · exfalso
          omega
    · refine WL.assign rfl rfl ?_
      refine WL.done ?_
      refine W.seq ?_
      refine W.seq ?_
      refine W.region ?_
      refine WL.move rfl rfl ?_
      refine WL.lss rfl rfl rfl (fun c32 => ?_) (fun c32 => ?_)
      · exfalso
        omega
      · refine WL.done ?_
        refine W.condF rfl ?_
        refine W.skip ?_
        refine W.seq ?_
        refine W.region ?_
        refine WL.fieldA (off := 1) Try.fla31_1 rfl rfl ?_
        refine WL.load Try.underlying23 rfl rfl (hVg11.vcells 1 _ rfl) rfl ?_
        refine WL.move rfl rfl ?_
        refine WL.call Try.func76 rfl Try.nm76 rfl rfl (rPowD_err htn.rd (digs_lim _) (qnum qa) (nv_digs _) (crZ X) (by omega) (by omega) (by omega) k1) ?_
        rintro _ w33 ⟨rfl, hGw33⟩
        have hB := ext_trans hB hGw33
        have hVg13 := hVg13.ext hGw33
        have htd := htd.ext hGw33
        have hVg11 := hVg11.ext hGw33
        refine WL.move rfl rfl ?_
        refine WL.extract rfl rfl rfl ?_
        refine WL.extract rfl rfl rfl ?_
        refine WL.assign rfl rfl ?_
        refine WL.assign rfl rfl ?_
        refine WL.done ?_
        refine W.seq ?_
        refine W.region ?_
        refine WL.fieldA (off := 2) Try.fla31_2 rfl rfl ?_
        refine WL.load Try.underlying23 rfl rfl (hVg11.vcells 2 _ rfl) rfl ?_
        refine WL.move rfl rfl ?_
        refine WL.call Try.func76 rfl Try.nm76 rfl rfl (rPowD_err htd.rd (digs_lim _) qa.den (nv_digs _) (crZ X) (by omega) (by omega) (by omega) k2) ?_
        rintro _ w34 ⟨rfl, hGw34⟩
        have hB := ext_trans hB hGw34
        have hVg13 := hVg13.ext hGw34
        refine WL.move rfl rfl ?_
        refine WL.extract rfl rfl rfl ?_
        refine WL.extract rfl rfl rfl ?_
        refine WL.assign rfl rfl ?_
        refine WL.assign rfl rfl ?_
        refine WL.done ?_
        refine W.seq ?_
        refine W.seq ?_
        refine W.region ?_
        refine WL.move rfl rfl ?_
        refine WL.neq rfl rfl rfl (fun c35 => ?_) (fun c35 => ?_)
        · refine WL.move rfl rfl ?_
          refine WL.pass rfl rfl rfl ?_
          refine WL.pass rfl rfl rfl ?_
          refine WL.pick rfl rfl rfl ?_
          refine WL.done ?_
          refine W.condT rfl ?_
          refine W.seq ?_
          refine W.region ?_
          refine WL.build (cells := #[.bool false, .slice none 0 0, .slice none 0 0]) Try.bld31 rfl rfl rfl ?_
          refine WL.storeV Try.el31 rfl rfl rfl rfl hVg13 ?_
          have hOld37 := hVg13
          intro w36 hVg13 hGw36
          change Own _ _ _ _ _ _ _ [.bool false, .slice none 0 0, .slice none 0 0] at hVg13
          have hB := ext_own hB hGw36 (fun g hg => (hOld37.bl_ge g hg).1)
          refine WL.assign rfl rfl ?_
          refine WL.done ?_
          refine W.ret ?_
          refine ⟨[.agg #[.bool false, .slice none 0 0, .slice none 0 0], .int .i64 (8 : Int)], ⟨_, _, _, rfl, rfl, run_loadV (cs := [.bool false, .slice none 0 0, .slice none 0 0]) Try.el31 Try.agg31 rfl hVg13.vcells, ⟨_, _, rfl, rfl, rfl⟩⟩, ?_⟩
          exact ⟨rfl, hB⟩
        · exfalso
          omega

set_option maxHeartbeats 1000000 in
theorem qPow_n_okok {w : World} {Ban : Nat} {Aan : Option Addr} {man can : Nat} {xan : List Nat} (han : Rd Ban w 1 Aan man can (us xan)) {Bad : Nat} {Aad : Option Addr} {mad cad : Nat} {xad : List Nat} (had : Rd Bad w 1 Aad mad cad (us xad)) {na : Bool} (hLan : Lim xan) (hLad : Lim xad) (qa : Rat) (hqa : val na (nv xan) (nv xad) = qa) (hsa : man ≤ 4194304 ∧ mad ≤ 4194304) {X : Int} (hX : -9223372036854775808 ≤ X ∧ X ≤ 9223372036854775807) (hsm : man ≤ 1000 ∧ mad ≤ 1000) (hsg : X < 0) (hq0 : qa ≠ 0) (h1 : (qa.den) ^ X.natAbs < bigN) (h2 : (qnum qa) ^ X.natAbs < bigN) :
    Calls Try.prog 40 #[.agg #[.bool na, .slice Aan man can, .slice Aad mad cad], .int .i64 X] w fun e w2 => ∃ v, e = .returned v ∧ (fun v w2 => ∃ A2 m2 c2 A3 m3 c3, v = .tuple #[.agg #[.bool (qneg (qa ^ X)), .slice A2 m2 c2, .slice A3 m3 c3], .int .i64 0] ∧ w.grownBy w2 none ∧ Own w.heap.size w2 43 1 A2 m2 c2 (us (digs (qnum (qa ^ X)))) ∧ Own w.heap.size w2 43 1 A3 m3 c3 (us (digs (Rat.den (qa ^ X)))) ∧ m2 ≤ 4096 ∧ m3 ≤ 4096) v w2 := by
  have han := han.norm
  have han_l := han.ulen
  have han_x := han.max
  simp only [maxLen] at han_x
  have han_c := han.cap
  have had := had.norm
  have had_l := had.ulen
  have had_x := had.max
  simp only [maxLen] at had_x
  have had_c := had.cap
  have han0 := han
  have had0 := had
  obtain ⟨zp1, zp2, zp3⟩ := zp_neg (q := qa) hq0 hsg
  have hcl := cntZ_lt hX
  obtain ⟨pu1, pu2⟩ := powcap (x := qa.den) (cntZ_cap X)
  obtain ⟨pv1, pv2⟩ := powcap (x := qnum qa) (cntZ_cap X)
  have ht2 := tm2 X
  have k1 := pu1.2 h1
  have e1 := pu2 h1
  have k2 := pv1.2 h2
  have e2 := pv2 h2
  have hB := ext_refl w
  refine calls_of_Wc (vs := [.agg #[.bool na, .slice Aan man can, .slice Aad mad cad], .int .i64 X]) [.cell 4 31, .tmp 5] Try.func40 rfl rfl rfl rfl ?_
  refine W.seq ?_
  refine W.region ?_
  refine WL.box Try.el31 rfl rfl rfl ?_
  intro g11 w12 hg_g11 hVg11 hGw12
  change Own _ _ _ _ _ _ _ [.bool na, .slice Aan man can, .slice Aad mad cad] at hVg11
  have hVg11 := hVg11.low (b' := w.heap.size) hB.size
  have hB := ext_trans hB hGw12
  have han := han0.ext hB
  have had := had0.ext hB
  refine WL.alloc Try.el31 rfl ?_
  intro g13 w14 hg_g13 hVg13 hGw14
  change Own _ _ _ _ _ _ _ [.bool false, .slice none 0 0, .slice none 0 0] at hVg13
  have hlt_g11_g13 : g11 < g13 := by rw [hg_g13]; exact (hVg11.bl_ge _ rfl).2
  have hVg13 := hVg13.low (b' := w.heap.size) hB.size
  have hB := ext_trans hB hGw14
  have han := han0.ext hB
  have had := had0.ext hB
  have hVg11 := hVg11.ext hGw14
  refine WL.assign rfl rfl ?_
  refine WL.done ?_
  refine W.seq ?_
  refine W.region ?_
  refine WL.loadV (cs := [.bool na, .slice Aan man can, .slice Aad mad cad]) Try.el31 Try.agg31 rfl rfl hVg11.vcells rfl ?_
  refine WL.call Try.func19 rfl Try.nm19 rfl rfl (qTrim_c han had hLan hLad qa hqa (by omega)) ?_
  rintro _ w15 ⟨A16, m17, c18, A19, m20, c21, rfl, hGw15, htn, htd, htm⟩
  have hap_htn_g11 := ap_new htn (hVg11.bl_ge _ rfl).2
  have hap_htd_g11 := ap_new htd (hVg11.bl_ge _ rfl).2
  have htn := htn.low (b' := w.heap.size) hB.size
  have htd := htd.low (b' := w.heap.size) hB.size
  have hB := ext_trans hB hGw15
  have hVg11 := hVg11.ext hGw15
  have hVg13 := hVg13.ext hGw15
  have htn_l := htn.rd.ulen
  have htd_l := htd.rd.ulen
  refine WL.storeV Try.el31 rfl rfl rfl rfl hVg11 ?_
  have hOld23 := hVg11
  intro w22 hVg11 hGw22
  change Own _ _ _ _ _ _ _ [.bool (qneg (qa)), .slice A16 m17 c18, .slice A19 m20 c21] at hVg11
  have hB := ext_own hB hGw22 (fun g hg => (hOld23.bl_ge g hg).1)
  have hVg13 := hVg13.grown hGw22 (apart (by omega))
  have htn := htn.grown hGw22 (ap_row (by first | exact hap_htn_g11 | exact ap_type htn hOld23 (by decide)))
  have htd := htd.grown hGw22 (ap_row (by first | exact hap_htd_g11 | exact ap_type htd hOld23 (by decide)))
  refine WL.done ?_
  refine W.seq ?_
  refine W.seq ?_
  refine W.region ?_
  refine WL.move rfl rfl ?_
  refine WL.lss rfl rfl rfl (fun c24 => ?_) (fun c24 => ?_)
  · refine WL.done ?_
    refine W.condT rfl ?_
    refine W.seq ?_
    refine W.seq ?_
    refine W.region ?_
    refine WL.loadV (cs := [.bool (qneg (qa)), .slice A16 m17 c18, .slice A19 m20 c21]) Try.el31 Try.agg31 rfl rfl hVg11.vcells rfl ?_
    refine WL.call Try.func50 rfl Try.nm50 rfl rfl (isZero_c htn.rd htd.rd (digs_lim _) (digs_lim _) qa (val_canon _) (by omega)) ?_
    rintro _ w25 ⟨bz0, rfl, hGw25, z0_t, z0_f⟩
    have hB := ext_trans hB hGw25
    have hVg13 := hVg13.ext hGw25
    have htn := htn.ext hGw25
    have htd := htd.ext hGw25
    have hVg11 := hVg11.ext hGw25
    rcases bz0 with _ | _
    · have z0 := z0_f rfl
      refine WL.done ?_
      refine W.condF rfl ?_
      refine W.skip ?_
      refine W.region ?_
      refine WL.fieldA (off := 2) Try.fla31_2 rfl rfl ?_
      refine WL.load Try.underlying23 rfl rfl (hVg11.vcells 2 _ rfl) rfl ?_
      refine WL.fieldA (off := 1) Try.fla31_1 rfl rfl ?_
      refine WL.load Try.underlying23 rfl rfl (hVg11.vcells 1 _ rfl) rfl ?_
      refine WL.fieldA (off := 1) Try.fla31_1 rfl rfl ?_
      refine WL.storeF Try.el23 rfl rfl rfl rfl hVg11 ?_
      have hOld27 := hVg11
      intro w26 hVg11 hGw26
      change Own _ _ _ _ _ _ _ [.bool (qneg (qa)), .slice A19 m20 c21, .slice A19 m20 c21] at hVg11
      have hB := ext_own hB hGw26 (fun g hg => (hOld27.bl_ge g hg).1)
      have hVg13 := hVg13.grown hGw26 (apart (by omega))
      have htn := htn.grown hGw26 (ap_row (by first | exact hap_htn_g11 | exact ap_type htn hOld27 (by decide)))
      have htd := htd.grown hGw26 (ap_row (by first | exact hap_htd_g11 | exact ap_type htd hOld27 (by decide)))
      refine WL.fieldA (off := 2) Try.fla31_2 rfl rfl ?_
      refine WL.storeF Try.el23 rfl rfl rfl rfl hVg11 ?_
      have hOld29 := hVg11
      intro w28 hVg11 hGw28
      change Own _ _ _ _ _ _ _ [.bool (qneg (qa)), .slice A19 m20 c21, .slice A16 m17 c18] at hVg11
      have hB := ext_own hB hGw28 (fun g hg => (hOld29.bl_ge g hg).1)
      have hVg13 := hVg13.grown hGw28 (apart (by omega))
      have htn := htn.grown hGw28 (ap_row (by first | exact hap_htn_g11 | exact ap_type htn hOld29 (by decide)))
      have htd := htd.grown hGw28 (ap_row (by first | exact hap_htd_g11 | exact ap_type htd hOld29 (by decide)))
      refine WL.done ?_
      refine W.seq ?_
      refine W.drawT 9 [⟨[], [2], true⟩, ⟨[0], [], false⟩, ⟨[], [1], true⟩, ⟨[2], [], false⟩, ⟨[1, 3], [], false⟩, ⟨[4], [], true⟩, ⟨[5], [], true⟩, ⟨[5], [], true⟩, ⟨[6], [], true⟩] [[(2, .pointer (some ⟨g11, 0, none⟩))], [], [(1, .int .i64 X)], [], [], [], [], [], []] (fun iQ => [fun v wQ => v = .pointer (some ((⟨g11, 0, none⟩ : Addr).add 1)), fun v wQ => v = .slice A19 m20 c21, fun v wQ => v = .int .i64 X, fun v wQ => v = .int .i64 ((cntZ X : Nat) : Int), fun v wQ => ∃ A37 m38 cp39, v = .tuple #[.slice A37 m38 cp39, .int .i64 (0 : Int)] ∧ (Own w.heap.size wQ 43 1 A37 m38 cp39 (us (digs (qa.den ^ (cntZ X))))) ∧ (m38 ≤ 4096) ∧ (∀ k, bl A37 = some k → k ≠ g11) ∧ (∀ k, bl A37 = some k → k ≠ g13), fun v wQ => ∃ A37_5 m38_5 cp39_5, v = .tuple #[.slice A37_5 m38_5 cp39_5, .int .i64 (0 : Int)] ∧ (Own w.heap.size wQ 43 1 A37_5 m38_5 cp39_5 (us (digs (qa.den ^ (cntZ X))))) ∧ (m38_5 ≤ 4096) ∧ (∀ k, bl A37_5 = some k → k ≠ g11) ∧ (∀ k, bl A37_5 = some k → k ≠ g13), fun v wQ => ∃ A37_5_6 m38_5_6 cp39_5_6, v = .slice A37_5_6 m38_5_6 cp39_5_6 ∧ (Own w.heap.size wQ 43 1 A37_5_6 m38_5_6 cp39_5_6 (us (digs (qa.den ^ (cntZ X))))) ∧ (m38_5_6 ≤ 4096) ∧ (∀ k, bl A37_5_6 = some k → k ≠ g11) ∧ (∀ k, bl A37_5_6 = some k → k ≠ g13), fun v wQ => v = .int .i64 (0 : Int), fun v wQ => ∃ A37_5_6_8 m38_5_6_8 cp39_5_6_8, v = .slice A37_5_6_8 m38_5_6_8 cp39_5_6_8 ∧ (Own w.heap.size wQ 43 1 A37_5_6_8 m38_5_6_8 cp39_5_6_8 (us (digs (qa.den ^ (cntZ X))))) ∧ (m38_5_6_8 ≤ 4096) ∧ (∀ k, bl A37_5_6_8 = some k → k ≠ g11) ∧ (∀ k, bl A37_5_6_8 = some k → k ≠ g13)].getD iQ (fun _ _ => True)) Try.mixed (by kernel_rfl) ?_ ?_ ?_
      · refine Vs_monoT _ ?_
        intro VQ hVQ vQ wQ1 wQ2 hQ1 hQ2
        simp only [List.mem_cons, List.not_mem_nil, or_false] at hVQ
        rcases hVQ with rfl | rfl | rfl | rfl | rfl | rfl | rfl | rfl | rfl
        · exact hQ1
        · exact hQ1
        · exact hQ1
        · exact hQ1
        · obtain ⟨A37, m38, cp39, hQe, hu, hum, hap_hu_g11, hap_hu_g13⟩ := hQ1
          exact ⟨A37, m38, cp39, hQe, hu.ext hQ2, hum, hap_hu_g11, hap_hu_g13⟩
        · obtain ⟨A37_5, m38_5, cp39_5, hQe, hu_5, hum_5, hap_hu_g11_5, hap_hu_g13_5⟩ := hQ1
          exact ⟨A37_5, m38_5, cp39_5, hQe, hu_5.ext hQ2, hum_5, hap_hu_g11_5, hap_hu_g13_5⟩
        · obtain ⟨A37_5_6, m38_5_6, cp39_5_6, hQe, hu_5_6, hum_5_6, hap_hu_g11_5_6, hap_hu_g13_5_6⟩ := hQ1
          exact ⟨A37_5_6, m38_5_6, cp39_5_6, hQe, hu_5_6.ext hQ2, hum_5_6, hap_hu_g11_5_6, hap_hu_g13_5_6⟩
        · exact hQ1
        · obtain ⟨A37_5_6_8, m38_5_6_8, cp39_5_6_8, hQe, hu_5_6_8, hum_5_6_8, hap_hu_g11_5_6_8, hap_hu_g13_5_6_8⟩ := hQ1
          exact ⟨A37_5_6_8, m38_5_6_8, cp39_5_6_8, hQe, hu_5_6_8.ext hQ2, hum_5_6_8, hap_hu_g11_5_6_8, hap_hu_g13_5_6_8⟩
      · refine ⟨⟨rfl, ⟨rfl, trivial⟩, ?_⟩, ⟨rfl, trivial, ?_⟩, ⟨rfl, ⟨rfl, trivial⟩, ?_⟩, ⟨rfl, trivial, ?_⟩, ⟨rfl, trivial, ?_⟩, ⟨rfl, trivial, ?_⟩, ⟨rfl, trivial, ?_⟩, ⟨rfl, trivial, ?_⟩, ⟨rfl, trivial, ?_⟩, trivial⟩
        · intro w30 hE
          intro R
          refine WL.fieldA (off := 1) Try.fla31_1 rfl rfl ?_
          exact WL.done ⟨_, rfl, rfl, rfl⟩
        · intro w31 hE
          have hE := hE rfl
          have hB := ext_trans hB hE
          have hVg11 := hVg11.ext hE
          rintro _ rfl
          intro R
          refine WL.load Try.underlying23 rfl rfl (hVg11.vcells 1 _ rfl) rfl ?_
          exact WL.done ⟨_, rfl, ext_refl _, rfl⟩
        · intro w32 hE
          intro R
          refine WL.move rfl rfl ?_
          exact WL.done ⟨_, rfl, rfl, rfl⟩
        · intro w33 hE
          have hE := hE rfl
          have hB := ext_trans hB hE
          rintro _ rfl
          intro R
          refine WL.call Try.func74 rfl Try.nm74 rfl rfl (count_c (by omega)) ?_
          rintro _ w34 ⟨rfl, hGw34⟩
          have hB := ext_trans hB hGw34
          exact WL.done ⟨_, rfl, hGw34, rfl⟩
        · intro w35 hE
          have hE := hE rfl
          have hB := ext_trans hB hE
          have hVg13 := hVg13.ext hE
          have htd := htd.ext hE
          have hVg11 := hVg11.ext hE
          rintro _ rfl
          rintro _ rfl
          intro R
          refine WL.call Try.func73 rfl Try.nm73 rfl rfl (PowD_ok htd.rd (digs_lim _) qa.den (nv_digs _) (cntZ X) (by omega) (by omega) (by omega) k1) ?_
          rintro _ w36 ⟨A37, m38, cp39, rfl, hGw36, hu, hum⟩
          have hap_hu_g11 := ap_new hu (hVg11.bl_ge _ rfl).2
          have hap_hu_g13 := ap_new hu (hVg13.bl_ge _ rfl).2
          have hu := hu.low (b' := w.heap.size) hB.size
          have hB := ext_trans hB hGw36
          have hu_l := hu.rd.ulen
          exact WL.done ⟨_, rfl, hGw36, ⟨A37, m38, cp39, rfl, hu, hum, hap_hu_g11, hap_hu_g13⟩⟩
        · intro w40 hE
          rintro _ ⟨A37, m38, cp39, rfl, hu, hum, hap_hu_g11, hap_hu_g13⟩
          intro R
          refine WL.move rfl rfl ?_
          exact WL.done ⟨_, rfl, rfl, ⟨A37, m38, cp39, rfl, hu, hum, hap_hu_g11, hap_hu_g13⟩⟩
        · intro w41 hE
          rintro _ ⟨A37_5, m38_5, cp39_5, rfl, hu_5, hum_5, hap_hu_g11_5, hap_hu_g13_5⟩
          intro R
          refine WL.extract rfl rfl rfl ?_
          exact WL.done ⟨_, rfl, rfl, ⟨A37_5, m38_5, cp39_5, rfl, hu_5, hum_5, hap_hu_g11_5, hap_hu_g13_5⟩⟩
        · intro w42 hE
          rintro _ ⟨A37_5, m38_5, cp39_5, rfl, hu_5, hum_5, hap_hu_g11_5, hap_hu_g13_5⟩
          intro R
          refine WL.extract rfl rfl rfl ?_
          exact WL.done ⟨_, rfl, rfl, rfl⟩
        · intro w43 hE
          rintro _ ⟨A37_5_6, m38_5_6, cp39_5_6, rfl, hu_5_6, hum_5_6, hap_hu_g11_5_6, hap_hu_g13_5_6⟩
          intro R
          refine WL.assign rfl rfl ?_
          exact WL.done ⟨_, rfl, rfl, ⟨A37_5_6, m38_5_6, cp39_5_6, rfl, hu_5_6, hum_5_6, hap_hu_g11_5_6, hap_hu_g13_5_6⟩⟩
      · intro vals w44 hT hVs
        have hB := ext_trans hB hT
        have hVg13 := hVg13.ext hT
        have htn := htn.ext hT
        have hVg11 := hVg11.ext hT
        have hv0 : vals 0 = _ := hVs 0 (by decide)
        have hv1 : vals 1 = _ := hVs 1 (by decide)
        have hv2 : vals 2 = _ := hVs 2 (by decide)
        have hv3 : vals 3 = _ := hVs 3 (by decide)
        obtain ⟨A37, m38, cp39, hv4, hu, hum, hap_hu_g11, hap_hu_g13⟩ := hVs 4 (by decide)
        obtain ⟨A37_5, m38_5, cp39_5, hv5, hu_5, hum_5, hap_hu_g11_5, hap_hu_g13_5⟩ := hVs 5 (by decide)
        obtain ⟨A37_5_6, m38_5_6, cp39_5_6, hv6, hu_5_6, hum_5_6, hap_hu_g11_5_6, hap_hu_g13_5_6⟩ := hVs 6 (by decide)
        have hv7 : vals 7 = _ := hVs 7 (by decide)
        obtain ⟨A37_5_6_8, m38_5_6_8, cp39_5_6_8, hv8, hu_5_6_8, hum_5_6_8, hap_hu_g11_5_6_8, hap_hu_g13_5_6_8⟩ := hVs 8 (by decide)
        rw [show (List.filterMap (fun i => Option.map (fun t => (t, vals i)) (dstAt _ i)) (List.range _)) = [(23, .pointer (some ((⟨g11, 0, none⟩ : Addr).add 1))), (24, .slice A19 m20 c21), (25, .int .i64 X), (26, .int .i64 ((cntZ X : Nat) : Int)), (27, .tuple #[.slice A37 m38 cp39, .int .i64 (0 : Int)]), (22, .tuple #[.slice A37_5 m38_5 cp39_5, .int .i64 (0 : Int)]), (28, .slice A37_5_6 m38_5_6 cp39_5_6), (29, .int .i64 (0 : Int)), (6, .slice A37_5_6_8 m38_5_6_8 cp39_5_6_8)] from by
          show [(23, vals 0), (24, vals 1), (25, vals 2), (26, vals 3), (27, vals 4), (22, vals 5), (28, vals 6), (29, vals 7), (6, vals 8)] = _
          rw [hv0, hv1, hv2, hv3, hv4, hv5, hv6, hv7, hv8]]
        refine WA.step [9] (by decide +kernel) rfl ?_
        intro iQ hQ
        simp only [List.mem_cons, List.not_mem_nil, or_false] at hQ
        obtain rfl := hQ
        · refine ⟨_, rfl, ?_⟩
          refine WL.assign rfl rfl ?_
          refine WL.done ?_
          refine WA.done (by decide +kernel) ?_
          refine W.seq ?_
          refine W.seq ?_
          refine W.region ?_
          refine WL.move rfl rfl ?_
          refine WL.neq rfl rfl rfl (fun c45 => ?_) (fun c45 => ?_)
          · exfalso
            omega
          · refine WL.done ?_
            refine W.condF rfl ?_
            refine W.skip ?_
            refine W.seq ?_
            refine W.drawT 9 [⟨[], [2], true⟩, ⟨[0], [], false⟩, ⟨[], [1], true⟩, ⟨[2], [], false⟩, ⟨[1, 3], [], false⟩, ⟨[4], [], true⟩, ⟨[5], [], true⟩, ⟨[5], [], true⟩, ⟨[6], [], true⟩] [[(2, .pointer (some ⟨g11, 0, none⟩))], [], [(1, .int .i64 X)], [], [], [], [], [], []] (fun iQ => [fun v wQ => v = .pointer (some ((⟨g11, 0, none⟩ : Addr).add 2)), fun v wQ => v = .slice A16 m17 c18, fun v wQ => v = .int .i64 X, fun v wQ => v = .int .i64 ((cntZ X : Nat) : Int), fun v wQ => ∃ A53 m54 cp55, v = .tuple #[.slice A53 m54 cp55, .int .i64 (0 : Int)] ∧ (Own w.heap.size wQ 43 1 A53 m54 cp55 (us (digs ((qnum qa) ^ (cntZ X))))) ∧ (m54 ≤ 4096) ∧ (∀ k, bl A53 = some k → k ≠ g11) ∧ (∀ k, bl A53 = some k → k ≠ g13), fun v wQ => ∃ A53_5 m54_5 cp55_5, v = .tuple #[.slice A53_5 m54_5 cp55_5, .int .i64 (0 : Int)] ∧ (Own w.heap.size wQ 43 1 A53_5 m54_5 cp55_5 (us (digs ((qnum qa) ^ (cntZ X))))) ∧ (m54_5 ≤ 4096) ∧ (∀ k, bl A53_5 = some k → k ≠ g11) ∧ (∀ k, bl A53_5 = some k → k ≠ g13), fun v wQ => ∃ A53_5_6 m54_5_6 cp55_5_6, v = .slice A53_5_6 m54_5_6 cp55_5_6 ∧ (Own w.heap.size wQ 43 1 A53_5_6 m54_5_6 cp55_5_6 (us (digs ((qnum qa) ^ (cntZ X))))) ∧ (m54_5_6 ≤ 4096) ∧ (∀ k, bl A53_5_6 = some k → k ≠ g11) ∧ (∀ k, bl A53_5_6 = some k → k ≠ g13), fun v wQ => v = .int .i64 (0 : Int), fun v wQ => ∃ A53_5_6_8 m54_5_6_8 cp55_5_6_8, v = .slice A53_5_6_8 m54_5_6_8 cp55_5_6_8 ∧ (Own w.heap.size wQ 43 1 A53_5_6_8 m54_5_6_8 cp55_5_6_8 (us (digs ((qnum qa) ^ (cntZ X))))) ∧ (m54_5_6_8 ≤ 4096) ∧ (∀ k, bl A53_5_6_8 = some k → k ≠ g11) ∧ (∀ k, bl A53_5_6_8 = some k → k ≠ g13)].getD iQ (fun _ _ => True)) Try.mixed (by kernel_rfl) ?_ ?_ ?_
            · refine Vs_monoT _ ?_
              intro VQ hVQ vQ wQ1 wQ2 hQ1 hQ2
              simp only [List.mem_cons, List.not_mem_nil, or_false] at hVQ
              rcases hVQ with rfl | rfl | rfl | rfl | rfl | rfl | rfl | rfl | rfl
              · exact hQ1
              · exact hQ1
              · exact hQ1
              · exact hQ1
              · obtain ⟨A53, m54, cp55, hQe, hv, hvm, hap_hv_g11, hap_hv_g13⟩ := hQ1
                exact ⟨A53, m54, cp55, hQe, hv.ext hQ2, hvm, hap_hv_g11, hap_hv_g13⟩
              · obtain ⟨A53_5, m54_5, cp55_5, hQe, hv_5, hvm_5, hap_hv_g11_5, hap_hv_g13_5⟩ := hQ1
                exact ⟨A53_5, m54_5, cp55_5, hQe, hv_5.ext hQ2, hvm_5, hap_hv_g11_5, hap_hv_g13_5⟩
              · obtain ⟨A53_5_6, m54_5_6, cp55_5_6, hQe, hv_5_6, hvm_5_6, hap_hv_g11_5_6, hap_hv_g13_5_6⟩ := hQ1
                exact ⟨A53_5_6, m54_5_6, cp55_5_6, hQe, hv_5_6.ext hQ2, hvm_5_6, hap_hv_g11_5_6, hap_hv_g13_5_6⟩
              · exact hQ1
              · obtain ⟨A53_5_6_8, m54_5_6_8, cp55_5_6_8, hQe, hv_5_6_8, hvm_5_6_8, hap_hv_g11_5_6_8, hap_hv_g13_5_6_8⟩ := hQ1
                exact ⟨A53_5_6_8, m54_5_6_8, cp55_5_6_8, hQe, hv_5_6_8.ext hQ2, hvm_5_6_8, hap_hv_g11_5_6_8, hap_hv_g13_5_6_8⟩
            · refine ⟨⟨rfl, ⟨rfl, trivial⟩, ?_⟩, ⟨rfl, trivial, ?_⟩, ⟨rfl, ⟨rfl, trivial⟩, ?_⟩, ⟨rfl, trivial, ?_⟩, ⟨rfl, trivial, ?_⟩, ⟨rfl, trivial, ?_⟩, ⟨rfl, trivial, ?_⟩, ⟨rfl, trivial, ?_⟩, ⟨rfl, trivial, ?_⟩, trivial⟩
              · intro w46 hE
                intro R
                refine WL.fieldA (off := 2) Try.fla31_2 rfl rfl ?_
                exact WL.done ⟨_, rfl, rfl, rfl⟩
              · intro w47 hE
                have hE := hE rfl
                have hB := ext_trans hB hE
                have hVg11 := hVg11.ext hE
                rintro _ rfl
                intro R
                refine WL.load Try.underlying23 rfl rfl (hVg11.vcells 2 _ rfl) rfl ?_
                exact WL.done ⟨_, rfl, ext_refl _, rfl⟩
              · intro w48 hE
                intro R
                refine WL.move rfl rfl ?_
                exact WL.done ⟨_, rfl, rfl, rfl⟩
              · intro w49 hE
                have hE := hE rfl
                have hB := ext_trans hB hE
                rintro _ rfl
                intro R
                refine WL.call Try.func74 rfl Try.nm74 rfl rfl (count_c (by omega)) ?_
                rintro _ w50 ⟨rfl, hGw50⟩
                have hB := ext_trans hB hGw50
                exact WL.done ⟨_, rfl, hGw50, rfl⟩
              · intro w51 hE
                have hE := hE rfl
                have hB := ext_trans hB hE
                have hVg13 := hVg13.ext hE
                have htn := htn.ext hE
                have hVg11 := hVg11.ext hE
                rintro _ rfl
                rintro _ rfl
                intro R
                refine WL.call Try.func73 rfl Try.nm73 rfl rfl (PowD_ok htn.rd (digs_lim _) (qnum qa) (nv_digs _) (cntZ X) (by omega) (by omega) (by omega) k2) ?_
                rintro _ w52 ⟨A53, m54, cp55, rfl, hGw52, hv, hvm⟩
                have hap_hv_g11 := ap_new hv (hVg11.bl_ge _ rfl).2
                have hap_hv_g13 := ap_new hv (hVg13.bl_ge _ rfl).2
                have hv := hv.low (b' := w.heap.size) hB.size
                have hB := ext_trans hB hGw52
                have hv_l := hv.rd.ulen
                exact WL.done ⟨_, rfl, hGw52, ⟨A53, m54, cp55, rfl, hv, hvm, hap_hv_g11, hap_hv_g13⟩⟩
              · intro w56 hE
                rintro _ ⟨A53, m54, cp55, rfl, hv, hvm, hap_hv_g11, hap_hv_g13⟩
                intro R
                refine WL.move rfl rfl ?_
                exact WL.done ⟨_, rfl, rfl, ⟨A53, m54, cp55, rfl, hv, hvm, hap_hv_g11, hap_hv_g13⟩⟩
              · intro w57 hE
                rintro _ ⟨A53_5, m54_5, cp55_5, rfl, hv_5, hvm_5, hap_hv_g11_5, hap_hv_g13_5⟩
                intro R
                refine WL.extract rfl rfl rfl ?_
                exact WL.done ⟨_, rfl, rfl, ⟨A53_5, m54_5, cp55_5, rfl, hv_5, hvm_5, hap_hv_g11_5, hap_hv_g13_5⟩⟩
              · intro w58 hE
                rintro _ ⟨A53_5, m54_5, cp55_5, rfl, hv_5, hvm_5, hap_hv_g11_5, hap_hv_g13_5⟩
                intro R
                refine WL.extract rfl rfl rfl ?_
                exact WL.done ⟨_, rfl, rfl, rfl⟩
              · intro w59 hE
                rintro _ ⟨A53_5_6, m54_5_6, cp55_5_6, rfl, hv_5_6, hvm_5_6, hap_hv_g11_5_6, hap_hv_g13_5_6⟩
                intro R
                refine WL.assign rfl rfl ?_
                exact WL.done ⟨_, rfl, rfl, ⟨A53_5_6, m54_5_6, cp55_5_6, rfl, hv_5_6, hvm_5_6, hap_hv_g11_5_6, hap_hv_g13_5_6⟩⟩
            · intro vals w60 hT hVs
              have hB := ext_trans hB hT
              have hVg13 := hVg13.ext hT
              have hVg11 := hVg11.ext hT
              have hu_5_6_8 := hu_5_6_8.ext hT
              have hv0 : vals 0 = _ := hVs 0 (by decide)
              have hv1 : vals 1 = _ := hVs 1 (by decide)
              have hv2 : vals 2 = _ := hVs 2 (by decide)
              have hv3 : vals 3 = _ := hVs 3 (by decide)
              obtain ⟨A53, m54, cp55, hv4, hv, hvm, hap_hv_g11, hap_hv_g13⟩ := hVs 4 (by decide)
              obtain ⟨A53_5, m54_5, cp55_5, hv5, hv_5, hvm_5, hap_hv_g11_5, hap_hv_g13_5⟩ := hVs 5 (by decide)
              obtain ⟨A53_5_6, m54_5_6, cp55_5_6, hv6, hv_5_6, hvm_5_6, hap_hv_g11_5_6, hap_hv_g13_5_6⟩ := hVs 6 (by decide)
              have hv7 : vals 7 = _ := hVs 7 (by decide)
              obtain ⟨A53_5_6_8, m54_5_6_8, cp55_5_6_8, hv8, hv_5_6_8, hvm_5_6_8, hap_hv_g11_5_6_8, hap_hv_g13_5_6_8⟩ := hVs 8 (by decide)
              rw [show (List.filterMap (fun i => Option.map (fun t => (t, vals i)) (dstAt _ i)) (List.range _)) = [(35, .pointer (some ((⟨g11, 0, none⟩ : Addr).add 2))), (36, .slice A16 m17 c18), (37, .int .i64 X), (38, .int .i64 ((cntZ X : Nat) : Int)), (39, .tuple #[.slice A53 m54 cp55, .int .i64 (0 : Int)]), (34, .tuple #[.slice A53_5 m54_5 cp55_5, .int .i64 (0 : Int)]), (40, .slice A53_5_6 m54_5_6 cp55_5_6), (41, .int .i64 (0 : Int)), (8, .slice A53_5_6_8 m54_5_6_8 cp55_5_6_8)] from by
                show [(35, vals 0), (36, vals 1), (37, vals 2), (38, vals 3), (39, vals 4), (34, vals 5), (40, vals 6), (41, vals 7), (8, vals 8)] = _
                rw [hv0, hv1, hv2, hv3, hv4, hv5, hv6, hv7, hv8]]
              refine WA.step [9] (by decide +kernel) rfl ?_
              intro iQ hQ
              simp only [List.mem_cons, List.not_mem_nil, or_false] at hQ
              obtain rfl := hQ
              · refine ⟨_, rfl, ?_⟩
                refine WL.assign rfl rfl ?_
                refine WL.done ?_
                refine WA.done (by decide +kernel) ?_
                refine W.seq ?_
                refine W.seq ?_
                refine W.region ?_
                refine WL.move rfl rfl ?_
                refine WL.neq rfl rfl rfl (fun c61 => ?_) (fun c61 => ?_)
                · exfalso
                  omega
                · refine WL.done ?_
                  refine W.condF rfl ?_
                  refine W.skip ?_
                  refine W.seq ?_
                  refine W.region ?_
                  refine WL.fieldA (off := 0) Try.fla31_0 rfl rfl ?_
                  refine WL.load Try.underlying4 rfl rfl (hVg11.vcells 0 _ rfl) rfl ?_
                  refine WL.move rfl rfl ?_
                  rcases hg62 : (qneg (qa)) with _ | _
                  · refine WL.pass rfl rfl rfl ?_
                    refine WL.pass rfl rfl rfl ?_
                    refine WL.pass rfl rfl rfl ?_
                    refine WL.pick rfl rfl rfl ?_
                    refine WL.move rfl rfl ?_
                    refine WL.move rfl rfl ?_
                    refine WL.build (cells := #[.bool false, .slice A37_5_6_8 m38_5_6_8 cp39_5_6_8, .slice A53_5_6_8 m54_5_6_8 cp55_5_6_8]) Try.bld31 rfl rfl rfl ?_
                    refine WL.storeV Try.el31 rfl rfl rfl rfl hVg13 ?_
                    have hOld64 := hVg13
                    intro w63 hVg13 hGw63
                    change Own _ _ _ _ _ _ _ [.bool false, .slice A37_5_6_8 m38_5_6_8 cp39_5_6_8, .slice A53_5_6_8 m54_5_6_8 cp55_5_6_8] at hVg13
                    have hB := ext_own hB hGw63 (fun g hg => (hOld64.bl_ge g hg).1)
                    have hu_5_6_8 := hu_5_6_8.grown hGw63 (ap_row (by first | exact hap_hu_5_6_8_g13 | exact ap_type hu_5_6_8 hOld64 (by decide)))
                    have hv_5_6_8 := hv_5_6_8.grown hGw63 (ap_row (by first | exact hap_hv_5_6_8_g13 | exact ap_type hv_5_6_8 hOld64 (by decide)))
                    refine WL.assign rfl rfl ?_
                    refine WL.done ?_
                    refine W.ret ?_
                    refine ⟨[.agg #[.bool false, .slice A37_5_6_8 m38_5_6_8 cp39_5_6_8, .slice A53_5_6_8 m54_5_6_8 cp55_5_6_8], .int .i64 (0 : Int)], ⟨_, _, _, rfl, rfl, run_loadV (cs := [.bool false, .slice A37_5_6_8 m38_5_6_8 cp39_5_6_8, .slice A53_5_6_8 m54_5_6_8 cp55_5_6_8]) Try.el31 Try.agg31 rfl hVg13.vcells, ⟨_, _, rfl, rfl, rfl⟩⟩, ?_⟩
                    rw [e1] at hu_5_6_8
                    rw [e2] at hv_5_6_8
                    rw [zp1, zp2, zp3]
                    first
                    | (rw [sgn_f1 (by assumption)]; exact ⟨_, _, _, _, _, _, rfl, hB, hu_5_6_8, hv_5_6_8, by omega⟩)
                    | (rw [sgn_f2 (by assumption)]; exact ⟨_, _, _, _, _, _, rfl, hB, hu_5_6_8, hv_5_6_8, by omega⟩)
                    | (rw [sgn_t (by assumption) (by assumption)]; exact ⟨_, _, _, _, _, _, rfl, hB, hu_5_6_8, hv_5_6_8, by omega⟩)
                  · refine WL.take rfl ?_
                    refine WL.move rfl rfl ?_
                    refine WL.take rfl ?_
                    refine WL.rem (r := (X.tmod 2)) rfl rfl (by omega) rfl rfl ?_
                    refine WL.take rfl ?_
                    refine WL.neq rfl rfl rfl (fun c65 => ?_) (fun c65 => ?_)
                    · refine WL.pick rfl rfl rfl ?_
                      refine WL.move rfl rfl ?_
                      refine WL.move rfl rfl ?_
                      refine WL.build (cells := #[.bool true, .slice A37_5_6_8 m38_5_6_8 cp39_5_6_8, .slice A53_5_6_8 m54_5_6_8 cp55_5_6_8]) Try.bld31 rfl rfl rfl ?_
                      refine WL.storeV Try.el31 rfl rfl rfl rfl hVg13 ?_
                      have hOld67 := hVg13
                      intro w66 hVg13 hGw66
                      change Own _ _ _ _ _ _ _ [.bool true, .slice A37_5_6_8 m38_5_6_8 cp39_5_6_8, .slice A53_5_6_8 m54_5_6_8 cp55_5_6_8] at hVg13
                      have hB := ext_own hB hGw66 (fun g hg => (hOld67.bl_ge g hg).1)
                      have hu_5_6_8 := hu_5_6_8.grown hGw66 (ap_row (by first | exact hap_hu_5_6_8_g13 | exact ap_type hu_5_6_8 hOld67 (by decide)))
                      have hv_5_6_8 := hv_5_6_8.grown hGw66 (ap_row (by first | exact hap_hv_5_6_8_g13 | exact ap_type hv_5_6_8 hOld67 (by decide)))
                      refine WL.assign rfl rfl ?_
                      refine WL.done ?_
                      refine W.ret ?_
                      refine ⟨[.agg #[.bool true, .slice A37_5_6_8 m38_5_6_8 cp39_5_6_8, .slice A53_5_6_8 m54_5_6_8 cp55_5_6_8], .int .i64 (0 : Int)], ⟨_, _, _, rfl, rfl, run_loadV (cs := [.bool true, .slice A37_5_6_8 m38_5_6_8 cp39_5_6_8, .slice A53_5_6_8 m54_5_6_8 cp55_5_6_8]) Try.el31 Try.agg31 rfl hVg13.vcells, ⟨_, _, rfl, rfl, rfl⟩⟩, ?_⟩
                      rw [e1] at hu_5_6_8
                      rw [e2] at hv_5_6_8
                      rw [zp1, zp2, zp3]
                      first
                      | (rw [sgn_f1 (by assumption)]; exact ⟨_, _, _, _, _, _, rfl, hB, hu_5_6_8, hv_5_6_8, by omega⟩)
                      | (rw [sgn_f2 (by assumption)]; exact ⟨_, _, _, _, _, _, rfl, hB, hu_5_6_8, hv_5_6_8, by omega⟩)
                      | (rw [sgn_t (by assumption) (by assumption)]; exact ⟨_, _, _, _, _, _, rfl, hB, hu_5_6_8, hv_5_6_8, by omega⟩)
                    · refine WL.pick rfl rfl rfl ?_
                      refine WL.move rfl rfl ?_
                      refine WL.move rfl rfl ?_
                      refine WL.build (cells := #[.bool false, .slice A37_5_6_8 m38_5_6_8 cp39_5_6_8, .slice A53_5_6_8 m54_5_6_8 cp55_5_6_8]) Try.bld31 rfl rfl rfl ?_
                      refine WL.storeV Try.el31 rfl rfl rfl rfl hVg13 ?_
                      have hOld69 := hVg13
                      intro w68 hVg13 hGw68
                      change Own _ _ _ _ _ _ _ [.bool false, .slice A37_5_6_8 m38_5_6_8 cp39_5_6_8, .slice A53_5_6_8 m54_5_6_8 cp55_5_6_8] at hVg13
                      have hB := ext_own hB hGw68 (fun g hg => (hOld69.bl_ge g hg).1)
                      have hu_5_6_8 := hu_5_6_8.grown hGw68 (ap_row (by first | exact hap_hu_5_6_8_g13 | exact ap_type hu_5_6_8 hOld69 (by decide)))
                      have hv_5_6_8 := hv_5_6_8.grown hGw68 (ap_row (by first | exact hap_hv_5_6_8_g13 | exact ap_type hv_5_6_8 hOld69 (by decide)))
                      refine WL.assign rfl rfl ?_
                      refine WL.done ?_
                      refine W.ret ?_
                      refine ⟨[.agg #[.bool false, .slice A37_5_6_8 m38_5_6_8 cp39_5_6_8, .slice A53_5_6_8 m54_5_6_8 cp55_5_6_8], .int .i64 (0 : Int)], ⟨_, _, _, rfl, rfl, run_loadV (cs := [.bool false, .slice A37_5_6_8 m38_5_6_8 cp39_5_6_8, .slice A53_5_6_8 m54_5_6_8 cp55_5_6_8]) Try.el31 Try.agg31 rfl hVg13.vcells, ⟨_, _, rfl, rfl, rfl⟩⟩, ?_⟩
                      rw [e1] at hu_5_6_8
                      rw [e2] at hv_5_6_8
                      rw [zp1, zp2, zp3]
                      first
                      | (rw [sgn_f1 (by assumption)]; exact ⟨_, _, _, _, _, _, rfl, hB, hu_5_6_8, hv_5_6_8, by omega⟩)
                      | (rw [sgn_f2 (by assumption)]; exact ⟨_, _, _, _, _, _, rfl, hB, hu_5_6_8, hv_5_6_8, by omega⟩)
                      | (rw [sgn_t (by assumption) (by assumption)]; exact ⟨_, _, _, _, _, _, rfl, hB, hu_5_6_8, hv_5_6_8, by omega⟩)
    · exfalso
      have z0 := z0_t rfl
      exact hq0 z0
  · exfalso
    omega

set_option maxHeartbeats 1000000 in
theorem rqPow_n_okok {w : World} {Ban : Nat} {Aan : Option Addr} {man can : Nat} {xan : List Nat} (han : Rd Ban w 1 Aan man can (us xan)) {Bad : Nat} {Aad : Option Addr} {mad cad : Nat} {xad : List Nat} (had : Rd Bad w 1 Aad mad cad (us xad)) {na : Bool} (hLan : Lim xan) (hLad : Lim xad) (qa : Rat) (hqa : val na (nv xan) (nv xad) = qa) (hsa : man ≤ 4194304 ∧ mad ≤ 4194304) {X : Int} (hX : -9223372036854775808 ≤ X ∧ X ≤ 9223372036854775807) (hsm : man ≤ 1000 ∧ mad ≤ 1000) (hsg : X < 0) (hq0 : qa ≠ 0) (h1 : (qa.den) ^ X.natAbs < bigN) (h2 : (qnum qa) ^ X.natAbs < bigN) :
    Calls Try.prog 41 #[.agg #[.bool na, .slice Aan man can, .slice Aad mad cad], .int .i64 X] w fun e w2 => ∃ v, e = .returned v ∧ (fun v w2 => ∃ A2 m2 c2 A3 m3 c3, v = .tuple #[.agg #[.bool (qneg (qa ^ X)), .slice A2 m2 c2, .slice A3 m3 c3], .int .i64 0] ∧ w.grownBy w2 none ∧ Own w.heap.size w2 43 1 A2 m2 c2 (us (digs (qnum (qa ^ X)))) ∧ Own w.heap.size w2 43 1 A3 m3 c3 (us (digs (Rat.den (qa ^ X)))) ∧ m2 ≤ 4096 ∧ m3 ≤ 4097) v w2 := by
  have han := han.norm
  have han_l := han.ulen
  have han_x := han.max
  simp only [maxLen] at han_x
  have han_c := han.cap
  have had := had.norm
  have had_l := had.ulen
  have had_x := had.max
  simp only [maxLen] at had_x
  have had_c := had.cap
  have han0 := han
  have had0 := had
  obtain ⟨zp1, zp2, zp3⟩ := zp_neg (q := qa) hq0 hsg
  have hcl := crZ_lt hX
  obtain ⟨pu1, pu2⟩ := powcap (x := qa.den) (crZ_cap X)
  obtain ⟨pv1, pv2⟩ := powcap (x := qnum qa) (crZ_cap X)
  have ht2 := tm2 X
  have k1 := pu1.2 h1
  have e1 := pu2 h1
  have k2 := pv1.2 h2
  have e2 := pv2 h2
  have hB := ext_refl w
  refine calls_of_Wc (vs := [.agg #[.bool na, .slice Aan man can, .slice Aad mad cad], .int .i64 X]) [.cell 4 31, .tmp 5] Try.func41 rfl rfl rfl rfl ?_
  refine W.seq ?_
  refine W.region ?_
  refine WL.box Try.el31 rfl rfl rfl ?_
  intro g11 w12 hg_g11 hVg11 hGw12
  change Own _ _ _ _ _ _ _ [.bool na, .slice Aan man can, .slice Aad mad cad] at hVg11
  have hVg11 := hVg11.low (b' := w.heap.size) hB.size
  have hB := ext_trans hB hGw12
  have han := han0.ext hB
  have had := had0.ext hB
  refine WL.alloc Try.el31 rfl ?_
  intro g13 w14 hg_g13 hVg13 hGw14
  change Own _ _ _ _ _ _ _ [.bool false, .slice none 0 0, .slice none 0 0] at hVg13
  have hlt_g11_g13 : g11 < g13 := by rw [hg_g13]; exact (hVg11.bl_ge _ rfl).2
  have hVg13 := hVg13.low (b' := w.heap.size) hB.size
  have hB := ext_trans hB hGw14
  have han := han0.ext hB
  have had := had0.ext hB
  have hVg11 := hVg11.ext hGw14
  refine WL.assign rfl rfl ?_
  refine WL.done ?_
  refine W.seq ?_
  refine W.region ?_
  refine WL.loadV (cs := [.bool na, .slice Aan man can, .slice Aad mad cad]) Try.el31 Try.agg31 rfl rfl hVg11.vcells rfl ?_
  refine WL.call Try.func20 rfl Try.nm20 rfl rfl (rqTrim_c han had hLan hLad qa hqa (by omega)) ?_
  rintro _ w15 ⟨A16, m17, c18, A19, m20, c21, rfl, hGw15, htn, htd, htm⟩
  have hap_htn_g11 := ap_new htn (hVg11.bl_ge _ rfl).2
  have hap_htd_g11 := ap_new htd (hVg11.bl_ge _ rfl).2
  have htn := htn.low (b' := w.heap.size) hB.size
  have htd := htd.low (b' := w.heap.size) hB.size
  have hB := ext_trans hB hGw15
  have hVg11 := hVg11.ext hGw15
  have hVg13 := hVg13.ext hGw15
  have htn_l := htn.rd.ulen
  have htd_l := htd.rd.ulen
  refine WL.storeV Try.el31 rfl rfl rfl rfl hVg11 ?_
  have hOld23 := hVg11
  intro w22 hVg11 hGw22
  change Own _ _ _ _ _ _ _ [.bool (qneg (qa)), .slice A16 m17 c18, .slice A19 m20 c21] at hVg11
  have hB := ext_own hB hGw22 (fun g hg => (hOld23.bl_ge g hg).1)
  have hVg13 := hVg13.grown hGw22 (apart (by omega))
  have htn := htn.grown hGw22 (ap_row (by first | exact hap_htn_g11 | exact ap_type htn hOld23 (by decide)))
  have htd := htd.grown hGw22 (ap_row (by first | exact hap_htd_g11 | exact ap_type htd hOld23 (by decide)))
  refine WL.done ?_
  refine W.seq ?_
  refine W.seq ?_
  refine W.region ?_
  refine WL.move rfl rfl ?_
  refine WL.lss rfl rfl rfl (fun c24 => ?_) (fun c24 => ?_)
  · refine WL.done ?_
    refine W.condT rfl ?_
    refine W.seq ?_
    refine W.seq ?_
    refine W.region ?_
    refine WL.fieldA (off := 1) Try.fla31_1 rfl rfl ?_
    refine WL.load Try.underlying23 rfl rfl (hVg11.vcells 1 _ rfl) rfl ?_
    refine WL.len Try.underlying23 rfl rfl ?_
    refine WL.eql rfl rfl rfl (fun c25 => ?_) (fun c25 => ?_)
    · exfalso
      have h9 := rdigs_len0 (n := qnum qa)
      have h8 := htn.rd.ulen
      exact hq0 (qnum_eq_zero.1 (rdigs_len0.1 (by omega)))
    · refine WL.done ?_
      refine W.condF rfl ?_
      refine W.skip ?_
      refine W.region ?_
      refine WL.loadV (cs := [.bool (qneg (qa)), .slice A16 m17 c18, .slice A19 m20 c21]) Try.el31 Try.agg31 rfl rfl hVg11.vcells rfl ?_
      refine WL.call Try.func75 rfl Try.nm75 rfl rfl (rqInv_c htn.rd htd.rd (digs_lim _) (digs_lim _) qa (val_canon _) (by omega)) ?_
      rintro _ w26 ⟨A27, m28, c29, A30, m31, c32, rfl, hGw26, hin, hid, him⟩
      have hap_hin_g11 := ap_new hin (hVg11.bl_ge _ rfl).2
      have hap_hid_g11 := ap_new hid (hVg11.bl_ge _ rfl).2
      have hin := hin.low (b' := w.heap.size) hB.size
      have hid := hid.low (b' := w.heap.size) hB.size
      have hB := ext_trans hB hGw26
      have hVg13 := hVg13.ext hGw26
      have hVg11 := hVg11.ext hGw26
      have hin_l := hin.rd.ulen
      have hid_l := hid.rd.ulen
      refine WL.storeV Try.el31 rfl rfl rfl rfl hVg11 ?_
      have hOld34 := hVg11
      intro w33 hVg11 hGw33
      change Own _ _ _ _ _ _ _ [.bool (qneg (qa)), .slice A27 m28 c29, .slice A30 m31 c32] at hVg11
      have hB := ext_own hB hGw33 (fun g hg => (hOld34.bl_ge g hg).1)
      have hVg13 := hVg13.grown hGw33 (apart (by omega))
      have hin := hin.grown hGw33 (ap_row (by first | exact hap_hin_g11 | exact ap_type hin hOld34 (by decide)))
      have hid := hid.grown hGw33 (ap_row (by first | exact hap_hid_g11 | exact ap_type hid hOld34 (by decide)))
      refine WL.done ?_
      refine W.seq ?_
      refine W.region ?_
      refine WL.move rfl rfl ?_
      refine WL.rem (r := (X.tmod 2)) rfl rfl (by omega) rfl rfl ?_
      refine WL.neq rfl rfl rfl (fun c35 => ?_) (fun c35 => ?_)
      · refine WL.assign rfl rfl ?_
        refine WL.done ?_
        refine W.seq ?_
        refine W.seq ?_
        refine W.region ?_
        refine WL.move rfl rfl ?_
        refine WL.lss rfl rfl rfl (fun c36 => ?_) (fun c36 => ?_)
        · refine WL.done ?_
          refine W.condT rfl ?_
          refine W.region ?_
          refine WL.move rfl rfl ?_
          refine WL.max2 (r := (max X (-4611686018427387904))) rfl rfl rfl rfl ?_
          refine WL.neg (r := ((crZ X : Nat) : Int)) rfl (wi64 (by omega) (by omega) (by unfold crZ; split <;> omega)) rfl ?_
          refine WL.assign rfl rfl ?_
          refine WL.done ?_
          refine W.seq ?_
          refine W.region ?_
          refine WL.fieldA (off := 1) Try.fla31_1 rfl rfl ?_
          refine WL.load Try.underlying23 rfl rfl (hVg11.vcells 1 _ rfl) rfl ?_
          refine WL.move rfl rfl ?_
          refine WL.call Try.func76 rfl Try.nm76 rfl rfl (rPowD_ok hin.rd (digs_lim _) qa.den (nv_digs _) (crZ X) (by omega) (by omega) (by omega) k1) ?_
          rintro _ w37 ⟨A38, m39, cp40, rfl, hGw37, hu, hum⟩
          have hu := hu.low (b' := w.heap.size) hB.size
          have hB := ext_trans hB hGw37
          have hVg13 := hVg13.ext hGw37
          have hid := hid.ext hGw37
          have hVg11 := hVg11.ext hGw37
          have hu_l := hu.rd.ulen
          refine WL.move rfl rfl ?_
          refine WL.extract rfl rfl rfl ?_
          refine WL.extract rfl rfl rfl ?_
          refine WL.assign rfl rfl ?_
          refine WL.assign rfl rfl ?_
          refine WL.done ?_
          refine W.seq ?_
          refine W.region ?_
          refine WL.fieldA (off := 2) Try.fla31_2 rfl rfl ?_
          refine WL.load Try.underlying23 rfl rfl (hVg11.vcells 2 _ rfl) rfl ?_
          refine WL.move rfl rfl ?_
          refine WL.call Try.func76 rfl Try.nm76 rfl rfl (rPowD_ok hid.rd (digs_lim _) (qnum qa) (nv_digs _) (crZ X) (by omega) (by omega) (by omega) k2) ?_
          rintro _ w41 ⟨A42, m43, cp44, rfl, hGw41, hv, hvm⟩
          have hv := hv.low (b' := w.heap.size) hB.size
          have hB := ext_trans hB hGw41
          have hVg13 := hVg13.ext hGw41
          have hVg11 := hVg11.ext hGw41
          have hu := hu.ext hGw41
          have hv_l := hv.rd.ulen
          refine WL.move rfl rfl ?_
          refine WL.extract rfl rfl rfl ?_
          refine WL.extract rfl rfl rfl ?_
          refine WL.assign rfl rfl ?_
          refine WL.assign rfl rfl ?_
          refine WL.done ?_
          refine W.seq ?_
          refine W.seq ?_
          refine W.region ?_
          refine WL.move rfl rfl ?_
          refine WL.neq rfl rfl rfl (fun c45 => ?_) (fun c45 => ?_)
          · exfalso
            omega
          · refine WL.move rfl rfl ?_
            refine WL.take rfl ?_
            refine WL.move rfl rfl ?_
            refine WL.take rfl ?_
            refine WL.neq rfl rfl rfl (fun c46 => ?_) (fun c46 => ?_)
            · exfalso
              omega
            · refine WL.pick rfl rfl rfl ?_
              refine WL.done ?_
              refine W.condF rfl ?_
              refine W.skip ?_
              refine W.seq ?_
              refine W.region ?_
              refine WL.fieldA (off := 0) Try.fla31_0 rfl rfl ?_
              refine WL.load Try.underlying4 rfl rfl (hVg11.vcells 0 _ rfl) rfl ?_
              refine WL.move rfl rfl ?_
              rcases hg47 : (qneg (qa)) with _ | _
              · refine WL.pass rfl rfl rfl ?_
                refine WL.pick rfl rfl rfl ?_
                refine WL.move rfl rfl ?_
                refine WL.move rfl rfl ?_
                refine WL.call Try.func31 rfl Try.nm31 rfl rfl (rMake_c hu.rd hv.rd (digs_lim _) (digs_lim _) (by omega) (by omega) (qa ^ X) (by simp only [nv_digs, e1, e2]; rw [← val_q (qa ^ X), zp1, zp2, zp3]; first | rw [sgn_f1 (by assumption)] | rw [sgn_f2 (by assumption)] | rw [sgn_t (by assumption) (by assumption)])) ?_
                rintro _ w48 ⟨A49, m50, c51, A52, m53, c54, rfl, hGw48, hrn, hrd, hrm⟩
                have hap_hrn_g13 := ap_new hrn (hVg13.bl_ge _ rfl).2
                have hap_hrd_g13 := ap_new hrd (hVg13.bl_ge _ rfl).2
                have hrn := hrn.low (b' := w.heap.size) hB.size
                have hrd := hrd.low (b' := w.heap.size) hB.size
                have hB := ext_trans hB hGw48
                have hVg13 := hVg13.ext hGw48
                have hrn_l := hrn.rd.ulen
                have hrd_l := hrd.rd.ulen
                refine WL.storeV Try.el31 rfl rfl rfl rfl hVg13 ?_
                have hOld56 := hVg13
                intro w55 hVg13 hGw55
                change Own _ _ _ _ _ _ _ [.bool (qneg (qa ^ X)), .slice A49 m50 c51, .slice A52 m53 c54] at hVg13
                have hB := ext_own hB hGw55 (fun g hg => (hOld56.bl_ge g hg).1)
                have hrn := hrn.grown hGw55 (ap_row (by first | exact hap_hrn_g13 | exact ap_type hrn hOld56 (by decide)))
                have hrd := hrd.grown hGw55 (ap_row (by first | exact hap_hrd_g13 | exact ap_type hrd hOld56 (by decide)))
                refine WL.assign rfl rfl ?_
                refine WL.done ?_
                refine W.ret ?_
                refine ⟨[.agg #[.bool (qneg (qa ^ X)), .slice A49 m50 c51, .slice A52 m53 c54], .int .i64 (0 : Int)], ⟨_, _, _, rfl, rfl, run_loadV (cs := [.bool (qneg (qa ^ X)), .slice A49 m50 c51, .slice A52 m53 c54]) Try.el31 Try.agg31 rfl hVg13.vcells, ⟨_, _, rfl, rfl, rfl⟩⟩, ?_⟩
                exact ⟨_, _, _, _, _, _, rfl, hB, hrn, hrd, by omega⟩
              · refine WL.take rfl ?_
                refine WL.move rfl rfl ?_
                refine WL.pick rfl rfl rfl ?_
                refine WL.move rfl rfl ?_
                refine WL.move rfl rfl ?_
                refine WL.call Try.func31 rfl Try.nm31 rfl rfl (rMake_c hu.rd hv.rd (digs_lim _) (digs_lim _) (by omega) (by omega) (qa ^ X) (by simp only [nv_digs, e1, e2]; rw [← val_q (qa ^ X), zp1, zp2, zp3]; first | rw [sgn_f1 (by assumption)] | rw [sgn_f2 (by assumption)] | rw [sgn_t (by assumption) (by assumption)])) ?_
                rintro _ w57 ⟨A58, m59, c60, A61, m62, c63, rfl, hGw57, hrn, hrd, hrm⟩
                have hap_hrn_g13 := ap_new hrn (hVg13.bl_ge _ rfl).2
                have hap_hrd_g13 := ap_new hrd (hVg13.bl_ge _ rfl).2
                have hrn := hrn.low (b' := w.heap.size) hB.size
                have hrd := hrd.low (b' := w.heap.size) hB.size
                have hB := ext_trans hB hGw57
                have hVg13 := hVg13.ext hGw57
                have hrn_l := hrn.rd.ulen
                have hrd_l := hrd.rd.ulen
                refine WL.storeV Try.el31 rfl rfl rfl rfl hVg13 ?_
                have hOld65 := hVg13
                intro w64 hVg13 hGw64
                change Own _ _ _ _ _ _ _ [.bool (qneg (qa ^ X)), .slice A58 m59 c60, .slice A61 m62 c63] at hVg13
                have hB := ext_own hB hGw64 (fun g hg => (hOld65.bl_ge g hg).1)
                have hrn := hrn.grown hGw64 (ap_row (by first | exact hap_hrn_g13 | exact ap_type hrn hOld65 (by decide)))
                have hrd := hrd.grown hGw64 (ap_row (by first | exact hap_hrd_g13 | exact ap_type hrd hOld65 (by decide)))
                refine WL.assign rfl rfl ?_
                refine WL.done ?_
                refine W.ret ?_
                refine ⟨[.agg #[.bool (qneg (qa ^ X)), .slice A58 m59 c60, .slice A61 m62 c63], .int .i64 (0 : Int)], ⟨_, _, _, rfl, rfl, run_loadV (cs := [.bool (qneg (qa ^ X)), .slice A58 m59 c60, .slice A61 m62 c63]) Try.el31 Try.agg31 rfl hVg13.vcells, ⟨_, _, rfl, rfl, rfl⟩⟩, ?_⟩
                exact ⟨_, _, _, _, _, _, rfl, hB, hrn, hrd, by omega⟩
        · exfalso
          omega
      · refine WL.assign rfl rfl ?_
        refine WL.done ?_
        refine W.seq ?_
        refine W.seq ?_
        refine W.region ?_
        refine WL.move rfl rfl ?_
        refine WL.lss rfl rfl rfl (fun c66 => ?_) (fun c66 => ?_)
        · refine WL.done ?_
          refine W.condT rfl ?_
          refine W.region ?_
          refine WL.move rfl rfl ?_
          refine WL.max2 (r := (max X (-4611686018427387904))) rfl rfl rfl rfl ?_
          refine WL.neg (r := ((crZ X : Nat) : Int)) rfl (wi64 (by omega) (by omega) (by unfold crZ; split <;> omega)) rfl ?_
          refine WL.assign rfl rfl ?_
          refine WL.done ?_
          refine W.seq ?_
          refine W.region ?_
          refine WL.fieldA (off := 1) Try.fla31_1 rfl rfl ?_
          refine WL.load Try.underlying23 rfl rfl (hVg11.vcells 1 _ rfl) rfl ?_
          refine WL.move rfl rfl ?_
          refine WL.call Try.func76 rfl Try.nm76 rfl rfl (rPowD_ok hin.rd (digs_lim _) qa.den (nv_digs _) (crZ X) (by omega) (by omega) (by omega) k1) ?_
          rintro _ w67 ⟨A68, m69, cp70, rfl, hGw67, hu, hum⟩
          have hu := hu.low (b' := w.heap.size) hB.size
          have hB := ext_trans hB hGw67
          have hVg13 := hVg13.ext hGw67
          have hid := hid.ext hGw67
          have hVg11 := hVg11.ext hGw67
          have hu_l := hu.rd.ulen
          refine WL.move rfl rfl ?_
          refine WL.extract rfl rfl rfl ?_
          refine WL.extract rfl rfl rfl ?_
          refine WL.assign rfl rfl ?_
          refine WL.assign rfl rfl ?_
          refine WL.done ?_
          refine W.seq ?_
          refine W.region ?_
          refine WL.fieldA (off := 2) Try.fla31_2 rfl rfl ?_
          refine WL.load Try.underlying23 rfl rfl (hVg11.vcells 2 _ rfl) rfl ?_
          refine WL.move rfl rfl ?_
          refine WL.call Try.func76 rfl Try.nm76 rfl rfl (rPowD_ok hid.rd (digs_lim _) (qnum qa) (nv_digs _) (crZ X) (by omega) (by omega) (by omega) k2) ?_
          rintro _ w71 ⟨A72, m73, cp74, rfl, hGw71, hv, hvm⟩
          have hv := hv.low (b' := w.heap.size) hB.size
          have hB := ext_trans hB hGw71
          have hVg13 := hVg13.ext hGw71
          have hVg11 := hVg11.ext hGw71
          have hu := hu.ext hGw71
          have hv_l := hv.rd.ulen
          refine WL.move rfl rfl ?_
          refine WL.extract rfl rfl rfl ?_
          refine WL.extract rfl rfl rfl ?_
          refine WL.assign rfl rfl ?_
          refine WL.assign rfl rfl ?_
          refine WL.done ?_
          refine W.seq ?_
          refine W.seq ?_
          refine W.region ?_
          refine WL.move rfl rfl ?_
          refine WL.neq rfl rfl rfl (fun c75 => ?_) (fun c75 => ?_)
          · exfalso
            omega
          · refine WL.move rfl rfl ?_
            refine WL.take rfl ?_
            refine WL.move rfl rfl ?_
            refine WL.take rfl ?_
            refine WL.neq rfl rfl rfl (fun c76 => ?_) (fun c76 => ?_)
            · exfalso
              omega
            · refine WL.pick rfl rfl rfl ?_
              refine WL.done ?_
              refine W.condF rfl ?_
              refine W.skip ?_
              refine W.seq ?_
              refine W.region ?_
              refine WL.fieldA (off := 0) Try.fla31_0 rfl rfl ?_
              refine WL.load Try.underlying4 rfl rfl (hVg11.vcells 0 _ rfl) rfl ?_
              refine WL.move rfl rfl ?_
              rcases hg77 : (qneg (qa)) with _ | _
              · refine WL.pass rfl rfl rfl ?_
                refine WL.pick rfl rfl rfl ?_
                refine WL.move rfl rfl ?_
                refine WL.move rfl rfl ?_
                refine WL.call Try.func31 rfl Try.nm31 rfl rfl (rMake_c hu.rd hv.rd (digs_lim _) (digs_lim _) (by omega) (by omega) (qa ^ X) (by simp only [nv_digs, e1, e2]; rw [← val_q (qa ^ X), zp1, zp2, zp3]; first | rw [sgn_f1 (by assumption)] | rw [sgn_f2 (by assumption)] | rw [sgn_t (by assumption) (by assumption)])) ?_
                rintro _ w78 ⟨A79, m80, c81, A82, m83, c84, rfl, hGw78, hrn, hrd, hrm⟩
                have hap_hrn_g13 := ap_new hrn (hVg13.bl_ge _ rfl).2
                have hap_hrd_g13 := ap_new hrd (hVg13.bl_ge _ rfl).2
                have hrn := hrn.low (b' := w.heap.size) hB.size
                have hrd := hrd.low (b' := w.heap.size) hB.size
                have hB := ext_trans hB hGw78
                have hVg13 := hVg13.ext hGw78
                have hrn_l := hrn.rd.ulen
                have hrd_l := hrd.rd.ulen
                refine WL.storeV Try.el31 rfl rfl rfl rfl hVg13 ?_
                have hOld86 := hVg13
                intro w85 hVg13 hGw85
                change Own _ _ _ _ _ _ _ [.bool (qneg (qa ^ X)), .slice A79 m80 c81, .slice A82 m83 c84] at hVg13
                have hB := ext_own hB hGw85 (fun g hg => (hOld86.bl_ge g hg).1)
                have hrn := hrn.grown hGw85 (ap_row (by first | exact hap_hrn_g13 | exact ap_type hrn hOld86 (by decide)))
                have hrd := hrd.grown hGw85 (ap_row (by first | exact hap_hrd_g13 | exact ap_type hrd hOld86 (by decide)))
                refine WL.assign rfl rfl ?_
                refine WL.done ?_
                refine W.ret ?_
                refine ⟨[.agg #[.bool (qneg (qa ^ X)), .slice A79 m80 c81, .slice A82 m83 c84], .int .i64 (0 : Int)], ⟨_, _, _, rfl, rfl, run_loadV (cs := [.bool (qneg (qa ^ X)), .slice A79 m80 c81, .slice A82 m83 c84]) Try.el31 Try.agg31 rfl hVg13.vcells, ⟨_, _, rfl, rfl, rfl⟩⟩, ?_⟩
                exact ⟨_, _, _, _, _, _, rfl, hB, hrn, hrd, by omega⟩
              · refine WL.take rfl ?_
                refine WL.move rfl rfl ?_
                refine WL.pick rfl rfl rfl ?_
                refine WL.move rfl rfl ?_
                refine WL.move rfl rfl ?_
                refine WL.call Try.func31 rfl Try.nm31 rfl rfl (rMake_c hu.rd hv.rd (digs_lim _) (digs_lim _) (by omega) (by omega) (qa ^ X) (by simp only [nv_digs, e1, e2]; rw [← val_q (qa ^ X), zp1, zp2, zp3]; first | rw [sgn_f1 (by assumption)] | rw [sgn_f2 (by assumption)] | rw [sgn_t (by assumption) (by assumption)])) ?_
                rintro _ w87 ⟨A88, m89, c90, A91, m92, c93, rfl, hGw87, hrn, hrd, hrm⟩
                have hap_hrn_g13 := ap_new hrn (hVg13.bl_ge _ rfl).2
                have hap_hrd_g13 := ap_new hrd (hVg13.bl_ge _ rfl).2
                have hrn := hrn.low (b' := w.heap.size) hB.size
                have hrd := hrd.low (b' := w.heap.size) hB.size
                have hB := ext_trans hB hGw87
                have hVg13 := hVg13.ext hGw87
                have hrn_l := hrn.rd.ulen
                have hrd_l := hrd.rd.ulen
                refine WL.storeV Try.el31 rfl rfl rfl rfl hVg13 ?_
                have hOld95 := hVg13
                intro w94 hVg13 hGw94
                change Own _ _ _ _ _ _ _ [.bool (qneg (qa ^ X)), .slice A88 m89 c90, .slice A91 m92 c93] at hVg13
                have hB := ext_own hB hGw94 (fun g hg => (hOld95.bl_ge g hg).1)
                have hrn := hrn.grown hGw94 (ap_row (by first | exact hap_hrn_g13 | exact ap_type hrn hOld95 (by decide)))
                have hrd := hrd.grown hGw94 (ap_row (by first | exact hap_hrd_g13 | exact ap_type hrd hOld95 (by decide)))
                refine WL.assign rfl rfl ?_
                refine WL.done ?_
                refine W.ret ?_
                refine ⟨[.agg #[.bool (qneg (qa ^ X)), .slice A88 m89 c90, .slice A91 m92 c93], .int .i64 (0 : Int)], ⟨_, _, _, rfl, rfl, run_loadV (cs := [.bool (qneg (qa ^ X)), .slice A88 m89 c90, .slice A91 m92 c93]) Try.el31 Try.agg31 rfl hVg13.vcells, ⟨_, _, rfl, rfl, rfl⟩⟩, ?_⟩
                exact ⟨_, _, _, _, _, _, rfl, hB, hrn, hrd, by omega⟩
        · exfalso
          omega
  · exfalso
    omega

set_option maxHeartbeats 1000000 in
theorem qPow_n_okerr {w : World} {Ban : Nat} {Aan : Option Addr} {man can : Nat} {xan : List Nat} (han : Rd Ban w 1 Aan man can (us xan)) {Bad : Nat} {Aad : Option Addr} {mad cad : Nat} {xad : List Nat} (had : Rd Bad w 1 Aad mad cad (us xad)) {na : Bool} (hLan : Lim xan) (hLad : Lim xad) (qa : Rat) (hqa : val na (nv xan) (nv xad) = qa) (hsa : man ≤ 4194304 ∧ mad ≤ 4194304) {X : Int} (hX : -9223372036854775808 ≤ X ∧ X ≤ 9223372036854775807) (hsm : man ≤ 1000 ∧ mad ≤ 1000) (hsg : X < 0) (hq0 : qa ≠ 0) (h1 : (qa.den) ^ X.natAbs < bigN) (h2 : ¬ (qnum qa) ^ X.natAbs < bigN) :
    Calls Try.prog 40 #[.agg #[.bool na, .slice Aan man can, .slice Aad mad cad], .int .i64 X] w fun e w2 => ∃ v, e = .returned v ∧ (fun v w2 => v = .tuple #[.agg #[.bool false, .slice none 0 0, .slice none 0 0], .int .i64 8] ∧ w.grownBy w2 none) v w2 := by
  have han := han.norm
  have han_l := han.ulen
  have han_x := han.max
  simp only [maxLen] at han_x
  have han_c := han.cap
  have had := had.norm
  have had_l := had.ulen
  have had_x := had.max
  simp only [maxLen] at had_x
  have had_c := had.cap
  have han0 := han
  have had0 := had
  obtain ⟨zp1, zp2, zp3⟩ := zp_neg (q := qa) hq0 hsg
  have hcl := cntZ_lt hX
  obtain ⟨pu1, pu2⟩ := powcap (x := qa.den) (cntZ_cap X)
  obtain ⟨pv1, pv2⟩ := powcap (x := qnum qa) (cntZ_cap X)
  have ht2 := tm2 X
  have k1 := pu1.2 h1
  have e1 := pu2 h1
  have k2 := mt pv1.1 h2
  have hB := ext_refl w
  refine calls_of_Wc (vs := [.agg #[.bool na, .slice Aan man can, .slice Aad mad cad], .int .i64 X]) [.cell 4 31, .tmp 5] Try.func40 rfl rfl rfl rfl ?_
  refine W.seq ?_
  refine W.region ?_
  refine WL.box Try.el31 rfl rfl rfl ?_
  intro g11 w12 hg_g11 hVg11 hGw12
  change Own _ _ _ _ _ _ _ [.bool na, .slice Aan man can, .slice Aad mad cad] at hVg11
  have hVg11 := hVg11.low (b' := w.heap.size) hB.size
  have hB := ext_trans hB hGw12
  have han := han0.ext hB
  have had := had0.ext hB
  refine WL.alloc Try.el31 rfl ?_
  intro g13 w14 hg_g13 hVg13 hGw14
  change Own _ _ _ _ _ _ _ [.bool false, .slice none 0 0, .slice none 0 0] at hVg13
  have hlt_g11_g13 : g11 < g13 := by rw [hg_g13]; exact (hVg11.bl_ge _ rfl).2
  have hVg13 := hVg13.low (b' := w.heap.size) hB.size
  have hB := ext_trans hB hGw14
  have han := han0.ext hB
  have had := had0.ext hB
  have hVg11 := hVg11.ext hGw14
  refine WL.assign rfl rfl ?_
  refine WL.done ?_
  refine W.seq ?_
  refine W.region ?_
  refine WL.loadV (cs := [.bool na, .slice Aan man can, .slice Aad mad cad]) Try.el31 Try.agg31 rfl rfl hVg11.vcells rfl ?_
  refine WL.call Try.func19 rfl Try.nm19 rfl rfl (qTrim_c han had hLan hLad qa hqa (by omega)) ?_
  rintro _ w15 ⟨A16, m17, c18, A19, m20, c21, rfl, hGw15, htn, htd, htm⟩
  have hap_htn_g11 := ap_new htn (hVg11.bl_ge _ rfl).2
  have hap_htd_g11 := ap_new htd (hVg11.bl_ge _ rfl).2
  have htn := htn.low (b' := w.heap.size) hB.size
  have htd := htd.low (b' := w.heap.size) hB.size
  have hB := ext_trans hB hGw15
  have hVg11 := hVg11.ext hGw15
  have hVg13 := hVg13.ext hGw15
  have htn_l := htn.rd.ulen
  have htd_l := htd.rd.ulen
  refine WL.storeV Try.el31 rfl rfl rfl rfl hVg11 ?_
  have hOld23 := hVg11
  intro w22 hVg11 hGw22
  change Own _ _ _ _ _ _ _ [.bool (qneg (qa)), .slice A16 m17 c18, .slice A19 m20 c21] at hVg11
  have hB := ext_own hB hGw22 (fun g hg => (hOld23.bl_ge g hg).1)
  have hVg13 := hVg13.grown hGw22 (apart (by omega))
  have htn := htn.grown hGw22 (ap_row (by first | exact hap_htn_g11 | exact ap_type htn hOld23 (by decide)))
  have htd := htd.grown hGw22 (ap_row (by first | exact hap_htd_g11 | exact ap_type htd hOld23 (by decide)))
  refine WL.done ?_
  refine W.seq ?_
  refine W.seq ?_
  refine W.region ?_
  refine WL.move rfl rfl ?_
  refine WL.lss rfl rfl rfl (fun c24 => ?_) (fun c24 => ?_)
  · refine WL.done ?_
    refine W.condT rfl ?_
    refine W.seq ?_
    refine W.seq ?_
    refine W.region ?_
    refine WL.loadV (cs := [.bool (qneg (qa)), .slice A16 m17 c18, .slice A19 m20 c21]) Try.el31 Try.agg31 rfl rfl hVg11.vcells rfl ?_
    refine WL.call Try.func50 rfl Try.nm50 rfl rfl (isZero_c htn.rd htd.rd (digs_lim _) (digs_lim _) qa (val_canon _) (by omega)) ?_
    rintro _ w25 ⟨bz0, rfl, hGw25, z0_t, z0_f⟩
    have hB := ext_trans hB hGw25
    have hVg13 := hVg13.ext hGw25
    have htn := htn.ext hGw25
    have htd := htd.ext hGw25
    have hVg11 := hVg11.ext hGw25
    rcases bz0 with _ | _
    · have z0 := z0_f rfl
      refine WL.done ?_
      refine W.condF rfl ?_
      refine W.skip ?_
      refine W.region ?_
      refine WL.fieldA (off := 2) Try.fla31_2 rfl rfl ?_
      refine WL.load Try.underlying23 rfl rfl (hVg11.vcells 2 _ rfl) rfl ?_
      refine WL.fieldA (off := 1) Try.fla31_1 rfl rfl ?_
      refine WL.load Try.underlying23 rfl rfl (hVg11.vcells 1 _ rfl) rfl ?_
      refine WL.fieldA (off := 1) Try.fla31_1 rfl rfl ?_
      refine WL.storeF Try.el23 rfl rfl rfl rfl hVg11 ?_
      have hOld27 := hVg11
      intro w26 hVg11 hGw26
      change Own _ _ _ _ _ _ _ [.bool (qneg (qa)), .slice A19 m20 c21, .slice A19 m20 c21] at hVg11
      have hB := ext_own hB hGw26 (fun g hg => (hOld27.bl_ge g hg).1)
      have hVg13 := hVg13.grown hGw26 (apart (by omega))
      have htn := htn.grown hGw26 (ap_row (by first | exact hap_htn_g11 | exact ap_type htn hOld27 (by decide)))
      have htd := htd.grown hGw26 (ap_row (by first | exact hap_htd_g11 | exact ap_type htd hOld27 (by decide)))
      refine WL.fieldA (off := 2) Try.fla31_2 rfl rfl ?_
      refine WL.storeF Try.el23 rfl rfl rfl rfl hVg11 ?_
      have hOld29 := hVg11
      intro w28 hVg11 hGw28
      change Own _ _ _ _ _ _ _ [.bool (qneg (qa)), .slice A19 m20 c21, .slice A16 m17 c18] at hVg11
      have hB := ext_own hB hGw28 (fun g hg => (hOld29.bl_ge g hg).1)
      have hVg13 := hVg13.grown hGw28 (apart (by omega))
      have htn := htn.grown hGw28 (ap_row (by first | exact hap_htn_g11 | exact ap_type htn hOld29 (by decide)))
      have htd := htd.grown hGw28 (ap_row (by first | exact hap_htd_g11 | exact ap_type htd hOld29 (by decide)))
      refine WL.done ?_
      refine W.seq ?_
      refine W.drawT 9 [⟨[], [2], true⟩, ⟨[0], [], false⟩, ⟨[], [1], true⟩, ⟨[2], [], false⟩, ⟨[1, 3], [], false⟩, ⟨[4], [], true⟩, ⟨[5], [], true⟩, ⟨[5], [], true⟩, ⟨[6], [], true⟩] [[(2, .pointer (some ⟨g11, 0, none⟩))], [], [(1, .int .i64 X)], [], [], [], [], [], []] (fun iQ => [fun v wQ => v = .pointer (some ((⟨g11, 0, none⟩ : Addr).add 1)), fun v wQ => v = .slice A19 m20 c21, fun v wQ => v = .int .i64 X, fun v wQ => v = .int .i64 ((cntZ X : Nat) : Int), fun v wQ => ∃ A37 m38 cp39, v = .tuple #[.slice A37 m38 cp39, .int .i64 (0 : Int)] ∧ (Own w.heap.size wQ 43 1 A37 m38 cp39 (us (digs (qa.den ^ (cntZ X))))) ∧ (m38 ≤ 4096) ∧ (∀ k, bl A37 = some k → k ≠ g11) ∧ (∀ k, bl A37 = some k → k ≠ g13), fun v wQ => ∃ A37_5 m38_5 cp39_5, v = .tuple #[.slice A37_5 m38_5 cp39_5, .int .i64 (0 : Int)] ∧ (Own w.heap.size wQ 43 1 A37_5 m38_5 cp39_5 (us (digs (qa.den ^ (cntZ X))))) ∧ (m38_5 ≤ 4096) ∧ (∀ k, bl A37_5 = some k → k ≠ g11) ∧ (∀ k, bl A37_5 = some k → k ≠ g13), fun v wQ => ∃ A37_5_6 m38_5_6 cp39_5_6, v = .slice A37_5_6 m38_5_6 cp39_5_6 ∧ (Own w.heap.size wQ 43 1 A37_5_6 m38_5_6 cp39_5_6 (us (digs (qa.den ^ (cntZ X))))) ∧ (m38_5_6 ≤ 4096) ∧ (∀ k, bl A37_5_6 = some k → k ≠ g11) ∧ (∀ k, bl A37_5_6 = some k → k ≠ g13), fun v wQ => v = .int .i64 (0 : Int), fun v wQ => ∃ A37_5_6_8 m38_5_6_8 cp39_5_6_8, v = .slice A37_5_6_8 m38_5_6_8 cp39_5_6_8 ∧ (Own w.heap.size wQ 43 1 A37_5_6_8 m38_5_6_8 cp39_5_6_8 (us (digs (qa.den ^ (cntZ X))))) ∧ (m38_5_6_8 ≤ 4096) ∧ (∀ k, bl A37_5_6_8 = some k → k ≠ g11) ∧ (∀ k, bl A37_5_6_8 = some k → k ≠ g13)].getD iQ (fun _ _ => True)) Try.mixed (by kernel_rfl) ?_ ?_ ?_
      · refine Vs_monoT _ ?_
        intro VQ hVQ vQ wQ1 wQ2 hQ1 hQ2
        simp only [List.mem_cons, List.not_mem_nil, or_false] at hVQ
        rcases hVQ with rfl | rfl | rfl | rfl | rfl | rfl | rfl | rfl | rfl
        · exact hQ1
        · exact hQ1
        · exact hQ1
        · exact hQ1
        · obtain ⟨A37, m38, cp39, hQe, hu, hum, hap_hu_g11, hap_hu_g13⟩ := hQ1
          exact ⟨A37, m38, cp39, hQe, hu.ext hQ2, hum, hap_hu_g11, hap_hu_g13⟩
        · obtain ⟨A37_5, m38_5, cp39_5, hQe, hu_5, hum_5, hap_hu_g11_5, hap_hu_g13_5⟩ := hQ1
          exact ⟨A37_5, m38_5, cp39_5, hQe, hu_5.ext hQ2, hum_5, hap_hu_g11_5, hap_hu_g13_5⟩
        · obtain ⟨A37_5_6, m38_5_6, cp39_5_6, hQe, hu_5_6, hum_5_6, hap_hu_g11_5_6, hap_hu_g13_5_6⟩ := hQ1
          exact ⟨A37_5_6, m38_5_6, cp39_5_6, hQe, hu_5_6.ext hQ2, hum_5_6, hap_hu_g11_5_6, hap_hu_g13_5_6⟩
        · exact hQ1
        · obtain ⟨A37_5_6_8, m38_5_6_8, cp39_5_6_8, hQe, hu_5_6_8, hum_5_6_8, hap_hu_g11_5_6_8, hap_hu_g13_5_6_8⟩ := hQ1
          exact ⟨A37_5_6_8, m38_5_6_8, cp39_5_6_8, hQe, hu_5_6_8.ext hQ2, hum_5_6_8, hap_hu_g11_5_6_8, hap_hu_g13_5_6_8⟩
      · refine ⟨⟨rfl, ⟨rfl, trivial⟩, ?_⟩, ⟨rfl, trivial, ?_⟩, ⟨rfl, ⟨rfl, trivial⟩, ?_⟩, ⟨rfl, trivial, ?_⟩, ⟨rfl, trivial, ?_⟩, ⟨rfl, trivial, ?_⟩, ⟨rfl, trivial, ?_⟩, ⟨rfl, trivial, ?_⟩, ⟨rfl, trivial, ?_⟩, trivial⟩
        · intro w30 hE
          intro R
          refine WL.fieldA (off := 1) Try.fla31_1 rfl rfl ?_
          exact WL.done ⟨_, rfl, rfl, rfl⟩
        · intro w31 hE
          have hE := hE rfl
          have hB := ext_trans hB hE
          have hVg11 := hVg11.ext hE
          rintro _ rfl
          intro R
          refine WL.load Try.underlying23 rfl rfl (hVg11.vcells 1 _ rfl) rfl ?_
          exact WL.done ⟨_, rfl, ext_refl _, rfl⟩
        · intro w32 hE
          intro R
          refine WL.move rfl rfl ?_
          exact WL.done ⟨_, rfl, rfl, rfl⟩
        · intro w33 hE
          have hE := hE rfl
          have hB := ext_trans hB hE
          rintro _ rfl
          intro R
          refine WL.call Try.func74 rfl Try.nm74 rfl rfl (count_c (by omega)) ?_
          rintro _ w34 ⟨rfl, hGw34⟩
          have hB := ext_trans hB hGw34
          exact WL.done ⟨_, rfl, hGw34, rfl⟩
        · intro w35 hE
          have hE := hE rfl
          have hB := ext_trans hB hE
          have hVg13 := hVg13.ext hE
          have htd := htd.ext hE
          have hVg11 := hVg11.ext hE
          rintro _ rfl
          rintro _ rfl
          intro R
          refine WL.call Try.func73 rfl Try.nm73 rfl rfl (PowD_ok htd.rd (digs_lim _) qa.den (nv_digs _) (cntZ X) (by omega) (by omega) (by omega) k1) ?_
          rintro _ w36 ⟨A37, m38, cp39, rfl, hGw36, hu, hum⟩
          have hap_hu_g11 := ap_new hu (hVg11.bl_ge _ rfl).2
          have hap_hu_g13 := ap_new hu (hVg13.bl_ge _ rfl).2
          have hu := hu.low (b' := w.heap.size) hB.size
          have hB := ext_trans hB hGw36
          have hu_l := hu.rd.ulen
          exact WL.done ⟨_, rfl, hGw36, ⟨A37, m38, cp39, rfl, hu, hum, hap_hu_g11, hap_hu_g13⟩⟩
        · intro w40 hE
          rintro _ ⟨A37, m38, cp39, rfl, hu, hum, hap_hu_g11, hap_hu_g13⟩
          intro R
          refine WL.move rfl rfl ?_
          exact WL.done ⟨_, rfl, rfl, ⟨A37, m38, cp39, rfl, hu, hum, hap_hu_g11, hap_hu_g13⟩⟩
        · intro w41 hE
          rintro _ ⟨A37_5, m38_5, cp39_5, rfl, hu_5, hum_5, hap_hu_g11_5, hap_hu_g13_5⟩
          intro R
          refine WL.extract rfl rfl rfl ?_
          exact WL.done ⟨_, rfl, rfl, ⟨A37_5, m38_5, cp39_5, rfl, hu_5, hum_5, hap_hu_g11_5, hap_hu_g13_5⟩⟩
        · intro w42 hE
          rintro _ ⟨A37_5, m38_5, cp39_5, rfl, hu_5, hum_5, hap_hu_g11_5, hap_hu_g13_5⟩
          intro R
          refine WL.extract rfl rfl rfl ?_
          exact WL.done ⟨_, rfl, rfl, rfl⟩
        · intro w43 hE
          rintro _ ⟨A37_5_6, m38_5_6, cp39_5_6, rfl, hu_5_6, hum_5_6, hap_hu_g11_5_6, hap_hu_g13_5_6⟩
          intro R
          refine WL.assign rfl rfl ?_
          exact WL.done ⟨_, rfl, rfl, ⟨A37_5_6, m38_5_6, cp39_5_6, rfl, hu_5_6, hum_5_6, hap_hu_g11_5_6, hap_hu_g13_5_6⟩⟩
      · intro vals w44 hT hVs
        have hB := ext_trans hB hT
        have hVg13 := hVg13.ext hT
        have htn := htn.ext hT
        have hVg11 := hVg11.ext hT
        have hv0 : vals 0 = _ := hVs 0 (by decide)
        have hv1 : vals 1 = _ := hVs 1 (by decide)
        have hv2 : vals 2 = _ := hVs 2 (by decide)
        have hv3 : vals 3 = _ := hVs 3 (by decide)
        obtain ⟨A37, m38, cp39, hv4, hu, hum, hap_hu_g11, hap_hu_g13⟩ := hVs 4 (by decide)
        obtain ⟨A37_5, m38_5, cp39_5, hv5, hu_5, hum_5, hap_hu_g11_5, hap_hu_g13_5⟩ := hVs 5 (by decide)
        obtain ⟨A37_5_6, m38_5_6, cp39_5_6, hv6, hu_5_6, hum_5_6, hap_hu_g11_5_6, hap_hu_g13_5_6⟩ := hVs 6 (by decide)
        have hv7 : vals 7 = _ := hVs 7 (by decide)
        obtain ⟨A37_5_6_8, m38_5_6_8, cp39_5_6_8, hv8, hu_5_6_8, hum_5_6_8, hap_hu_g11_5_6_8, hap_hu_g13_5_6_8⟩ := hVs 8 (by decide)
        rw [show (List.filterMap (fun i => Option.map (fun t => (t, vals i)) (dstAt _ i)) (List.range _)) = [(23, .pointer (some ((⟨g11, 0, none⟩ : Addr).add 1))), (24, .slice A19 m20 c21), (25, .int .i64 X), (26, .int .i64 ((cntZ X : Nat) : Int)), (27, .tuple #[.slice A37 m38 cp39, .int .i64 (0 : Int)]), (22, .tuple #[.slice A37_5 m38_5 cp39_5, .int .i64 (0 : Int)]), (28, .slice A37_5_6 m38_5_6 cp39_5_6), (29, .int .i64 (0 : Int)), (6, .slice A37_5_6_8 m38_5_6_8 cp39_5_6_8)] from by
          show [(23, vals 0), (24, vals 1), (25, vals 2), (26, vals 3), (27, vals 4), (22, vals 5), (28, vals 6), (29, vals 7), (6, vals 8)] = _
          rw [hv0, hv1, hv2, hv3, hv4, hv5, hv6, hv7, hv8]]
        refine WA.step [9] (by decide +kernel) rfl ?_
        intro iQ hQ
        simp only [List.mem_cons, List.not_mem_nil, or_false] at hQ
        obtain rfl := hQ
        · refine ⟨_, rfl, ?_⟩
          refine WL.assign rfl rfl ?_
          refine WL.done ?_
          refine WA.done (by decide +kernel) ?_
          refine W.seq ?_
          refine W.seq ?_
          refine W.region ?_
          refine WL.move rfl rfl ?_
          refine WL.neq rfl rfl rfl (fun c45 => ?_) (fun c45 => ?_)
          · exfalso
            omega
          · refine WL.done ?_
            refine W.condF rfl ?_
            refine W.skip ?_
            refine W.seq ?_
            refine W.drawT 9 [⟨[], [2], true⟩, ⟨[0], [], false⟩, ⟨[], [1], true⟩, ⟨[2], [], false⟩, ⟨[1, 3], [], false⟩, ⟨[4], [], true⟩, ⟨[5], [], true⟩, ⟨[5], [], true⟩, ⟨[6], [], true⟩] [[(2, .pointer (some ⟨g11, 0, none⟩))], [], [(1, .int .i64 X)], [], [], [], [], [], []] (fun iQ => [fun v wQ => v = .pointer (some ((⟨g11, 0, none⟩ : Addr).add 2)), fun v wQ => v = .slice A16 m17 c18, fun v wQ => v = .int .i64 X, fun v wQ => v = .int .i64 ((cntZ X : Nat) : Int), fun v wQ => v = .tuple #[.slice none 0 0, .int .i64 (8 : Int)], fun v wQ => v = .tuple #[.slice none 0 0, .int .i64 (8 : Int)], fun v wQ => v = .slice none 0 0, fun v wQ => v = .int .i64 (8 : Int), fun v wQ => v = .slice none 0 0].getD iQ (fun _ _ => True)) Try.mixed (by kernel_rfl) ?_ ?_ ?_
            · refine Vs_monoT _ ?_
              intro VQ hVQ vQ wQ1 wQ2 hQ1 hQ2
              simp only [List.mem_cons, List.not_mem_nil, or_false] at hVQ
              rcases hVQ with rfl | rfl | rfl | rfl | rfl | rfl | rfl | rfl | rfl
              · exact hQ1
              · exact hQ1
              · exact hQ1
              · exact hQ1
              · exact hQ1
              · exact hQ1
              · exact hQ1
              · exact hQ1
              · exact hQ1
            · refine ⟨⟨rfl, ⟨rfl, trivial⟩, ?_⟩, ⟨rfl, trivial, ?_⟩, ⟨rfl, ⟨rfl, trivial⟩, ?_⟩, ⟨rfl, trivial, ?_⟩, ⟨rfl, trivial, ?_⟩, ⟨rfl, trivial, ?_⟩, ⟨rfl, trivial, ?_⟩, ⟨rfl, trivial, ?_⟩, ⟨rfl, trivial, ?_⟩, trivial⟩
              · intro w46 hE
                intro R
                refine WL.fieldA (off := 2) Try.fla31_2 rfl rfl ?_
                exact WL.done ⟨_, rfl, rfl, rfl⟩
              · intro w47 hE
                have hE := hE rfl
                have hB := ext_trans hB hE
                have hVg11 := hVg11.ext hE
                rintro _ rfl
                intro R
                refine WL.load Try.underlying23 rfl rfl (hVg11.vcells 2 _ rfl) rfl ?_
                exact WL.done ⟨_, rfl, ext_refl _, rfl⟩
              · intro w48 hE
                intro R
                refine WL.move rfl rfl ?_
                exact WL.done ⟨_, rfl, rfl, rfl⟩
              · intro w49 hE
                have hE := hE rfl
                have hB := ext_trans hB hE
                rintro _ rfl
                intro R
                refine WL.call Try.func74 rfl Try.nm74 rfl rfl (count_c (by omega)) ?_
                rintro _ w50 ⟨rfl, hGw50⟩
                have hB := ext_trans hB hGw50
                exact WL.done ⟨_, rfl, hGw50, rfl⟩
              · intro w51 hE
                have hE := hE rfl
                have hB := ext_trans hB hE
                have htn := htn.ext hE
                rintro _ rfl
                rintro _ rfl
                intro R
                refine WL.call Try.func73 rfl Try.nm73 rfl rfl (PowD_err htn.rd (digs_lim _) (qnum qa) (nv_digs _) (cntZ X) (by omega) (by omega) (by omega) k2) ?_
                rintro _ w52 ⟨rfl, hGw52⟩
                have hB := ext_trans hB hGw52
                exact WL.done ⟨_, rfl, hGw52, rfl⟩
              · intro w53 hE
                rintro _ rfl
                intro R
                refine WL.move rfl rfl ?_
                exact WL.done ⟨_, rfl, rfl, rfl⟩
              · intro w54 hE
                rintro _ rfl
                intro R
                refine WL.extract rfl rfl rfl ?_
                exact WL.done ⟨_, rfl, rfl, rfl⟩
              · intro w55 hE
                rintro _ rfl
                intro R
                refine WL.extract rfl rfl rfl ?_
                exact WL.done ⟨_, rfl, rfl, rfl⟩
              · intro w56 hE
                rintro _ rfl
                intro R
                refine WL.assign rfl rfl ?_
                exact WL.done ⟨_, rfl, rfl, rfl⟩
            · intro vals w57 hT hVs
              have hB := ext_trans hB hT
              have hVg13 := hVg13.ext hT
              have hv0 : vals 0 = _ := hVs 0 (by decide)
              have hv1 : vals 1 = _ := hVs 1 (by decide)
              have hv2 : vals 2 = _ := hVs 2 (by decide)
              have hv3 : vals 3 = _ := hVs 3 (by decide)
              have hv4 : vals 4 = _ := hVs 4 (by decide)
              have hv5 : vals 5 = _ := hVs 5 (by decide)
              have hv6 : vals 6 = _ := hVs 6 (by decide)
              have hv7 : vals 7 = _ := hVs 7 (by decide)
              have hv8 : vals 8 = _ := hVs 8 (by decide)
              rw [show (List.filterMap (fun i => Option.map (fun t => (t, vals i)) (dstAt _ i)) (List.range _)) = [(35, .pointer (some ((⟨g11, 0, none⟩ : Addr).add 2))), (36, .slice A16 m17 c18), (37, .int .i64 X), (38, .int .i64 ((cntZ X : Nat) : Int)), (39, .tuple #[.slice none 0 0, .int .i64 (8 : Int)]), (34, .tuple #[.slice none 0 0, .int .i64 (8 : Int)]), (40, .slice none 0 0), (41, .int .i64 (8 : Int)), (8, .slice none 0 0)] from by
                show [(35, vals 0), (36, vals 1), (37, vals 2), (38, vals 3), (39, vals 4), (34, vals 5), (40, vals 6), (41, vals 7), (8, vals 8)] = _
                rw [hv0, hv1, hv2, hv3, hv4, hv5, hv6, hv7, hv8]]
              refine WA.step [9] (by decide +kernel) rfl ?_
              intro iQ hQ
              simp only [List.mem_cons, List.not_mem_nil, or_false] at hQ
              obtain rfl := hQ
              · refine ⟨_, rfl, ?_⟩
                refine WL.assign rfl rfl ?_
                refine WL.done ?_
                refine WA.done (by decide +kernel) ?_
                refine W.seq ?_
                refine W.seq ?_
                refine W.region ?_
                refine WL.move rfl rfl ?_
                refine WL.neq rfl rfl rfl (fun c58 => ?_) (fun c58 => ?_)
                · refine WL.done ?_
                  refine W.condT rfl ?_
                  refine W.seq ?_
                  refine W.region ?_
                  refine WL.build (cells := #[.bool false, .slice none 0 0, .slice none 0 0]) Try.bld31 rfl rfl rfl ?_
                  refine WL.move rfl rfl ?_
                  refine WL.storeV Try.el31 rfl rfl rfl rfl hVg13 ?_
                  have hOld60 := hVg13
                  intro w59 hVg13 hGw59
                  change Own _ _ _ _ _ _ _ [.bool false, .slice none 0 0, .slice none 0 0] at hVg13
                  have hB := ext_own hB hGw59 (fun g hg => (hOld60.bl_ge g hg).1)
                  refine WL.assign rfl rfl ?_
                  refine WL.done ?_
                  refine W.ret ?_
                  refine ⟨[.agg #[.bool false, .slice none 0 0, .slice none 0 0], .int .i64 (8 : Int)], ⟨_, _, _, rfl, rfl, run_loadV (cs := [.bool false, .slice none 0 0, .slice none 0 0]) Try.el31 Try.agg31 rfl hVg13.vcells, ⟨_, _, rfl, rfl, rfl⟩⟩, ?_⟩
                  exact ⟨rfl, hB⟩
                · exfalso
                  omega
    · exfalso
      have z0 := z0_t rfl
      exact hq0 z0
  · exfalso
    omega

set_option maxHeartbeats 1000000 in
theorem rqPow_n_okerr {w : World} {Ban : Nat} {Aan : Option Addr} {man can : Nat} {xan : List Nat} (han : Rd Ban w 1 Aan man can (us xan)) {Bad : Nat} {Aad : Option Addr} {mad cad : Nat} {xad : List Nat} (had : Rd Bad w 1 Aad mad cad (us xad)) {na : Bool} (hLan : Lim xan) (hLad : Lim xad) (qa : Rat) (hqa : val na (nv xan) (nv xad) = qa) (hsa : man ≤ 4194304 ∧ mad ≤ 4194304) {X : Int} (hX : -9223372036854775808 ≤ X ∧ X ≤ 9223372036854775807) (hsm : man ≤ 1000 ∧ mad ≤ 1000) (hsg : X < 0) (hq0 : qa ≠ 0) (h1 : (qa.den) ^ X.natAbs < bigN) (h2 : ¬ (qnum qa) ^ X.natAbs < bigN) :
    Calls Try.prog 41 #[.agg #[.bool na, .slice Aan man can, .slice Aad mad cad], .int .i64 X] w fun e w2 => ∃ v, e = .returned v ∧ (fun v w2 => v = .tuple #[.agg #[.bool false, .slice none 0 0, .slice none 0 0], .int .i64 8] ∧ w.grownBy w2 none) v w2 := by
  have han := han.norm
  have han_l := han.ulen
  have han_x := han.max
  simp only [maxLen] at han_x
  have han_c := han.cap
  have had := had.norm
  have had_l := had.ulen
  have had_x := had.max
  simp only [maxLen] at had_x
  have had_c := had.cap
  have han0 := han
  have had0 := had
  obtain ⟨zp1, zp2, zp3⟩ := zp_neg (q := qa) hq0 hsg
  have hcl := crZ_lt hX
  obtain ⟨pu1, pu2⟩ := powcap (x := qa.den) (crZ_cap X)
  obtain ⟨pv1, pv2⟩ := powcap (x := qnum qa) (crZ_cap X)
  have ht2 := tm2 X
  have k1 := pu1.2 h1
  have e1 := pu2 h1
  have k2 := mt pv1.1 h2
  have hB := ext_refl w
  refine calls_of_Wc (vs := [.agg #[.bool na, .slice Aan man can, .slice Aad mad cad], .int .i64 X]) [.cell 4 31, .tmp 5] Try.func41 rfl rfl rfl rfl ?_
  refine W.seq ?_
  refine W.region ?_
  refine WL.box Try.el31 rfl rfl rfl ?_
  intro g11 w12 hg_g11 hVg11 hGw12
  change Own _ _ _ _ _ _ _ [.bool na, .slice Aan man can, .slice Aad mad cad] at hVg11
  have hVg11 := hVg11.low (b' := w.heap.size) hB.size
  have hB := ext_trans hB hGw12
  have han := han0.ext hB
  have had := had0.ext hB
  refine WL.alloc Try.el31 rfl ?_
  intro g13 w14 hg_g13 hVg13 hGw14
  change Own _ _ _ _ _ _ _ [.bool false, .slice none 0 0, .slice none 0 0] at hVg13
  have hlt_g11_g13 : g11 < g13 := by rw [hg_g13]; exact (hVg11.bl_ge _ rfl).2
  have hVg13 := hVg13.low (b' := w.heap.size) hB.size
  have hB := ext_trans hB hGw14
  have han := han0.ext hB
  have had := had0.ext hB
  have hVg11 := hVg11.ext hGw14
  refine WL.assign rfl rfl ?_
  refine WL.done ?_
  refine W.seq ?_
  refine W.region ?_
  refine WL.loadV (cs := [.bool na, .slice Aan man can, .slice Aad mad cad]) Try.el31 Try.agg31 rfl rfl hVg11.vcells rfl ?_
  refine WL.call Try.func20 rfl Try.nm20 rfl rfl (rqTrim_c han had hLan hLad qa hqa (by omega)) ?_
  rintro _ w15 ⟨A16, m17, c18, A19, m20, c21, rfl, hGw15, htn, htd, htm⟩
  have hap_htn_g11 := ap_new htn (hVg11.bl_ge _ rfl).2
  have hap_htd_g11 := ap_new htd (hVg11.bl_ge _ rfl).2
  have htn := htn.low (b' := w.heap.size) hB.size
  have htd := htd.low (b' := w.heap.size) hB.size
  have hB := ext_trans hB hGw15
  have hVg11 := hVg11.ext hGw15
  have hVg13 := hVg13.ext hGw15
  have htn_l := htn.rd.ulen
  have htd_l := htd.rd.ulen
  refine WL.storeV Try.el31 rfl rfl rfl rfl hVg11 ?_
  have hOld23 := hVg11
  intro w22 hVg11 hGw22
  change Own _ _ _ _ _ _ _ [.bool (qneg (qa)), .slice A16 m17 c18, .slice A19 m20 c21] at hVg11
  have hB := ext_own hB hGw22 (fun g hg => (hOld23.bl_ge g hg).1)
  have hVg13 := hVg13.grown hGw22 (apart (by omega))
  have htn := htn.grown hGw22 (ap_row (by first | exact hap_htn_g11 | exact ap_type htn hOld23 (by decide)))
  have htd := htd.grown hGw22 (ap_row (by first | exact hap_htd_g11 | exact ap_type htd hOld23 (by decide)))
  refine WL.done ?_
  refine W.seq ?_
  refine W.seq ?_
  refine W.region ?_
  refine WL.move rfl rfl ?_
  refine WL.lss rfl rfl rfl (fun c24 => ?_) (fun c24 => ?_)
  · refine WL.done ?_
    refine W.condT rfl ?_
    refine W.seq ?_
    refine W.seq ?_
    refine W.region ?_
    refine WL.fieldA (off := 1) Try.fla31_1 rfl rfl ?_
    refine WL.load Try.underlying23 rfl rfl (hVg11.vcells 1 _ rfl) rfl ?_
    refine WL.len Try.underlying23 rfl rfl ?_
    refine WL.eql rfl rfl rfl (fun c25 => ?_) (fun c25 => ?_)
    · exfalso
      have h9 := rdigs_len0 (n := qnum qa)
      have h8 := htn.rd.ulen
      exact hq0 (qnum_eq_zero.1 (rdigs_len0.1 (by omega)))
    · refine WL.done ?_
      refine W.condF rfl ?_
      refine W.skip ?_
      refine W.region ?_
      refine WL.loadV (cs := [.bool (qneg (qa)), .slice A16 m17 c18, .slice A19 m20 c21]) Try.el31 Try.agg31 rfl rfl hVg11.vcells rfl ?_
      refine WL.call Try.func75 rfl Try.nm75 rfl rfl (rqInv_c htn.rd htd.rd (digs_lim _) (digs_lim _) qa (val_canon _) (by omega)) ?_
      rintro _ w26 ⟨A27, m28, c29, A30, m31, c32, rfl, hGw26, hin, hid, him⟩
      have hap_hin_g11 := ap_new hin (hVg11.bl_ge _ rfl).2
      have hap_hid_g11 := ap_new hid (hVg11.bl_ge _ rfl).2
      have hin := hin.low (b' := w.heap.size) hB.size
      have hid := hid.low (b' := w.heap.size) hB.size
      have hB := ext_trans hB hGw26
      have hVg13 := hVg13.ext hGw26
      have hVg11 := hVg11.ext hGw26
      have hin_l := hin.rd.ulen
      have hid_l := hid.rd.ulen
      refine WL.storeV Try.el31 rfl rfl rfl rfl hVg11 ?_
      have hOld34 := hVg11
      intro w33 hVg11 hGw33
      change Own _ _ _ _ _ _ _ [.bool (qneg (qa)), .slice A27 m28 c29, .slice A30 m31 c32] at hVg11
      have hB := ext_own hB hGw33 (fun g hg => (hOld34.bl_ge g hg).1)
      have hVg13 := hVg13.grown hGw33 (apart (by omega))
      have hin := hin.grown hGw33 (ap_row (by first | exact hap_hin_g11 | exact ap_type hin hOld34 (by decide)))
      have hid := hid.grown hGw33 (ap_row (by first | exact hap_hid_g11 | exact ap_type hid hOld34 (by decide)))
      refine WL.done ?_
      refine W.seq ?_
      refine W.region ?_
      refine WL.move rfl rfl ?_
      refine WL.rem (r := (X.tmod 2)) rfl rfl (by omega) rfl rfl ?_
      refine WL.neq rfl rfl rfl (fun c35 => ?_) (fun c35 => ?_)
      · refine WL.assign rfl rfl ?_
        refine WL.done ?_
        refine W.seq ?_
        refine W.seq ?_
        refine W.region ?_
        refine WL.move rfl rfl ?_
        refine WL.lss rfl rfl rfl (fun c36 => ?_) (fun c36 => ?_)
        · refine WL.done ?_
          refine W.condT rfl ?_
          refine W.region ?_
          refine WL.move rfl rfl ?_
          refine WL.max2 (r := (max X (-4611686018427387904))) rfl rfl rfl rfl ?_
          refine WL.neg (r := ((crZ X : Nat) : Int)) rfl (wi64 (by omega) (by omega) (by unfold crZ; split <;> omega)) rfl ?_
          refine WL.assign rfl rfl ?_
          refine WL.done ?_
          refine W.seq ?_
          refine W.region ?_
          refine WL.fieldA (off := 1) Try.fla31_1 rfl rfl ?_
          refine WL.load Try.underlying23 rfl rfl (hVg11.vcells 1 _ rfl) rfl ?_
          refine WL.move rfl rfl ?_
          refine WL.call Try.func76 rfl Try.nm76 rfl rfl (rPowD_ok hin.rd (digs_lim _) qa.den (nv_digs _) (crZ X) (by omega) (by omega) (by omega) k1) ?_
          rintro _ w37 ⟨A38, m39, cp40, rfl, hGw37, hu, hum⟩
          have hu := hu.low (b' := w.heap.size) hB.size
          have hB := ext_trans hB hGw37
          have hVg13 := hVg13.ext hGw37
          have hid := hid.ext hGw37
          have hVg11 := hVg11.ext hGw37
          have hu_l := hu.rd.ulen
          refine WL.move rfl rfl ?_
          refine WL.extract rfl rfl rfl ?_
          refine WL.extract rfl rfl rfl ?_
          refine WL.assign rfl rfl ?_
          refine WL.assign rfl rfl ?_
          refine WL.done ?_
          refine W.seq ?_
          refine W.region ?_
          refine WL.fieldA (off := 2) Try.fla31_2 rfl rfl ?_
          refine WL.load Try.underlying23 rfl rfl (hVg11.vcells 2 _ rfl) rfl ?_
          refine WL.move rfl rfl ?_
          refine WL.call Try.func76 rfl Try.nm76 rfl rfl (rPowD_err hid.rd (digs_lim _) (qnum qa) (nv_digs _) (crZ X) (by omega) (by omega) (by omega) k2) ?_
          rintro _ w41 ⟨rfl, hGw41⟩
          have hB := ext_trans hB hGw41
          have hVg13 := hVg13.ext hGw41
          refine WL.move rfl rfl ?_
          refine WL.extract rfl rfl rfl ?_
          refine WL.extract rfl rfl rfl ?_
          refine WL.assign rfl rfl ?_
          refine WL.assign rfl rfl ?_
          refine WL.done ?_
          refine W.seq ?_
          refine W.seq ?_
          refine W.region ?_
          refine WL.move rfl rfl ?_
          refine WL.neq rfl rfl rfl (fun c42 => ?_) (fun c42 => ?_)
          · exfalso
            omega
          · refine WL.move rfl rfl ?_
            refine WL.take rfl ?_
            refine WL.move rfl rfl ?_
            refine WL.take rfl ?_
            refine WL.neq rfl rfl rfl (fun c43 => ?_) (fun c43 => ?_)
            · refine WL.pick rfl rfl rfl ?_
              refine WL.done ?_
              refine W.condT rfl ?_
              refine W.seq ?_
              refine W.region ?_
              refine WL.build (cells := #[.bool false, .slice none 0 0, .slice none 0 0]) Try.bld31 rfl rfl rfl ?_
              refine WL.storeV Try.el31 rfl rfl rfl rfl hVg13 ?_
              have hOld45 := hVg13
              intro w44 hVg13 hGw44
              change Own _ _ _ _ _ _ _ [.bool false, .slice none 0 0, .slice none 0 0] at hVg13
              have hB := ext_own hB hGw44 (fun g hg => (hOld45.bl_ge g hg).1)
              refine WL.assign rfl rfl ?_
              refine WL.done ?_
              refine W.ret ?_
              refine ⟨[.agg #[.bool false, .slice none 0 0, .slice none 0 0], .int .i64 (8 : Int)], ⟨_, _, _, rfl, rfl, run_loadV (cs := [.bool false, .slice none 0 0, .slice none 0 0]) Try.el31 Try.agg31 rfl hVg13.vcells, ⟨_, _, rfl, rfl, rfl⟩⟩, ?_⟩
              exact ⟨rfl, hB⟩
            · exfalso
              omega
        · exfalso
          omega
      · refine WL.assign rfl rfl ?_
        refine WL.done ?_
        refine W.seq ?_
        refine W.seq ?_
        refine W.region ?_
        refine WL.move rfl rfl ?_
        refine WL.lss rfl rfl rfl (fun c46 => ?_) (fun c46 => ?_)
        · refine WL.done ?_
          refine W.condT rfl ?_
          refine W.region ?_
          refine WL.move rfl rfl ?_
          refine WL.max2 (r := (max X (-4611686018427387904))) rfl rfl rfl rfl ?_
          refine WL.neg (r := ((crZ X : Nat) : Int)) rfl (wi64 (by omega) (by omega) (by unfold crZ; split <;> omega)) rfl ?_
          refine WL.assign rfl rfl ?_
          refine WL.done ?_
          refine W.seq ?_
          refine W.region ?_
          refine WL.fieldA (off := 1) Try.fla31_1 rfl rfl ?_
          refine WL.load Try.underlying23 rfl rfl (hVg11.vcells 1 _ rfl) rfl ?_
          refine WL.move rfl rfl ?_
          refine WL.call Try.func76 rfl Try.nm76 rfl rfl (rPowD_ok hin.rd (digs_lim _) qa.den (nv_digs _) (crZ X) (by omega) (by omega) (by omega) k1) ?_
          rintro _ w47 ⟨A48, m49, cp50, rfl, hGw47, hu, hum⟩
          have hu := hu.low (b' := w.heap.size) hB.size
          have hB := ext_trans hB hGw47
          have hVg13 := hVg13.ext hGw47
          have hid := hid.ext hGw47
          have hVg11 := hVg11.ext hGw47
          have hu_l := hu.rd.ulen
          refine WL.move rfl rfl ?_
          refine WL.extract rfl rfl rfl ?_
          refine WL.extract rfl rfl rfl ?_
          refine WL.assign rfl rfl ?_
          refine WL.assign rfl rfl ?_
          refine WL.done ?_
          refine W.seq ?_
          refine W.region ?_
          refine WL.fieldA (off := 2) Try.fla31_2 rfl rfl ?_
          refine WL.load Try.underlying23 rfl rfl (hVg11.vcells 2 _ rfl) rfl ?_
          refine WL.move rfl rfl ?_
          refine WL.call Try.func76 rfl Try.nm76 rfl rfl (rPowD_err hid.rd (digs_lim _) (qnum qa) (nv_digs _) (crZ X) (by omega) (by omega) (by omega) k2) ?_
          rintro _ w51 ⟨rfl, hGw51⟩
          have hB := ext_trans hB hGw51
          have hVg13 := hVg13.ext hGw51
          refine WL.move rfl rfl ?_
          refine WL.extract rfl rfl rfl ?_
          refine WL.extract rfl rfl rfl ?_
          refine WL.assign rfl rfl ?_
          refine WL.assign rfl rfl ?_
          refine WL.done ?_
          refine W.seq ?_
          refine W.seq ?_
          refine W.region ?_
          refine WL.move rfl rfl ?_
          refine WL.neq rfl rfl rfl (fun c52 => ?_) (fun c52 => ?_)
          · exfalso
            omega
          · refine WL.move rfl rfl ?_
            refine WL.take rfl ?_
            refine WL.move rfl rfl ?_
            refine WL.take rfl ?_
            refine WL.neq rfl rfl rfl (fun c53 => ?_) (fun c53 => ?_)
            · refine WL.pick rfl rfl rfl ?_
              refine WL.done ?_
              refine W.condT rfl ?_
              refine W.seq ?_
              refine W.region ?_
              refine WL.build (cells := #[.bool false, .slice none 0 0, .slice none 0 0]) Try.bld31 rfl rfl rfl ?_
              refine WL.storeV Try.el31 rfl rfl rfl rfl hVg13 ?_
              have hOld55 := hVg13
              intro w54 hVg13 hGw54
              change Own _ _ _ _ _ _ _ [.bool false, .slice none 0 0, .slice none 0 0] at hVg13
              have hB := ext_own hB hGw54 (fun g hg => (hOld55.bl_ge g hg).1)
              refine WL.assign rfl rfl ?_
              refine WL.done ?_
              refine W.ret ?_
              refine ⟨[.agg #[.bool false, .slice none 0 0, .slice none 0 0], .int .i64 (8 : Int)], ⟨_, _, _, rfl, rfl, run_loadV (cs := [.bool false, .slice none 0 0, .slice none 0 0]) Try.el31 Try.agg31 rfl hVg13.vcells, ⟨_, _, rfl, rfl, rfl⟩⟩, ?_⟩
              exact ⟨rfl, hB⟩
            · exfalso
              omega
        · exfalso
          omega
  · exfalso
    omega

set_option maxHeartbeats 1000000 in
theorem qPow_n_errok {w : World} {Ban : Nat} {Aan : Option Addr} {man can : Nat} {xan : List Nat} (han : Rd Ban w 1 Aan man can (us xan)) {Bad : Nat} {Aad : Option Addr} {mad cad : Nat} {xad : List Nat} (had : Rd Bad w 1 Aad mad cad (us xad)) {na : Bool} (hLan : Lim xan) (hLad : Lim xad) (qa : Rat) (hqa : val na (nv xan) (nv xad) = qa) (hsa : man ≤ 4194304 ∧ mad ≤ 4194304) {X : Int} (hX : -9223372036854775808 ≤ X ∧ X ≤ 9223372036854775807) (hsm : man ≤ 1000 ∧ mad ≤ 1000) (hsg : X < 0) (hq0 : qa ≠ 0) (h1 : ¬ (qa.den) ^ X.natAbs < bigN) (h2 : (qnum qa) ^ X.natAbs < bigN) :
    Calls Try.prog 40 #[.agg #[.bool na, .slice Aan man can, .slice Aad mad cad], .int .i64 X] w fun e w2 => ∃ v, e = .returned v ∧ (fun v w2 => v = .tuple #[.agg #[.bool false, .slice none 0 0, .slice none 0 0], .int .i64 8] ∧ w.grownBy w2 none) v w2 := by
  have han := han.norm
  have han_l := han.ulen
  have han_x := han.max
  simp only [maxLen] at han_x
  have han_c := han.cap
  have had := had.norm
  have had_l := had.ulen
  have had_x := had.max
  simp only [maxLen] at had_x
  have had_c := had.cap
  have han0 := han
  have had0 := had
  obtain ⟨zp1, zp2, zp3⟩ := zp_neg (q := qa) hq0 hsg
  have hcl := cntZ_lt hX
  obtain ⟨pu1, pu2⟩ := powcap (x := qa.den) (cntZ_cap X)
  obtain ⟨pv1, pv2⟩ := powcap (x := qnum qa) (cntZ_cap X)
  have ht2 := tm2 X
  have k1 := mt pu1.1 h1
  have k2 := pv1.2 h2
  have e2 := pv2 h2
  have hB := ext_refl w
  refine calls_of_Wc (vs := [.agg #[.bool na, .slice Aan man can, .slice Aad mad cad], .int .i64 X]) [.cell 4 31, .tmp 5] Try.func40 rfl rfl rfl rfl ?_
  refine W.seq ?_
  refine W.region ?_
  refine WL.box Try.el31 rfl rfl rfl ?_
  intro g11 w12 hg_g11 hVg11 hGw12
  change Own _ _ _ _ _ _ _ [.bool na, .slice Aan man can, .slice Aad mad cad] at hVg11
  have hVg11 := hVg11.low (b' := w.heap.size) hB.size
  have hB := ext_trans hB hGw12
  have han := han0.ext hB
  have had := had0.ext hB
  refine WL.alloc Try.el31 rfl ?_
  intro g13 w14 hg_g13 hVg13 hGw14
  change Own _ _ _ _ _ _ _ [.bool false, .slice none 0 0, .slice none 0 0] at hVg13
  have hlt_g11_g13 : g11 < g13 := by rw [hg_g13]; exact (hVg11.bl_ge _ rfl).2
  have hVg13 := hVg13.low (b' := w.heap.size) hB.size
  have hB := ext_trans hB hGw14
  have han := han0.ext hB
  have had := had0.ext hB
  have hVg11 := hVg11.ext hGw14
  refine WL.assign rfl rfl ?_
  refine WL.done ?_
  refine W.seq ?_
  refine W.region ?_
  refine WL.loadV (cs := [.bool na, .slice Aan man can, .slice Aad mad cad]) Try.el31 Try.agg31 rfl rfl hVg11.vcells rfl ?_
  refine WL.call Try.func19 rfl Try.nm19 rfl rfl (qTrim_c han had hLan hLad qa hqa (by omega)) ?_
  rintro _ w15 ⟨A16, m17, c18, A19, m20, c21, rfl, hGw15, htn, htd, htm⟩
  have hap_htn_g11 := ap_new htn (hVg11.bl_ge _ rfl).2
  have hap_htd_g11 := ap_new htd (hVg11.bl_ge _ rfl).2
  have htn := htn.low (b' := w.heap.size) hB.size
  have htd := htd.low (b' := w.heap.size) hB.size
  have hB := ext_trans hB hGw15
  have hVg11 := hVg11.ext hGw15
  have hVg13 := hVg13.ext hGw15
  have htn_l := htn.rd.ulen
  have htd_l := htd.rd.ulen
  refine WL.storeV Try.el31 rfl rfl rfl rfl hVg11 ?_
  have hOld23 := hVg11
  intro w22 hVg11 hGw22
  change Own _ _ _ _ _ _ _ [.bool (qneg (qa)), .slice A16 m17 c18, .slice A19 m20 c21] at hVg11
  have hB := ext_own hB hGw22 (fun g hg => (hOld23.bl_ge g hg).1)
  have hVg13 := hVg13.grown hGw22 (apart (by omega))
  have htn := htn.grown hGw22 (ap_row (by first | exact hap_htn_g11 | exact ap_type htn hOld23 (by decide)))
  have htd := htd.grown hGw22 (ap_row (by first | exact hap_htd_g11 | exact ap_type htd hOld23 (by decide)))
  refine WL.done ?_
  refine W.seq ?_
  refine W.seq ?_
  refine W.region ?_
  refine WL.move rfl rfl ?_
  refine WL.lss rfl rfl rfl (fun c24 => ?_) (fun c24 => ?_)
  · refine WL.done ?_
    refine W.condT rfl ?_
    refine W.seq ?_
    refine W.seq ?_
    refine W.region ?_
    refine WL.loadV (cs := [.bool (qneg (qa)), .slice A16 m17 c18, .slice A19 m20 c21]) Try.el31 Try.agg31 rfl rfl hVg11.vcells rfl ?_
    refine WL.call Try.func50 rfl Try.nm50 rfl rfl (isZero_c htn.rd htd.rd (digs_lim _) (digs_lim _) qa (val_canon _) (by omega)) ?_
    rintro _ w25 ⟨bz0, rfl, hGw25, z0_t, z0_f⟩
    have hB := ext_trans hB hGw25
    have hVg13 := hVg13.ext hGw25
    have htd := htd.ext hGw25
    have hVg11 := hVg11.ext hGw25
    rcases bz0 with _ | _
    · have z0 := z0_f rfl
      refine WL.done ?_
      refine W.condF rfl ?_
      refine W.skip ?_
      refine W.region ?_
      refine WL.fieldA (off := 2) Try.fla31_2 rfl rfl ?_
      refine WL.load Try.underlying23 rfl rfl (hVg11.vcells 2 _ rfl) rfl ?_
      refine WL.fieldA (off := 1) Try.fla31_1 rfl rfl ?_
      refine WL.load Try.underlying23 rfl rfl (hVg11.vcells 1 _ rfl) rfl ?_
      refine WL.fieldA (off := 1) Try.fla31_1 rfl rfl ?_
      refine WL.storeF Try.el23 rfl rfl rfl rfl hVg11 ?_
      have hOld27 := hVg11
      intro w26 hVg11 hGw26
      change Own _ _ _ _ _ _ _ [.bool (qneg (qa)), .slice A19 m20 c21, .slice A19 m20 c21] at hVg11
      have hB := ext_own hB hGw26 (fun g hg => (hOld27.bl_ge g hg).1)
      have hVg13 := hVg13.grown hGw26 (apart (by omega))
      have htd := htd.grown hGw26 (ap_row (by first | exact hap_htd_g11 | exact ap_type htd hOld27 (by decide)))
      refine WL.fieldA (off := 2) Try.fla31_2 rfl rfl ?_
      refine WL.storeF Try.el23 rfl rfl rfl rfl hVg11 ?_
      have hOld29 := hVg11
      intro w28 hVg11 hGw28
      change Own _ _ _ _ _ _ _ [.bool (qneg (qa)), .slice A19 m20 c21, .slice A16 m17 c18] at hVg11
      have hB := ext_own hB hGw28 (fun g hg => (hOld29.bl_ge g hg).1)
      have hVg13 := hVg13.grown hGw28 (apart (by omega))
      have htd := htd.grown hGw28 (ap_row (by first | exact hap_htd_g11 | exact ap_type htd hOld29 (by decide)))
      refine WL.done ?_
      refine W.seq ?_
      refine W.drawT 9 [⟨[], [2], true⟩, ⟨[0], [], false⟩, ⟨[], [1], true⟩, ⟨[2], [], false⟩, ⟨[1, 3], [], false⟩, ⟨[4], [], true⟩, ⟨[5], [], true⟩, ⟨[5], [], true⟩, ⟨[6], [], true⟩] [[(2, .pointer (some ⟨g11, 0, none⟩))], [], [(1, .int .i64 X)], [], [], [], [], [], []] (fun iQ => [fun v wQ => v = .pointer (some ((⟨g11, 0, none⟩ : Addr).add 1)), fun v wQ => v = .slice A19 m20 c21, fun v wQ => v = .int .i64 X, fun v wQ => v = .int .i64 ((cntZ X : Nat) : Int), fun v wQ => v = .tuple #[.slice none 0 0, .int .i64 (8 : Int)], fun v wQ => v = .tuple #[.slice none 0 0, .int .i64 (8 : Int)], fun v wQ => v = .slice none 0 0, fun v wQ => v = .int .i64 (8 : Int), fun v wQ => v = .slice none 0 0].getD iQ (fun _ _ => True)) Try.mixed (by kernel_rfl) ?_ ?_ ?_
      · refine Vs_monoT _ ?_
        intro VQ hVQ vQ wQ1 wQ2 hQ1 hQ2
        simp only [List.mem_cons, List.not_mem_nil, or_false] at hVQ
        rcases hVQ with rfl | rfl | rfl | rfl | rfl | rfl | rfl | rfl | rfl
        · exact hQ1
        · exact hQ1
        · exact hQ1
        · exact hQ1
        · exact hQ1
        · exact hQ1
        · exact hQ1
        · exact hQ1
        · exact hQ1
      · refine ⟨⟨rfl, ⟨rfl, trivial⟩, ?_⟩, ⟨rfl, trivial, ?_⟩, ⟨rfl, ⟨rfl, trivial⟩, ?_⟩, ⟨rfl, trivial, ?_⟩, ⟨rfl, trivial, ?_⟩, ⟨rfl, trivial, ?_⟩, ⟨rfl, trivial, ?_⟩, ⟨rfl, trivial, ?_⟩, ⟨rfl, trivial, ?_⟩, trivial⟩
        · intro w30 hE
          intro R
          refine WL.fieldA (off := 1) Try.fla31_1 rfl rfl ?_
          exact WL.done ⟨_, rfl, rfl, rfl⟩
        · intro w31 hE
          have hE := hE rfl
          have hB := ext_trans hB hE
          have hVg11 := hVg11.ext hE
          rintro _ rfl
          intro R
          refine WL.load Try.underlying23 rfl rfl (hVg11.vcells 1 _ rfl) rfl ?_
          exact WL.done ⟨_, rfl, ext_refl _, rfl⟩
        · intro w32 hE
          intro R
          refine WL.move rfl rfl ?_
          exact WL.done ⟨_, rfl, rfl, rfl⟩
        · intro w33 hE
          have hE := hE rfl
          have hB := ext_trans hB hE
          rintro _ rfl
          intro R
          refine WL.call Try.func74 rfl Try.nm74 rfl rfl (count_c (by omega)) ?_
          rintro _ w34 ⟨rfl, hGw34⟩
          have hB := ext_trans hB hGw34
          exact WL.done ⟨_, rfl, hGw34, rfl⟩
        · intro w35 hE
          have hE := hE rfl
          have hB := ext_trans hB hE
          have htd := htd.ext hE
          rintro _ rfl
          rintro _ rfl
          intro R
          refine WL.call Try.func73 rfl Try.nm73 rfl rfl (PowD_err htd.rd (digs_lim _) qa.den (nv_digs _) (cntZ X) (by omega) (by omega) (by omega) k1) ?_
          rintro _ w36 ⟨rfl, hGw36⟩
          have hB := ext_trans hB hGw36
          exact WL.done ⟨_, rfl, hGw36, rfl⟩
        · intro w37 hE
          rintro _ rfl
          intro R
          refine WL.move rfl rfl ?_
          exact WL.done ⟨_, rfl, rfl, rfl⟩
        · intro w38 hE
          rintro _ rfl
          intro R
          refine WL.extract rfl rfl rfl ?_
          exact WL.done ⟨_, rfl, rfl, rfl⟩
        · intro w39 hE
          rintro _ rfl
          intro R
          refine WL.extract rfl rfl rfl ?_
          exact WL.done ⟨_, rfl, rfl, rfl⟩
        · intro w40 hE
          rintro _ rfl
          intro R
          refine WL.assign rfl rfl ?_
          exact WL.done ⟨_, rfl, rfl, rfl⟩
      · intro vals w41 hT hVs
        have hB := ext_trans hB hT
        have hVg13 := hVg13.ext hT
        have hv0 : vals 0 = _ := hVs 0 (by decide)
        have hv1 : vals 1 = _ := hVs 1 (by decide)
        have hv2 : vals 2 = _ := hVs 2 (by decide)
        have hv3 : vals 3 = _ := hVs 3 (by decide)
        have hv4 : vals 4 = _ := hVs 4 (by decide)
        have hv5 : vals 5 = _ := hVs 5 (by decide)
        have hv6 : vals 6 = _ := hVs 6 (by decide)
        have hv7 : vals 7 = _ := hVs 7 (by decide)
        have hv8 : vals 8 = _ := hVs 8 (by decide)
        rw [show (List.filterMap (fun i => Option.map (fun t => (t, vals i)) (dstAt _ i)) (List.range _)) = [(23, .pointer (some ((⟨g11, 0, none⟩ : Addr).add 1))), (24, .slice A19 m20 c21), (25, .int .i64 X), (26, .int .i64 ((cntZ X : Nat) : Int)), (27, .tuple #[.slice none 0 0, .int .i64 (8 : Int)]), (22, .tuple #[.slice none 0 0, .int .i64 (8 : Int)]), (28, .slice none 0 0), (29, .int .i64 (8 : Int)), (6, .slice none 0 0)] from by
          show [(23, vals 0), (24, vals 1), (25, vals 2), (26, vals 3), (27, vals 4), (22, vals 5), (28, vals 6), (29, vals 7), (6, vals 8)] = _
          rw [hv0, hv1, hv2, hv3, hv4, hv5, hv6, hv7, hv8]]
        refine WA.step [9] (by decide +kernel) rfl ?_
        intro iQ hQ
        simp only [List.mem_cons, List.not_mem_nil, or_false] at hQ
        obtain rfl := hQ
        · refine ⟨_, rfl, ?_⟩
          refine WL.assign rfl rfl ?_
          refine WL.done ?_
          refine WA.done (by decide +kernel) ?_
          refine W.seq ?_
          refine W.seq ?_
          refine W.region ?_
          refine WL.move rfl rfl ?_
          refine WL.neq rfl rfl rfl (fun c42 => ?_) (fun c42 => ?_)
          · refine WL.done ?_
            refine W.condT rfl ?_
            refine W.seq ?_
            refine W.region ?_
            refine WL.build (cells := #[.bool false, .slice none 0 0, .slice none 0 0]) Try.bld31 rfl rfl rfl ?_
            refine WL.move rfl rfl ?_
            refine WL.storeV Try.el31 rfl rfl rfl rfl hVg13 ?_
            have hOld44 := hVg13
            intro w43 hVg13 hGw43
            change Own _ _ _ _ _ _ _ [.bool false, .slice none 0 0, .slice none 0 0] at hVg13
            have hB := ext_own hB hGw43 (fun g hg => (hOld44.bl_ge g hg).1)
            refine WL.assign rfl rfl ?_
            refine WL.done ?_
            refine W.ret ?_
            refine ⟨[.agg #[.bool false, .slice none 0 0, .slice none 0 0], .int .i64 (8 : Int)], ⟨_, _, _, rfl, rfl, run_loadV (cs := [.bool false, .slice none 0 0, .slice none 0 0]) Try.el31 Try.agg31 rfl hVg13.vcells, ⟨_, _, rfl, rfl, rfl⟩⟩, ?_⟩
            exact ⟨rfl, hB⟩
          · exfalso
            omega
    · exfalso
      have z0 := z0_t rfl
      exact hq0 z0
  · exfalso
    omega

set_option maxHeartbeats 1000000 in
theorem rqPow_n_errok {w : World} {Ban : Nat} {Aan : Option Addr} {man can : Nat} {xan : List Nat} (han : Rd Ban w 1 Aan man can (us xan)) {Bad : Nat} {Aad : Option Addr} {mad cad : Nat} {xad : List Nat} (had : Rd Bad w 1 Aad mad cad (us xad)) {na : Bool} (hLan : Lim xan) (hLad : Lim xad) (qa : Rat) (hqa : val na (nv xan) (nv xad) = qa) (hsa : man ≤ 4194304 ∧ mad ≤ 4194304) {X : Int} (hX : -9223372036854775808 ≤ X ∧ X ≤ 9223372036854775807) (hsm : man ≤ 1000 ∧ mad ≤ 1000) (hsg : X < 0) (hq0 : qa ≠ 0) (h1 : ¬ (qa.den) ^ X.natAbs < bigN) (h2 : (qnum qa) ^ X.natAbs < bigN) :
    Calls Try.prog 41 #[.agg #[.bool na, .slice Aan man can, .slice Aad mad cad], .int .i64 X] w fun e w2 => ∃ v, e = .returned v ∧ (fun v w2 => v = .tuple #[.agg #[.bool false, .slice none 0 0, .slice none 0 0], .int .i64 8] ∧ w.grownBy w2 none) v w2 := by
  have han := han.norm
  have han_l := han.ulen
  have han_x := han.max
  simp only [maxLen] at han_x
  have han_c := han.cap
  have had := had.norm
  have had_l := had.ulen
  have had_x := had.max
  simp only [maxLen] at had_x
  have had_c := had.cap
  have han0 := han
  have had0 := had
  obtain ⟨zp1, zp2, zp3⟩ := zp_neg (q := qa) hq0 hsg
  have hcl := crZ_lt hX
  obtain ⟨pu1, pu2⟩ := powcap (x := qa.den) (crZ_cap X)
  obtain ⟨pv1, pv2⟩ := powcap (x := qnum qa) (crZ_cap X)
  have ht2 := tm2 X
  have k1 := mt pu1.1 h1
  have k2 := pv1.2 h2
  have e2 := pv2 h2
  have hB := ext_refl w
  refine calls_of_Wc (vs := [.agg #[.bool na, .slice Aan man can, .slice Aad mad cad], .int .i64 X]) [.cell 4 31, .tmp 5] Try.func41 rfl rfl rfl rfl ?_
  refine W.seq ?_
  refine W.region ?_
  refine WL.box Try.el31 rfl rfl rfl ?_
  intro g11 w12 hg_g11 hVg11 hGw12
  change Own _ _ _ _ _ _ _ [.bool na, .slice Aan man can, .slice Aad mad cad] at hVg11
  have hVg11 := hVg11.low (b' := w.heap.size) hB.size
  have hB := ext_trans hB hGw12
  have han := han0.ext hB
  have had := had0.ext hB
  refine WL.alloc Try.el31 rfl ?_
  intro g13 w14 hg_g13 hVg13 hGw14
  change Own _ _ _ _ _ _ _ [.bool false, .slice none 0 0, .slice none 0 0] at hVg13
  have hlt_g11_g13 : g11 < g13 := by rw [hg_g13]; exact (hVg11.bl_ge _ rfl).2
  have hVg13 := hVg13.low (b' := w.heap.size) hB.size
  have hB := ext_trans hB hGw14
  have han := han0.ext hB
  have had := had0.ext hB
  have hVg11 := hVg11.ext hGw14
  refine WL.assign rfl rfl ?_
  refine WL.done ?_
  refine W.seq ?_
  refine W.region ?_
  refine WL.loadV (cs := [.bool na, .slice Aan man can, .slice Aad mad cad]) Try.el31 Try.agg31 rfl rfl hVg11.vcells rfl ?_
  refine WL.call Try.func20 rfl Try.nm20 rfl rfl (rqTrim_c han had hLan hLad qa hqa (by omega)) ?_
  rintro _ w15 ⟨A16, m17, c18, A19, m20, c21, rfl, hGw15, htn, htd, htm⟩
  have hap_htn_g11 := ap_new htn (hVg11.bl_ge _ rfl).2
  have hap_htd_g11 := ap_new htd (hVg11.bl_ge _ rfl).2
  have htn := htn.low (b' := w.heap.size) hB.size
  have htd := htd.low (b' := w.heap.size) hB.size
  have hB := ext_trans hB hGw15
  have hVg11 := hVg11.ext hGw15
  have hVg13 := hVg13.ext hGw15
  have htn_l := htn.rd.ulen
  have htd_l := htd.rd.ulen
  refine WL.storeV Try.el31 rfl rfl rfl rfl hVg11 ?_
  have hOld23 := hVg11
  intro w22 hVg11 hGw22
  change Own _ _ _ _ _ _ _ [.bool (qneg (qa)), .slice A16 m17 c18, .slice A19 m20 c21] at hVg11
  have hB := ext_own hB hGw22 (fun g hg => (hOld23.bl_ge g hg).1)
  have hVg13 := hVg13.grown hGw22 (apart (by omega))
  have htn := htn.grown hGw22 (ap_row (by first | exact hap_htn_g11 | exact ap_type htn hOld23 (by decide)))
  have htd := htd.grown hGw22 (ap_row (by first | exact hap_htd_g11 | exact ap_type htd hOld23 (by decide)))
  refine WL.done ?_
  refine W.seq ?_
  refine W.seq ?_
  refine W.region ?_
  refine WL.move rfl rfl ?_
  refine WL.lss rfl rfl rfl (fun c24 => ?_) (fun c24 => ?_)
  · refine WL.done ?_
    refine W.condT rfl ?_
    refine W.seq ?_
    refine W.seq ?_
    refine W.region ?_
    refine WL.fieldA (off := 1) Try.fla31_1 rfl rfl ?_
    refine WL.load Try.underlying23 rfl rfl (hVg11.vcells 1 _ rfl) rfl ?_
    refine WL.len Try.underlying23 rfl rfl ?_
    refine WL.eql rfl rfl rfl (fun c25 => ?_) (fun c25 => ?_)
    · exfalso
      have h9 := rdigs_len0 (n := qnum qa)
      have h8 := htn.rd.ulen
      exact hq0 (qnum_eq_zero.1 (rdigs_len0.1 (by omega)))
    · refine WL.done ?_
      refine W.condF rfl ?_
      refine W.skip ?_
      refine W.region ?_
      refine WL.loadV (cs := [.bool (qneg (qa)), .slice A16 m17 c18, .slice A19 m20 c21]) Try.el31 Try.agg31 rfl rfl hVg11.vcells rfl ?_
      refine WL.call Try.func75 rfl Try.nm75 rfl rfl (rqInv_c htn.rd htd.rd (digs_lim _) (digs_lim _) qa (val_canon _) (by omega)) ?_
      rintro _ w26 ⟨A27, m28, c29, A30, m31, c32, rfl, hGw26, hin, hid, him⟩
      have hap_hin_g11 := ap_new hin (hVg11.bl_ge _ rfl).2
      have hap_hid_g11 := ap_new hid (hVg11.bl_ge _ rfl).2
      have hin := hin.low (b' := w.heap.size) hB.size
      have hid := hid.low (b' := w.heap.size) hB.size
      have hB := ext_trans hB hGw26
      have hVg13 := hVg13.ext hGw26
      have hVg11 := hVg11.ext hGw26
      have hin_l := hin.rd.ulen
      have hid_l := hid.rd.ulen
      refine WL.storeV Try.el31 rfl rfl rfl rfl hVg11 ?_
      have hOld34 := hVg11
      intro w33 hVg11 hGw33
      change Own _ _ _ _ _ _ _ [.bool (qneg (qa)), .slice A27 m28 c29, .slice A30 m31 c32] at hVg11
      have hB := ext_own hB hGw33 (fun g hg => (hOld34.bl_ge g hg).1)
      have hVg13 := hVg13.grown hGw33 (apart (by omega))
      have hin := hin.grown hGw33 (ap_row (by first | exact hap_hin_g11 | exact ap_type hin hOld34 (by decide)))
      have hid := hid.grown hGw33 (ap_row (by first | exact hap_hid_g11 | exact ap_type hid hOld34 (by decide)))
      refine WL.done ?_
      refine W.seq ?_
      refine W.region ?_
      refine WL.move rfl rfl ?_
      refine WL.rem (r := (X.tmod 2)) rfl rfl (by omega) rfl rfl ?_
      refine WL.neq rfl rfl rfl (fun c35 => ?_) (fun c35 => ?_)
      · refine WL.assign rfl rfl ?_
        refine WL.done ?_
        refine W.seq ?_
        refine W.seq ?_
        refine W.region ?_
        refine WL.move rfl rfl ?_
        refine WL.lss rfl rfl rfl (fun c36 => ?_) (fun c36 => ?_)
        · refine WL.done ?_
          refine W.condT rfl ?_
          refine W.region ?_
          refine WL.move rfl rfl ?_
          refine WL.max2 (r := (max X (-4611686018427387904))) rfl rfl rfl rfl ?_
          refine WL.neg (r := ((crZ X : Nat) : Int)) rfl (wi64 (by omega) (by omega) (by unfold crZ; split <;> omega)) rfl ?_
          refine WL.assign rfl rfl ?_
          refine WL.done ?_
          refine W.seq ?_
          refine W.region ?_
          refine WL.fieldA (off := 1) Try.fla31_1 rfl rfl ?_
          refine WL.load Try.underlying23 rfl rfl (hVg11.vcells 1 _ rfl) rfl ?_
          refine WL.move rfl rfl ?_
          refine WL.call Try.func76 rfl Try.nm76 rfl rfl (rPowD_err hin.rd (digs_lim _) qa.den (nv_digs _) (crZ X) (by omega) (by omega) (by omega) k1) ?_
          rintro _ w37 ⟨rfl, hGw37⟩
          have hB := ext_trans hB hGw37
          have hVg13 := hVg13.ext hGw37
          have hid := hid.ext hGw37
          have hVg11 := hVg11.ext hGw37
          refine WL.move rfl rfl ?_
          refine WL.extract rfl rfl rfl ?_
          refine WL.extract rfl rfl rfl ?_
          refine WL.assign rfl rfl ?_
          refine WL.assign rfl rfl ?_
          refine WL.done ?_
          refine W.seq ?_
          refine W.region ?_
          refine WL.fieldA (off := 2) Try.fla31_2 rfl rfl ?_
          refine WL.load Try.underlying23 rfl rfl (hVg11.vcells 2 _ rfl) rfl ?_
          refine WL.move rfl rfl ?_
          refine WL.call Try.func76 rfl Try.nm76 rfl rfl (rPowD_ok hid.rd (digs_lim _) (qnum qa) (nv_digs _) (crZ X) (by omega) (by omega) (by omega) k2) ?_
          rintro _ w38 ⟨A39, m40, cp41, rfl, hGw38, hv, hvm⟩
          have hv := hv.low (b' := w.heap.size) hB.size
          have hB := ext_trans hB hGw38
          have hVg13 := hVg13.ext hGw38
          have hv_l := hv.rd.ulen
          refine WL.move rfl rfl ?_
          refine WL.extract rfl rfl rfl ?_
          refine WL.extract rfl rfl rfl ?_
          refine WL.assign rfl rfl ?_
          refine WL.assign rfl rfl ?_
          refine WL.done ?_
          refine W.seq ?_
          refine W.seq ?_
          refine W.region ?_
          refine WL.move rfl rfl ?_
          refine WL.neq rfl rfl rfl (fun c42 => ?_) (fun c42 => ?_)
          · refine WL.move rfl rfl ?_
            refine WL.pass rfl rfl rfl ?_
            refine WL.pass rfl rfl rfl ?_
            refine WL.pick rfl rfl rfl ?_
            refine WL.done ?_
            refine W.condT rfl ?_
            refine W.seq ?_
            refine W.region ?_
            refine WL.build (cells := #[.bool false, .slice none 0 0, .slice none 0 0]) Try.bld31 rfl rfl rfl ?_
            refine WL.storeV Try.el31 rfl rfl rfl rfl hVg13 ?_
            have hOld44 := hVg13
            intro w43 hVg13 hGw43
            change Own _ _ _ _ _ _ _ [.bool false, .slice none 0 0, .slice none 0 0] at hVg13
            have hB := ext_own hB hGw43 (fun g hg => (hOld44.bl_ge g hg).1)
            refine WL.assign rfl rfl ?_
            refine WL.done ?_
            refine W.ret ?_
            refine ⟨[.agg #[.bool false, .slice none 0 0, .slice none 0 0], .int .i64 (8 : Int)], ⟨_, _, _, rfl, rfl, run_loadV (cs := [.bool false, .slice none 0 0, .slice none 0 0]) Try.el31 Try.agg31 rfl hVg13.vcells, ⟨_, _, rfl, rfl, rfl⟩⟩, ?_⟩
            exact ⟨rfl, hB⟩
          · exfalso
            omega
        · exfalso
          omega
      · refine WL.assign rfl rfl ?_
        refine WL.done ?_
        refine W.seq ?_
        refine W.seq ?_
        refine W.region ?_
        refine WL.move rfl rfl ?_
        refine WL.lss rfl rfl rfl (fun c45 => ?_) (fun c45 => ?_)
        · refine WL.done ?_
          refine W.condT rfl ?_
          refine W.region ?_
          refine WL.move rfl rfl ?_
          refine WL.max2 (r := (max X (-4611686018427387904))) rfl rfl rfl rfl ?_
          refine WL.neg (r := ((crZ X : Nat) : Int)) rfl (wi64 (by omega) (by omega) (by unfold crZ; split <;> omega)) rfl ?_
          refine WL.assign rfl rfl ?_
          refine WL.done ?_
          refine W.seq ?_
          refine W.region ?_
          refine WL.fieldA (off := 1) Try.fla31_1 rfl rfl ?_
          refine WL.load Try.underlying23 rfl rfl (hVg11.vcells 1 _ rfl) rfl ?_
          refine WL.move rfl rfl ?_
          refine WL.call Try.func76 rfl Try.nm76 rfl rfl (rPowD_err hin.rd (digs_lim _) qa.den (nv_digs _) (crZ X) (by omega) (by omega) (by omega) k1) ?_
          rintro _ w46 ⟨rfl, hGw46⟩
          have hB := ext_trans hB hGw46
          have hVg13 := hVg13.ext hGw46
          have hid := hid.ext hGw46
          have hVg11 := hVg11.ext hGw46
          refine WL.move rfl rfl ?_
          refine WL.extract rfl rfl rfl ?_
          refine WL.extract rfl rfl rfl ?_
          refine WL.assign rfl rfl ?_
          refine WL.assign rfl rfl ?_
          refine WL.done ?_
          refine W.seq ?_
          refine W.region ?_
          refine WL.fieldA (off := 2) Try.fla31_2 rfl rfl ?_
          refine WL.load Try.underlying23 rfl rfl (hVg11.vcells 2 _ rfl) rfl ?_
          refine WL.move rfl rfl ?_
          refine WL.call Try.func76 rfl Try.nm76 rfl rfl (rPowD_ok hid.rd (digs_lim _) (qnum qa) (nv_digs _) (crZ X) (by omega) (by omega) (by omega) k2) ?_
          rintro _ w47 ⟨A48, m49, cp50, rfl, hGw47, hv, hvm⟩
          have hv := hv.low (b' := w.heap.size) hB.size
          have hB := ext_trans hB hGw47
          have hVg13 := hVg13.ext hGw47
          have hv_l := hv.rd.ulen
          refine WL.move rfl rfl ?_
          refine WL.extract rfl rfl rfl ?_
          refine WL.extract rfl rfl rfl ?_
          refine WL.assign rfl rfl ?_
          refine WL.assign rfl rfl ?_
          refine WL.done ?_
          refine W.seq ?_
          refine W.seq ?_
          refine W.region ?_
          refine WL.move rfl rfl ?_
          refine WL.neq rfl rfl rfl (fun c51 => ?_) (fun c51 => ?_)
          · refine WL.move rfl rfl ?_
            refine WL.pass rfl rfl rfl ?_
            refine WL.pass rfl rfl rfl ?_
            refine WL.pick rfl rfl rfl ?_
            refine WL.done ?_
            refine W.condT rfl ?_
            refine W.seq ?_
            refine W.region ?_
            refine WL.build (cells := #[.bool false, .slice none 0 0, .slice none 0 0]) Try.bld31 rfl rfl rfl ?_
            refine WL.storeV Try.el31 rfl rfl rfl rfl hVg13 ?_
            have hOld53 := hVg13
            intro w52 hVg13 hGw52
            change Own _ _ _ _ _ _ _ [.bool false, .slice none 0 0, .slice none 0 0] at hVg13
            have hB := ext_own hB hGw52 (fun g hg => (hOld53.bl_ge g hg).1)
            refine WL.assign rfl rfl ?_
            refine WL.done ?_
            refine W.ret ?_
            refine ⟨[.agg #[.bool false, .slice none 0 0, .slice none 0 0], .int .i64 (8 : Int)], ⟨_, _, _, rfl, rfl, run_loadV (cs := [.bool false, .slice none 0 0, .slice none 0 0]) Try.el31 Try.agg31 rfl hVg13.vcells, ⟨_, _, rfl, rfl, rfl⟩⟩, ?_⟩
            exact ⟨rfl, hB⟩
          · exfalso
            omega
        · exfalso
          omega
  · exfalso
    omega

set_option maxHeartbeats 1000000 in
theorem qPow_n_errerr {w : World} {Ban : Nat} {Aan : Option Addr} {man can : Nat} {xan : List Nat} (han : Rd Ban w 1 Aan man can (us xan)) {Bad : Nat} {Aad : Option Addr} {mad cad : Nat} {xad : List Nat} (had : Rd Bad w 1 Aad mad cad (us xad)) {na : Bool} (hLan : Lim xan) (hLad : Lim xad) (qa : Rat) (hqa : val na (nv xan) (nv xad) = qa) (hsa : man ≤ 4194304 ∧ mad ≤ 4194304) {X : Int} (hX : -9223372036854775808 ≤ X ∧ X ≤ 9223372036854775807) (hsm : man ≤ 1000 ∧ mad ≤ 1000) (hsg : X < 0) (hq0 : qa ≠ 0) (h1 : ¬ (qa.den) ^ X.natAbs < bigN) (h2 : ¬ (qnum qa) ^ X.natAbs < bigN) :
    Calls Try.prog 40 #[.agg #[.bool na, .slice Aan man can, .slice Aad mad cad], .int .i64 X] w fun e w2 => ∃ v, e = .returned v ∧ (fun v w2 => v = .tuple #[.agg #[.bool false, .slice none 0 0, .slice none 0 0], .int .i64 8] ∧ w.grownBy w2 none) v w2 := by
  have han := han.norm
  have han_l := han.ulen
  have han_x := han.max
  simp only [maxLen] at han_x
  have han_c := han.cap
  have had := had.norm
  have had_l := had.ulen
  have had_x := had.max
  simp only [maxLen] at had_x
  have had_c := had.cap
  have han0 := han
  have had0 := had
  obtain ⟨zp1, zp2, zp3⟩ := zp_neg (q := qa) hq0 hsg
  have hcl := cntZ_lt hX
  obtain ⟨pu1, pu2⟩ := powcap (x := qa.den) (cntZ_cap X)
  obtain ⟨pv1, pv2⟩ := powcap (x := qnum qa) (cntZ_cap X)
  have ht2 := tm2 X
  have k1 := mt pu1.1 h1
  have k2 := mt pv1.1 h2
  have hB := ext_refl w
  refine calls_of_Wc (vs := [.agg #[.bool na, .slice Aan man can, .slice Aad mad cad], .int .i64 X]) [.cell 4 31, .tmp 5] Try.func40 rfl rfl rfl rfl ?_
  refine W.seq ?_
  refine W.region ?_
  refine WL.box Try.el31 rfl rfl rfl ?_
  intro g11 w12 hg_g11 hVg11 hGw12
  change Own _ _ _ _ _ _ _ [.bool na, .slice Aan man can, .slice Aad mad cad] at hVg11
  have hVg11 := hVg11.low (b' := w.heap.size) hB.size
  have hB := ext_trans hB hGw12
  have han := han0.ext hB
  have had := had0.ext hB
  refine WL.alloc Try.el31 rfl ?_
  intro g13 w14 hg_g13 hVg13 hGw14
  change Own _ _ _ _ _ _ _ [.bool false, .slice none 0 0, .slice none 0 0] at hVg13
  have hlt_g11_g13 : g11 < g13 := by rw [hg_g13]; exact (hVg11.bl_ge _ rfl).2
  have hVg13 := hVg13.low (b' := w.heap.size) hB.size
  have hB := ext_trans hB hGw14
  have han := han0.ext hB
  have had := had0.ext hB
  have hVg11 := hVg11.ext hGw14
  refine WL.assign rfl rfl ?_
  refine WL.done ?_
  refine W.seq ?_
  refine W.region ?_
  refine WL.loadV (cs := [.bool na, .slice Aan man can, .slice Aad mad cad]) Try.el31 Try.agg31 rfl rfl hVg11.vcells rfl ?_
  refine WL.call Try.func19 rfl Try.nm19 rfl rfl (qTrim_c han had hLan hLad qa hqa (by omega)) ?_
  rintro _ w15 ⟨A16, m17, c18, A19, m20, c21, rfl, hGw15, htn, htd, htm⟩
  have hap_htn_g11 := ap_new htn (hVg11.bl_ge _ rfl).2
  have hap_htd_g11 := ap_new htd (hVg11.bl_ge _ rfl).2
  have htn := htn.low (b' := w.heap.size) hB.size
  have htd := htd.low (b' := w.heap.size) hB.size
  have hB := ext_trans hB hGw15
  have hVg11 := hVg11.ext hGw15
  have hVg13 := hVg13.ext hGw15
  have htn_l := htn.rd.ulen
  have htd_l := htd.rd.ulen
  refine WL.storeV Try.el31 rfl rfl rfl rfl hVg11 ?_
  have hOld23 := hVg11
  intro w22 hVg11 hGw22
  change Own _ _ _ _ _ _ _ [.bool (qneg (qa)), .slice A16 m17 c18, .slice A19 m20 c21] at hVg11
  have hB := ext_own hB hGw22 (fun g hg => (hOld23.bl_ge g hg).1)
  have hVg13 := hVg13.grown hGw22 (apart (by omega))
  have htn := htn.grown hGw22 (ap_row (by first | exact hap_htn_g11 | exact ap_type htn hOld23 (by decide)))
  have htd := htd.grown hGw22 (ap_row (by first | exact hap_htd_g11 | exact ap_type htd hOld23 (by decide)))
  refine WL.done ?_
  refine W.seq ?_
  refine W.seq ?_
  refine W.region ?_
  refine WL.move rfl rfl ?_
  refine WL.lss rfl rfl rfl (fun c24 => ?_) (fun c24 => ?_)
  · refine WL.done ?_
    refine W.condT rfl ?_
    refine W.seq ?_
    refine W.seq ?_
    refine W.region ?_
    refine WL.loadV (cs := [.bool (qneg (qa)), .slice A16 m17 c18, .slice A19 m20 c21]) Try.el31 Try.agg31 rfl rfl hVg11.vcells rfl ?_
    refine WL.call Try.func50 rfl Try.nm50 rfl rfl (isZero_c htn.rd htd.rd (digs_lim _) (digs_lim _) qa (val_canon _) (by omega)) ?_
    rintro _ w25 ⟨bz0, rfl, hGw25, z0_t, z0_f⟩
    have hB := ext_trans hB hGw25
    have hVg13 := hVg13.ext hGw25
    have htd := htd.ext hGw25
    have hVg11 := hVg11.ext hGw25
    rcases bz0 with _ | _
    · have z0 := z0_f rfl
      refine WL.done ?_
      refine W.condF rfl ?_
      refine W.skip ?_
      refine W.region ?_
      refine WL.fieldA (off := 2) Try.fla31_2 rfl rfl ?_
      refine WL.load Try.underlying23 rfl rfl (hVg11.vcells 2 _ rfl) rfl ?_
      refine WL.fieldA (off := 1) Try.fla31_1 rfl rfl ?_
      refine WL.load Try.underlying23 rfl rfl (hVg11.vcells 1 _ rfl) rfl ?_
      refine WL.fieldA (off := 1) Try.fla31_1 rfl rfl ?_
      refine WL.storeF Try.el23 rfl rfl rfl rfl hVg11 ?_
      have hOld27 := hVg11
      intro w26 hVg11 hGw26
      change Own _ _ _ _ _ _ _ [.bool (qneg (qa)), .slice A19 m20 c21, .slice A19 m20 c21] at hVg11
      have hB := ext_own hB hGw26 (fun g hg => (hOld27.bl_ge g hg).1)
      have hVg13 := hVg13.grown hGw26 (apart (by omega))
      have htd := htd.grown hGw26 (ap_row (by first | exact hap_htd_g11 | exact ap_type htd hOld27 (by decide)))
      refine WL.fieldA (off := 2) Try.fla31_2 rfl rfl ?_
      refine WL.storeF Try.el23 rfl rfl rfl rfl hVg11 ?_
      have hOld29 := hVg11
      intro w28 hVg11 hGw28
      change Own _ _ _ _ _ _ _ [.bool (qneg (qa)), .slice A19 m20 c21, .slice A16 m17 c18] at hVg11
      have hB := ext_own hB hGw28 (fun g hg => (hOld29.bl_ge g hg).1)
      have hVg13 := hVg13.grown hGw28 (apart (by omega))
      have htd := htd.grown hGw28 (ap_row (by first | exact hap_htd_g11 | exact ap_type htd hOld29 (by decide)))
      refine WL.done ?_
      refine W.seq ?_
      refine W.drawT 9 [⟨[], [2], true⟩, ⟨[0], [], false⟩, ⟨[], [1], true⟩, ⟨[2], [], false⟩, ⟨[1, 3], [], false⟩, ⟨[4], [], true⟩, ⟨[5], [], true⟩, ⟨[5], [], true⟩, ⟨[6], [], true⟩] [[(2, .pointer (some ⟨g11, 0, none⟩))], [], [(1, .int .i64 X)], [], [], [], [], [], []] (fun iQ => [fun v wQ => v = .pointer (some ((⟨g11, 0, none⟩ : Addr).add 1)), fun v wQ => v = .slice A19 m20 c21, fun v wQ => v = .int .i64 X, fun v wQ => v = .int .i64 ((cntZ X : Nat) : Int), fun v wQ => v = .tuple #[.slice none 0 0, .int .i64 (8 : Int)], fun v wQ => v = .tuple #[.slice none 0 0, .int .i64 (8 : Int)], fun v wQ => v = .slice none 0 0, fun v wQ => v = .int .i64 (8 : Int), fun v wQ => v = .slice none 0 0].getD iQ (fun _ _ => True)) Try.mixed (by kernel_rfl) ?_ ?_ ?_
      · refine Vs_monoT _ ?_
        intro VQ hVQ vQ wQ1 wQ2 hQ1 hQ2
        simp only [List.mem_cons, List.not_mem_nil, or_false] at hVQ
        rcases hVQ with rfl | rfl | rfl | rfl | rfl | rfl | rfl | rfl | rfl
        · exact hQ1
        · exact hQ1
        · exact hQ1
        · exact hQ1
        · exact hQ1
        · exact hQ1
        · exact hQ1
        · exact hQ1
        · exact hQ1
      · refine ⟨⟨rfl, ⟨rfl, trivial⟩, ?_⟩, ⟨rfl, trivial, ?_⟩, ⟨rfl, ⟨rfl, trivial⟩, ?_⟩, ⟨rfl, trivial, ?_⟩, ⟨rfl, trivial, ?_⟩, ⟨rfl, trivial, ?_⟩, ⟨rfl, trivial, ?_⟩, ⟨rfl, trivial, ?_⟩, ⟨rfl, trivial, ?_⟩, trivial⟩
        · intro w30 hE
          intro R
          refine WL.fieldA (off := 1) Try.fla31_1 rfl rfl ?_
          exact WL.done ⟨_, rfl, rfl, rfl⟩
        · intro w31 hE
          have hE := hE rfl
          have hB := ext_trans hB hE
          have hVg11 := hVg11.ext hE
          rintro _ rfl
          intro R
          refine WL.load Try.underlying23 rfl rfl (hVg11.vcells 1 _ rfl) rfl ?_
          exact WL.done ⟨_, rfl, ext_refl _, rfl⟩
        · intro w32 hE
          intro R
          refine WL.move rfl rfl ?_
          exact WL.done ⟨_, rfl, rfl, rfl⟩
        · intro w33 hE
          have hE := hE rfl
          have hB := ext_trans hB hE
          rintro _ rfl
          intro R
          refine WL.call Try.func74 rfl Try.nm74 rfl rfl (count_c (by omega)) ?_
          rintro _ w34 ⟨rfl, hGw34⟩
          have hB := ext_trans hB hGw34
          exact WL.done ⟨_, rfl, hGw34, rfl⟩
        · intro w35 hE
          have hE := hE rfl
          have hB := ext_trans hB hE
          have htd := htd.ext hE
          rintro _ rfl
          rintro _ rfl
          intro R
          refine WL.call Try.func73 rfl Try.nm73 rfl rfl (PowD_err htd.rd (digs_lim _) qa.den (nv_digs _) (cntZ X) (by omega) (by omega) (by omega) k1) ?_
          rintro _ w36 ⟨rfl, hGw36⟩
          have hB := ext_trans hB hGw36
          exact WL.done ⟨_, rfl, hGw36, rfl⟩
        · intro w37 hE
          rintro _ rfl
          intro R
          refine WL.move rfl rfl ?_
          exact WL.done ⟨_, rfl, rfl, rfl⟩
        · intro w38 hE
          rintro _ rfl
          intro R
          refine WL.extract rfl rfl rfl ?_
          exact WL.done ⟨_, rfl, rfl, rfl⟩
        · intro w39 hE
          rintro _ rfl
          intro R
          refine WL.extract rfl rfl rfl ?_
          exact WL.done ⟨_, rfl, rfl, rfl⟩
        · intro w40 hE
          rintro _ rfl
          intro R
          refine WL.assign rfl rfl ?_
          exact WL.done ⟨_, rfl, rfl, rfl⟩
      · intro vals w41 hT hVs
        have hB := ext_trans hB hT
        have hVg13 := hVg13.ext hT
        have hv0 : vals 0 = _ := hVs 0 (by decide)
        have hv1 : vals 1 = _ := hVs 1 (by decide)
        have hv2 : vals 2 = _ := hVs 2 (by decide)
        have hv3 : vals 3 = _ := hVs 3 (by decide)
        have hv4 : vals 4 = _ := hVs 4 (by decide)
        have hv5 : vals 5 = _ := hVs 5 (by decide)
        have hv6 : vals 6 = _ := hVs 6 (by decide)
        have hv7 : vals 7 = _ := hVs 7 (by decide)
        have hv8 : vals 8 = _ := hVs 8 (by decide)
        rw [show (List.filterMap (fun i => Option.map (fun t => (t, vals i)) (dstAt _ i)) (List.range _)) = [(23, .pointer (some ((⟨g11, 0, none⟩ : Addr).add 1))), (24, .slice A19 m20 c21), (25, .int .i64 X), (26, .int .i64 ((cntZ X : Nat) : Int)), (27, .tuple #[.slice none 0 0, .int .i64 (8 : Int)]), (22, .tuple #[.slice none 0 0, .int .i64 (8 : Int)]), (28, .slice none 0 0), (29, .int .i64 (8 : Int)), (6, .slice none 0 0)] from by
          show [(23, vals 0), (24, vals 1), (25, vals 2), (26, vals 3), (27, vals 4), (22, vals 5), (28, vals 6), (29, vals 7), (6, vals 8)] = _
          rw [hv0, hv1, hv2, hv3, hv4, hv5, hv6, hv7, hv8]]
        refine WA.step [9] (by decide +kernel) rfl ?_
        intro iQ hQ
        simp only [List.mem_cons, List.not_mem_nil, or_false] at hQ
        obtain rfl := hQ
        · refine ⟨_, rfl, ?_⟩
          refine WL.assign rfl rfl ?_
          refine WL.done ?_
          refine WA.done (by decide +kernel) ?_
          refine W.seq ?_
          refine W.seq ?_
          refine W.region ?_
          refine WL.move rfl rfl ?_
          refine WL.neq rfl rfl rfl (fun c42 => ?_) (fun c42 => ?_)
          · refine WL.done ?_
            refine W.condT rfl ?_
            refine W.seq ?_
            refine W.region ?_
            refine WL.build (cells := #[.bool false, .slice none 0 0, .slice none 0 0]) Try.bld31 rfl rfl rfl ?_
            refine WL.move rfl rfl ?_
            refine WL.storeV Try.el31 rfl rfl rfl rfl hVg13 ?_
            have hOld44 := hVg13
            intro w43 hVg13 hGw43
            change Own _ _ _ _ _ _ _ [.bool false, .slice none 0 0, .slice none 0 0] at hVg13
            have hB := ext_own hB hGw43 (fun g hg => (hOld44.bl_ge g hg).1)
            refine WL.assign rfl rfl ?_
            refine WL.done ?_
            refine W.ret ?_
            refine ⟨[.agg #[.bool false, .slice none 0 0, .slice none 0 0], .int .i64 (8 : Int)], ⟨_, _, _, rfl, rfl, run_loadV (cs := [.bool false, .slice none 0 0, .slice none 0 0]) Try.el31 Try.agg31 rfl hVg13.vcells, ⟨_, _, rfl, rfl, rfl⟩⟩, ?_⟩
            exact ⟨rfl, hB⟩
          · exfalso
            omega
    · exfalso
      have z0 := z0_t rfl
      exact hq0 z0
  · exfalso
    omega

set_option maxHeartbeats 1000000 in
theorem rqPow_n_errerr {w : World} {Ban : Nat} {Aan : Option Addr} {man can : Nat} {xan : List Nat} (han : Rd Ban w 1 Aan man can (us xan)) {Bad : Nat} {Aad : Option Addr} {mad cad : Nat} {xad : List Nat} (had : Rd Bad w 1 Aad mad cad (us xad)) {na : Bool} (hLan : Lim xan) (hLad : Lim xad) (qa : Rat) (hqa : val na (nv xan) (nv xad) = qa) (hsa : man ≤ 4194304 ∧ mad ≤ 4194304) {X : Int} (hX : -9223372036854775808 ≤ X ∧ X ≤ 9223372036854775807) (hsm : man ≤ 1000 ∧ mad ≤ 1000) (hsg : X < 0) (hq0 : qa ≠ 0) (h1 : ¬ (qa.den) ^ X.natAbs < bigN) (h2 : ¬ (qnum qa) ^ X.natAbs < bigN) :
    Calls Try.prog 41 #[.agg #[.bool na, .slice Aan man can, .slice Aad mad cad], .int .i64 X] w fun e w2 => ∃ v, e = .returned v ∧ (fun v w2 => v = .tuple #[.agg #[.bool false, .slice none 0 0, .slice none 0 0], .int .i64 8] ∧ w.grownBy w2 none) v w2 := by
  have han := han.norm
  have han_l := han.ulen
  have han_x := han.max
  simp only [maxLen] at han_x
  have han_c := han.cap
  have had := had.norm
  have had_l := had.ulen
  have had_x := had.max
  simp only [maxLen] at had_x
  have had_c := had.cap
  have han0 := han
  have had0 := had
  obtain ⟨zp1, zp2, zp3⟩ := zp_neg (q := qa) hq0 hsg
  have hcl := crZ_lt hX
  obtain ⟨pu1, pu2⟩ := powcap (x := qa.den) (crZ_cap X)
  obtain ⟨pv1, pv2⟩ := powcap (x := qnum qa) (crZ_cap X)
  have ht2 := tm2 X
  have k1 := mt pu1.1 h1
  have k2 := mt pv1.1 h2
  have hB := ext_refl w
  refine calls_of_Wc (vs := [.agg #[.bool na, .slice Aan man can, .slice Aad mad cad], .int .i64 X]) [.cell 4 31, .tmp 5] Try.func41 rfl rfl rfl rfl ?_
  refine W.seq ?_
  refine W.region ?_
  refine WL.box Try.el31 rfl rfl rfl ?_
  intro g11 w12 hg_g11 hVg11 hGw12
  change Own _ _ _ _ _ _ _ [.bool na, .slice Aan man can, .slice Aad mad cad] at hVg11
  have hVg11 := hVg11.low (b' := w.heap.size) hB.size
  have hB := ext_trans hB hGw12
  have han := han0.ext hB
  have had := had0.ext hB
  refine WL.alloc Try.el31 rfl ?_
  intro g13 w14 hg_g13 hVg13 hGw14
  change Own _ _ _ _ _ _ _ [.bool false, .slice none 0 0, .slice none 0 0] at hVg13
  have hlt_g11_g13 : g11 < g13 := by rw [hg_g13]; exact (hVg11.bl_ge _ rfl).2
  have hVg13 := hVg13.low (b' := w.heap.size) hB.size
  have hB := ext_trans hB hGw14
  have han := han0.ext hB
  have had := had0.ext hB
  have hVg11 := hVg11.ext hGw14
  refine WL.assign rfl rfl ?_
  refine WL.done ?_
  refine W.seq ?_
  refine W.region ?_
  refine WL.loadV (cs := [.bool na, .slice Aan man can, .slice Aad mad cad]) Try.el31 Try.agg31 rfl rfl hVg11.vcells rfl ?_
  refine WL.call Try.func20 rfl Try.nm20 rfl rfl (rqTrim_c han had hLan hLad qa hqa (by omega)) ?_
  rintro _ w15 ⟨A16, m17, c18, A19, m20, c21, rfl, hGw15, htn, htd, htm⟩
  have hap_htn_g11 := ap_new htn (hVg11.bl_ge _ rfl).2
  have hap_htd_g11 := ap_new htd (hVg11.bl_ge _ rfl).2
  have htn := htn.low (b' := w.heap.size) hB.size
  have htd := htd.low (b' := w.heap.size) hB.size
  have hB := ext_trans hB hGw15
  have hVg11 := hVg11.ext hGw15
  have hVg13 := hVg13.ext hGw15
  have htn_l := htn.rd.ulen
  have htd_l := htd.rd.ulen
  refine WL.storeV Try.el31 rfl rfl rfl rfl hVg11 ?_
  have hOld23 := hVg11
  intro w22 hVg11 hGw22
  change Own _ _ _ _ _ _ _ [.bool (qneg (qa)), .slice A16 m17 c18, .slice A19 m20 c21] at hVg11
  have hB := ext_own hB hGw22 (fun g hg => (hOld23.bl_ge g hg).1)
  have hVg13 := hVg13.grown hGw22 (apart (by omega))
  have htn := htn.grown hGw22 (ap_row (by first | exact hap_htn_g11 | exact ap_type htn hOld23 (by decide)))
  have htd := htd.grown hGw22 (ap_row (by first | exact hap_htd_g11 | exact ap_type htd hOld23 (by decide)))
  refine WL.done ?_
  refine W.seq ?_
  refine W.seq ?_
  refine W.region ?_
  refine WL.move rfl rfl ?_
  refine WL.lss rfl rfl rfl (fun c24 => ?_) (fun c24 => ?_)
  · refine WL.done ?_
    refine W.condT rfl ?_
    refine W.seq ?_
    refine W.seq ?_
    refine W.region ?_
    refine WL.fieldA (off := 1) Try.fla31_1 rfl rfl ?_
    refine WL.load Try.underlying23 rfl rfl (hVg11.vcells 1 _ rfl) rfl ?_
    refine WL.len Try.underlying23 rfl rfl ?_
    refine WL.eql rfl rfl rfl (fun c25 => ?_) (fun c25 => ?_)
    · exfalso
      have h9 := rdigs_len0 (n := qnum qa)
      have h8 := htn.rd.ulen
      exact hq0 (qnum_eq_zero.1 (rdigs_len0.1 (by omega)))
    · refine WL.done ?_
      refine W.condF rfl ?_
      refine W.skip ?_
      refine W.region ?_
      refine WL.loadV (cs := [.bool (qneg (qa)), .slice A16 m17 c18, .slice A19 m20 c21]) Try.el31 Try.agg31 rfl rfl hVg11.vcells rfl ?_
      refine WL.call Try.func75 rfl Try.nm75 rfl rfl (rqInv_c htn.rd htd.rd (digs_lim _) (digs_lim _) qa (val_canon _) (by omega)) ?_
      rintro _ w26 ⟨A27, m28, c29, A30, m31, c32, rfl, hGw26, hin, hid, him⟩
      have hap_hin_g11 := ap_new hin (hVg11.bl_ge _ rfl).2
      have hap_hid_g11 := ap_new hid (hVg11.bl_ge _ rfl).2
      have hin := hin.low (b' := w.heap.size) hB.size
      have hid := hid.low (b' := w.heap.size) hB.size
      have hB := ext_trans hB hGw26
      have hVg13 := hVg13.ext hGw26
      have hVg11 := hVg11.ext hGw26
      have hin_l := hin.rd.ulen
      have hid_l := hid.rd.ulen
      refine WL.storeV Try.el31 rfl rfl rfl rfl hVg11 ?_
      have hOld34 := hVg11
      intro w33 hVg11 hGw33
      change Own _ _ _ _ _ _ _ [.bool (qneg (qa)), .slice A27 m28 c29, .slice A30 m31 c32] at hVg11
      have hB := ext_own hB hGw33 (fun g hg => (hOld34.bl_ge g hg).1)
      have hVg13 := hVg13.grown hGw33 (apart (by omega))
      have hin := hin.grown hGw33 (ap_row (by first | exact hap_hin_g11 | exact ap_type hin hOld34 (by decide)))
      have hid := hid.grown hGw33 (ap_row (by first | exact hap_hid_g11 | exact ap_type hid hOld34 (by decide)))
      refine WL.done ?_
      refine W.seq ?_
      refine W.region ?_
      refine WL.move rfl rfl ?_
      refine WL.rem (r := (X.tmod 2)) rfl rfl (by omega) rfl rfl ?_
      refine WL.neq rfl rfl rfl (fun c35 => ?_) (fun c35 => ?_)
      · refine WL.assign rfl rfl ?_
        refine WL.done ?_
        refine W.seq ?_
        refine W.seq ?_
        refine W.region ?_
        refine WL.move rfl rfl ?_
        refine WL.lss rfl rfl rfl (fun c36 => ?_) (fun c36 => ?_)
        · refine WL.done ?_
          refine W.condT rfl ?_
          refine W.region ?_
          refine WL.move rfl rfl ?_
          refine WL.max2 (r := (max X (-4611686018427387904))) rfl rfl rfl rfl ?_
          refine WL.neg (r := ((crZ X : Nat) : Int)) rfl (wi64 (by omega) (by omega) (by unfold crZ; split <;> omega)) rfl ?_
          refine WL.assign rfl rfl ?_
          refine WL.done ?_
          refine W.seq ?_
          refine W.region ?_
          refine WL.fieldA (off := 1) Try.fla31_1 rfl rfl ?_
          refine WL.load Try.underlying23 rfl rfl (hVg11.vcells 1 _ rfl) rfl ?_
          refine WL.move rfl rfl ?_
          refine WL.call Try.func76 rfl Try.nm76 rfl rfl (rPowD_err hin.rd (digs_lim _) qa.den (nv_digs _) (crZ X) (by omega) (by omega) (by omega) k1) ?_
          rintro _ w37 ⟨rfl, hGw37⟩
          have hB := ext_trans hB hGw37
          have hVg13 := hVg13.ext hGw37
          have hid := hid.ext hGw37
          have hVg11 := hVg11.ext hGw37
          refine WL.move rfl rfl ?_
          refine WL.extract rfl rfl rfl ?_
          refine WL.extract rfl rfl rfl ?_
          refine WL.assign rfl rfl ?_
          refine WL.assign rfl rfl ?_
          refine WL.done ?_
          refine W.seq ?_
          refine W.region ?_
          refine WL.fieldA (off := 2) Try.fla31_2 rfl rfl ?_
          refine WL.load Try.underlying23 rfl rfl (hVg11.vcells 2 _ rfl) rfl ?_
          refine WL.move rfl rfl ?_
          refine WL.call Try.func76 rfl Try.nm76 rfl rfl (rPowD_err hid.rd (digs_lim _) (qnum qa) (nv_digs _) (crZ X) (by omega) (by omega) (by omega) k2) ?_
          rintro _ w38 ⟨rfl, hGw38⟩
          have hB := ext_trans hB hGw38
          have hVg13 := hVg13.ext hGw38
          refine WL.move rfl rfl ?_
          refine WL.extract rfl rfl rfl ?_
          refine WL.extract rfl rfl rfl ?_
          refine WL.assign rfl rfl ?_
          refine WL.assign rfl rfl ?_
          refine WL.done ?_
          refine W.seq ?_
          refine W.seq ?_
          refine W.region ?_
          refine WL.move rfl rfl ?_
          refine WL.neq rfl rfl rfl (fun c39 => ?_) (fun c39 => ?_)
          · refine WL.move rfl rfl ?_
            refine WL.pass rfl rfl rfl ?_
            refine WL.pass rfl rfl rfl ?_
            refine WL.pick rfl rfl rfl ?_
            refine WL.done ?_
            refine W.condT rfl ?_
            refine W.seq ?_
            refine W.region ?_
            refine WL.build (cells := #[.bool false, .slice none 0 0, .slice none 0 0]) Try.bld31 rfl rfl rfl ?_
            refine WL.storeV Try.el31 rfl rfl rfl rfl hVg13 ?_
            have hOld41 := hVg13
            intro w40 hVg13 hGw40
            change Own _ _ _ _ _ _ _ [.bool false, .slice none 0 0, .slice none 0 0] at hVg13
            have hB := ext_own hB hGw40 (fun g hg => (hOld41.bl_ge g hg).1)
            refine WL.assign rfl rfl ?_
            refine WL.done ?_
            refine W.ret ?_
            refine ⟨[.agg #[.bool false, .slice none 0 0, .slice none 0 0], .int .i64 (8 : Int)], ⟨_, _, _, rfl, rfl, run_loadV (cs := [.bool false, .slice none 0 0, .slice none 0 0]) Try.el31 Try.agg31 rfl hVg13.vcells, ⟨_, _, rfl, rfl, rfl⟩⟩, ?_⟩
            exact ⟨rfl, hB⟩
          · exfalso
            omega
        · exfalso
          omega
      · refine WL.assign rfl rfl ?_
        refine WL.done ?_
        refine W.seq ?_
        refine W.seq ?_
        refine W.region ?_
        refine WL.move rfl rfl ?_
        refine WL.lss rfl rfl rfl (fun c42 => ?_) (fun c42 => ?_)
        · refine WL.done ?_
          refine W.condT rfl ?_
          refine W.region ?_
          refine WL.move rfl rfl ?_
          refine WL.max2 (r := (max X (-4611686018427387904))) rfl rfl rfl rfl ?_
          refine WL.neg (r := ((crZ X : Nat) : Int)) rfl (wi64 (by omega) (by omega) (by unfold crZ; split <;> omega)) rfl ?_
          refine WL.assign rfl rfl ?_
          refine WL.done ?_
          refine W.seq ?_
          refine W.region ?_
          refine WL.fieldA (off := 1) Try.fla31_1 rfl rfl ?_
          refine WL.load Try.underlying23 rfl rfl (hVg11.vcells 1 _ rfl) rfl ?_
          refine WL.move rfl rfl ?_
          refine WL.call Try.func76 rfl Try.nm76 rfl rfl (rPowD_err hin.rd (digs_lim _) qa.den (nv_digs _) (crZ X) (by omega) (by omega) (by omega) k1) ?_
          rintro _ w43 ⟨rfl, hGw43⟩
          have hB := ext_trans hB hGw43
          have hVg13 := hVg13.ext hGw43
          have hid := hid.ext hGw43
          have hVg11 := hVg11.ext hGw43
          refine WL.move rfl rfl ?_
          refine WL.extract rfl rfl rfl ?_
          refine WL.extract rfl rfl rfl ?_
          refine WL.assign rfl rfl ?_
          refine WL.assign rfl rfl ?_
          refine WL.done ?_
          refine W.seq ?_
          refine W.region ?_
          refine WL.fieldA (off := 2) Try.fla31_2 rfl rfl ?_
          refine WL.load Try.underlying23 rfl rfl (hVg11.vcells 2 _ rfl) rfl ?_
          refine WL.move rfl rfl ?_
          refine WL.call Try.func76 rfl Try.nm76 rfl rfl (rPowD_err hid.rd (digs_lim _) (qnum qa) (nv_digs _) (crZ X) (by omega) (by omega) (by omega) k2) ?_
          rintro _ w44 ⟨rfl, hGw44⟩
          have hB := ext_trans hB hGw44
          have hVg13 := hVg13.ext hGw44
          refine WL.move rfl rfl ?_
          refine WL.extract rfl rfl rfl ?_
          refine WL.extract rfl rfl rfl ?_
          refine WL.assign rfl rfl ?_
          refine WL.assign rfl rfl ?_
          refine WL.done ?_
          refine W.seq ?_
          refine W.seq ?_
          refine W.region ?_
          refine WL.move rfl rfl ?_
          refine WL.neq rfl rfl rfl (fun c45 => ?_) (fun c45 => ?_)
          · refine WL.move rfl rfl ?_
            refine WL.pass rfl rfl rfl ?_
            refine WL.pass rfl rfl rfl ?_
            refine WL.pick rfl rfl rfl ?_
            refine WL.done ?_
            refine W.condT rfl ?_
            refine W.seq ?_
            refine W.region ?_
            refine WL.build (cells := #[.bool false, .slice none 0 0, .slice none 0 0]) Try.bld31 rfl rfl rfl ?_
            refine WL.storeV Try.el31 rfl rfl rfl rfl hVg13 ?_
            have hOld47 := hVg13
            intro w46 hVg13 hGw46
            change Own _ _ _ _ _ _ _ [.bool false, .slice none 0 0, .slice none 0 0] at hVg13
            have hB := ext_own hB hGw46 (fun g hg => (hOld47.bl_ge g hg).1)
            refine WL.assign rfl rfl ?_
            refine WL.done ?_
            refine W.ret ?_
            refine ⟨[.agg #[.bool false, .slice none 0 0, .slice none 0 0], .int .i64 (8 : Int)], ⟨_, _, _, rfl, rfl, run_loadV (cs := [.bool false, .slice none 0 0, .slice none 0 0]) Try.el31 Try.agg31 rfl hVg13.vcells, ⟨_, _, rfl, rfl, rfl⟩⟩, ?_⟩
            exact ⟨rfl, hB⟩
          · exfalso
            omega
        · exfalso
          omega
  · exfalso
    omega

theorem qPow_z {w : World} {Ban : Nat} {Aan : Option Addr} {man can : Nat} {xan : List Nat} (han : Rd Ban w 1 Aan man can (us xan)) {Bad : Nat} {Aad : Option Addr} {mad cad : Nat} {xad : List Nat} (had : Rd Bad w 1 Aad mad cad (us xad)) {na : Bool} (hLan : Lim xan) (hLad : Lim xad) (qa : Rat) (hqa : val na (nv xan) (nv xad) = qa) (hsa : man ≤ 4194304 ∧ mad ≤ 4194304) {X : Int} (hX : -9223372036854775808 ≤ X ∧ X ≤ 9223372036854775807) (hsm : man ≤ 1000 ∧ mad ≤ 1000) (hsg : X < 0) (hq0 : qa = 0) :
    Calls Try.prog 40 #[.agg #[.bool na, .slice Aan man can, .slice Aad mad cad], .int .i64 X] w fun e w2 => ∃ v, e = .returned v ∧ (fun v w2 => v = .tuple #[.agg #[.bool false, .slice none 0 0, .slice none 0 0], .int .i64 7] ∧ w.grownBy w2 none) v w2 := by
  have han := han.norm
  have han_l := han.ulen
  have han_x := han.max
  simp only [maxLen] at han_x
  have han_c := han.cap
  have had := had.norm
  have had_l := had.ulen
  have had_x := had.max
  simp only [maxLen] at had_x
  have had_c := had.cap
  have han0 := han
  have had0 := had
  have hB := ext_refl w
  refine calls_of_Wc (vs := [.agg #[.bool na, .slice Aan man can, .slice Aad mad cad], .int .i64 X]) [.cell 4 31, .tmp 5] Try.func40 rfl rfl rfl rfl ?_
  refine W.seq ?_
  refine W.region ?_
  refine WL.box Try.el31 rfl rfl rfl ?_
  intro g11 w12 hg_g11 hVg11 hGw12
  change Own _ _ _ _ _ _ _ [.bool na, .slice Aan man can, .slice Aad mad cad] at hVg11
  have hVg11 := hVg11.low (b' := w.heap.size) hB.size
  have hB := ext_trans hB hGw12
  have han := han0.ext hB
  have had := had0.ext hB
  refine WL.alloc Try.el31 rfl ?_
  intro g13 w14 hg_g13 hVg13 hGw14
  change Own _ _ _ _ _ _ _ [.bool false, .slice none 0 0, .slice none 0 0] at hVg13
  have hlt_g11_g13 : g11 < g13 := by rw [hg_g13]; exact (hVg11.bl_ge _ rfl).2
  have hVg13 := hVg13.low (b' := w.heap.size) hB.size
  have hB := ext_trans hB hGw14
  have han := han0.ext hB
  have had := had0.ext hB
  have hVg11 := hVg11.ext hGw14
  refine WL.assign rfl rfl ?_
  refine WL.done ?_
  refine W.seq ?_
  refine W.region ?_
  refine WL.loadV (cs := [.bool na, .slice Aan man can, .slice Aad mad cad]) Try.el31 Try.agg31 rfl rfl hVg11.vcells rfl ?_
  refine WL.call Try.func19 rfl Try.nm19 rfl rfl (qTrim_c han had hLan hLad qa hqa (by omega)) ?_
  rintro _ w15 ⟨A16, m17, c18, A19, m20, c21, rfl, hGw15, htn, htd, htm⟩
  have hap_htn_g11 := ap_new htn (hVg11.bl_ge _ rfl).2
  have hap_htd_g11 := ap_new htd (hVg11.bl_ge _ rfl).2
  have htn := htn.low (b' := w.heap.size) hB.size
  have htd := htd.low (b' := w.heap.size) hB.size
  have hB := ext_trans hB hGw15
  have hVg11 := hVg11.ext hGw15
  have hVg13 := hVg13.ext hGw15
  have htn_l := htn.rd.ulen
  have htd_l := htd.rd.ulen
  refine WL.storeV Try.el31 rfl rfl rfl rfl hVg11 ?_
  have hOld23 := hVg11
  intro w22 hVg11 hGw22
  change Own _ _ _ _ _ _ _ [.bool (qneg (qa)), .slice A16 m17 c18, .slice A19 m20 c21] at hVg11
  have hB := ext_own hB hGw22 (fun g hg => (hOld23.bl_ge g hg).1)
  have hVg13 := hVg13.grown hGw22 (apart (by omega))
  have htn := htn.grown hGw22 (ap_row (by first | exact hap_htn_g11 | exact ap_type htn hOld23 (by decide)))
  have htd := htd.grown hGw22 (ap_row (by first | exact hap_htd_g11 | exact ap_type htd hOld23 (by decide)))
  refine WL.done ?_
  refine W.seq ?_
  refine W.seq ?_
  refine W.region ?_
  refine WL.move rfl rfl ?_
  refine WL.lss rfl rfl rfl (fun c24 => ?_) (fun c24 => ?_)
  · refine WL.done ?_
    refine W.condT rfl ?_
    refine W.seq ?_
    refine W.seq ?_
    refine W.region ?_
    refine WL.loadV (cs := [.bool (qneg (qa)), .slice A16 m17 c18, .slice A19 m20 c21]) Try.el31 Try.agg31 rfl rfl hVg11.vcells rfl ?_
    refine WL.call Try.func50 rfl Try.nm50 rfl rfl (isZero_c htn.rd htd.rd (digs_lim _) (digs_lim _) qa (val_canon _) (by omega)) ?_
    rintro _ w25 ⟨bz0, rfl, hGw25, z0_t, z0_f⟩
    have hB := ext_trans hB hGw25
    have hVg13 := hVg13.ext hGw25
    rcases bz0 with _ | _
    · exfalso
      have z0 := z0_f rfl
      rw [nv_digs] at z0; exact z0.1 (by rw [hq0]; rfl)
    · have z0 := z0_t rfl
      refine WL.done ?_
      refine W.condT rfl ?_
      refine W.seq ?_
      refine W.region ?_
      refine WL.build (cells := #[.bool false, .slice none 0 0, .slice none 0 0]) Try.bld31 rfl rfl rfl ?_
      refine WL.storeV Try.el31 rfl rfl rfl rfl hVg13 ?_
      have hOld27 := hVg13
      intro w26 hVg13 hGw26
      change Own _ _ _ _ _ _ _ [.bool false, .slice none 0 0, .slice none 0 0] at hVg13
      have hB := ext_own hB hGw26 (fun g hg => (hOld27.bl_ge g hg).1)
      refine WL.assign rfl rfl ?_
      refine WL.done ?_
      refine W.ret ?_
      refine ⟨[.agg #[.bool false, .slice none 0 0, .slice none 0 0], .int .i64 (7 : Int)], ⟨_, _, _, rfl, rfl, run_loadV (cs := [.bool false, .slice none 0 0, .slice none 0 0]) Try.el31 Try.agg31 rfl hVg13.vcells, ⟨_, _, rfl, rfl, rfl⟩⟩, ?_⟩
      exact ⟨rfl, hB⟩
  · exfalso
    omega

theorem rqPow_z {w : World} {Ban : Nat} {Aan : Option Addr} {man can : Nat} {xan : List Nat} (han : Rd Ban w 1 Aan man can (us xan)) {Bad : Nat} {Aad : Option Addr} {mad cad : Nat} {xad : List Nat} (had : Rd Bad w 1 Aad mad cad (us xad)) {na : Bool} (hLan : Lim xan) (hLad : Lim xad) (qa : Rat) (hqa : val na (nv xan) (nv xad) = qa) (hsa : man ≤ 4194304 ∧ mad ≤ 4194304) {X : Int} (hX : -9223372036854775808 ≤ X ∧ X ≤ 9223372036854775807) (hsm : man ≤ 1000 ∧ mad ≤ 1000) (hsg : X < 0) (hq0 : qa = 0) :
    Calls Try.prog 41 #[.agg #[.bool na, .slice Aan man can, .slice Aad mad cad], .int .i64 X] w fun e w2 => ∃ v, e = .returned v ∧ (fun v w2 => v = .tuple #[.agg #[.bool false, .slice none 0 0, .slice none 0 0], .int .i64 7] ∧ w.grownBy w2 none) v w2 := by
  have han := han.norm
  have han_l := han.ulen
  have han_x := han.max
  simp only [maxLen] at han_x
  have han_c := han.cap
  have had := had.norm
  have had_l := had.ulen
  have had_x := had.max
  simp only [maxLen] at had_x
  have had_c := had.cap
  have han0 := han
  have had0 := had
  have hB := ext_refl w
  refine calls_of_Wc (vs := [.agg #[.bool na, .slice Aan man can, .slice Aad mad cad], .int .i64 X]) [.cell 4 31, .tmp 5] Try.func41 rfl rfl rfl rfl ?_
  refine W.seq ?_
  refine W.region ?_
  refine WL.box Try.el31 rfl rfl rfl ?_
  intro g11 w12 hg_g11 hVg11 hGw12
  change Own _ _ _ _ _ _ _ [.bool na, .slice Aan man can, .slice Aad mad cad] at hVg11
  have hVg11 := hVg11.low (b' := w.heap.size) hB.size
  have hB := ext_trans hB hGw12
  have han := han0.ext hB
  have had := had0.ext hB
  refine WL.alloc Try.el31 rfl ?_
  intro g13 w14 hg_g13 hVg13 hGw14
  change Own _ _ _ _ _ _ _ [.bool false, .slice none 0 0, .slice none 0 0] at hVg13
  have hlt_g11_g13 : g11 < g13 := by rw [hg_g13]; exact (hVg11.bl_ge _ rfl).2
  have hVg13 := hVg13.low (b' := w.heap.size) hB.size
  have hB := ext_trans hB hGw14
  have han := han0.ext hB
  have had := had0.ext hB
  have hVg11 := hVg11.ext hGw14
  refine WL.assign rfl rfl ?_
  refine WL.done ?_
  refine W.seq ?_
  refine W.region ?_
  refine WL.loadV (cs := [.bool na, .slice Aan man can, .slice Aad mad cad]) Try.el31 Try.agg31 rfl rfl hVg11.vcells rfl ?_
  refine WL.call Try.func20 rfl Try.nm20 rfl rfl (rqTrim_c han had hLan hLad qa hqa (by omega)) ?_
  rintro _ w15 ⟨A16, m17, c18, A19, m20, c21, rfl, hGw15, htn, htd, htm⟩
  have hap_htn_g11 := ap_new htn (hVg11.bl_ge _ rfl).2
  have htn := htn.low (b' := w.heap.size) hB.size
  have htd := htd.low (b' := w.heap.size) hB.size
  have hB := ext_trans hB hGw15
  have hVg11 := hVg11.ext hGw15
  have hVg13 := hVg13.ext hGw15
  have htn_l := htn.rd.ulen
  have htd_l := htd.rd.ulen
  refine WL.storeV Try.el31 rfl rfl rfl rfl hVg11 ?_
  have hOld23 := hVg11
  intro w22 hVg11 hGw22
  change Own _ _ _ _ _ _ _ [.bool (qneg (qa)), .slice A16 m17 c18, .slice A19 m20 c21] at hVg11
  have hB := ext_own hB hGw22 (fun g hg => (hOld23.bl_ge g hg).1)
  have hVg13 := hVg13.grown hGw22 (apart (by omega))
  have htn := htn.grown hGw22 (ap_row (by first | exact hap_htn_g11 | exact ap_type htn hOld23 (by decide)))
  refine WL.done ?_
  refine W.seq ?_
  refine W.seq ?_
  refine W.region ?_
  refine WL.move rfl rfl ?_
  refine WL.lss rfl rfl rfl (fun c24 => ?_) (fun c24 => ?_)
  · refine WL.done ?_
    refine W.condT rfl ?_
    refine W.seq ?_
    refine W.seq ?_
    refine W.region ?_
    refine WL.fieldA (off := 1) Try.fla31_1 rfl rfl ?_
    refine WL.load Try.underlying23 rfl rfl (hVg11.vcells 1 _ rfl) rfl ?_
    refine WL.len Try.underlying23 rfl rfl ?_
    refine WL.eql rfl rfl rfl (fun c25 => ?_) (fun c25 => ?_)
    · refine WL.done ?_
      refine W.condT rfl ?_
      refine W.seq ?_
      refine W.region ?_
      refine WL.build (cells := #[.bool false, .slice none 0 0, .slice none 0 0]) Try.bld31 rfl rfl rfl ?_
      refine WL.storeV Try.el31 rfl rfl rfl rfl hVg13 ?_
      have hOld27 := hVg13
      intro w26 hVg13 hGw26
      change Own _ _ _ _ _ _ _ [.bool false, .slice none 0 0, .slice none 0 0] at hVg13
      have hB := ext_own hB hGw26 (fun g hg => (hOld27.bl_ge g hg).1)
      refine WL.assign rfl rfl ?_
      refine WL.done ?_
      refine W.ret ?_
      refine ⟨[.agg #[.bool false, .slice none 0 0, .slice none 0 0], .int .i64 (7 : Int)], ⟨_, _, _, rfl, rfl, run_loadV (cs := [.bool false, .slice none 0 0, .slice none 0 0]) Try.el31 Try.agg31 rfl hVg13.vcells, ⟨_, _, rfl, rfl, rfl⟩⟩, ?_⟩
      exact ⟨rfl, hB⟩
    · exfalso
      have h8 := htn.rd.ulen
      rw [hq0] at h8
      have h9 := rdigs_len0.2 (show qnum 0 = 0 from rfl)
      omega
  · exfalso
    omega
end Go.Proofs.Ythfpcebcfjlkmab
