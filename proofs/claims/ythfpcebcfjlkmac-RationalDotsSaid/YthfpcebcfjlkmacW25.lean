/- Contracts of functions of the program, and what they lean on. -/
import Derived.Test.YthfpcebcfjlkmacW22
set_option linter.unusedSimpArgs false
set_option linter.unusedVariables false
namespace Go.Proofs.Ythfpcebcfjlkmac
open Go.RowKit
theorem q_mul (a b : Rat) : val (qneg a != qneg b) (qnum a * qnum b) (a.den * b.den) = a * b := by rw [← val_mul, val_q, val_q]
theorem q_add_same {a b : Rat} (h : qneg a = qneg b) : val (qneg a) (qnum a * b.den + qnum b * a.den) (a.den * b.den) = a + b := by
  rw [← val_add_same a.den_nz b.den_nz h, val_q, val_q]
theorem q_add_gt {a b : Rat} (h : qneg a ≠ qneg b) (hle : qnum b * a.den ≤ qnum a * b.den) : val (qneg a) (qnum a * b.den - qnum b * a.den) (a.den * b.den) = a + b := by
  rw [← val_add_gt a.den_nz b.den_nz h hle, val_q, val_q]
theorem q_add_lt {a b : Rat} (h : qneg a ≠ qneg b) (hle : qnum a * b.den ≤ qnum b * a.den) : val (qneg b) (qnum b * a.den - qnum a * b.den) (a.den * b.den) = a + b := by
  rw [← val_add_lt a.den_nz b.den_nz h hle, val_q, val_q]

theorem rqMul_c {w : World} {Ban : Nat} {Aan : Option Addr} {man can : Nat} {xan : List Nat} (han : Rd Ban w 1 Aan man can (us xan)) {Bad : Nat} {Aad : Option Addr} {mad cad : Nat} {xad : List Nat} (had : Rd Bad w 1 Aad mad cad (us xad)) {Bbn : Nat} {Abn : Option Addr} {mbn cbn : Nat} {xbn : List Nat} (hbn : Rd Bbn w 1 Abn mbn cbn (us xbn)) {Bbd : Nat} {Abd : Option Addr} {mbd cbd : Nat} {xbd : List Nat} (hbd : Rd Bbd w 1 Abd mbd cbd (us xbd)) {na : Bool} (hLan : Lim xan) (hLad : Lim xad) (qa : Rat) (hqa : val na (nv xan) (nv xad) = qa) {nb : Bool} (hLbn : Lim xbn) (hLbd : Lim xbd) (qb : Rat) (hqb : val nb (nv xbn) (nv xbd) = qb) (hsa : man ≤ 4194304 ∧ mad ≤ 4194304) (hsb : mbn ≤ 4194304 ∧ mbd ≤ 4194304) :
    Calls Try.prog 42 #[.agg #[.bool na, .slice Aan man can, .slice Aad mad cad], .agg #[.bool nb, .slice Abn mbn cbn, .slice Abd mbd cbd]] w fun e w2 => ∃ v, e = .returned v ∧ (fun v w2 => ∃ A2 m2 c2 A3 m3 c3, v = .agg #[.bool (qneg (qa * qb)), .slice A2 m2 c2, .slice A3 m3 c3] ∧ w.grownBy w2 none ∧ Own w.heap.size w2 48 1 A2 m2 c2 (us (digs (qnum (qa * qb)))) ∧ Own w.heap.size w2 48 1 A3 m3 c3 (us (digs (Rat.den (qa * qb)))) ∧ m2 ≤ man + mbn ∧ m3 ≤ mad + mbd + 3) v w2 := by
  have han := han.norm
  have han_l := han.ulen
  have han_x := han.max
  simp only [maxLen] at han_x
  have han_c := han.cap
  have had := had.norm
  have had_l := had.ulen
  have had_x := had.max
  simp only [maxLen] at had_x
  have had_c := had.cap
  have hbn := hbn.norm
  have hbn_l := hbn.ulen
  have hbn_x := hbn.max
  simp only [maxLen] at hbn_x
  have hbn_c := hbn.cap
  have hbd := hbd.norm
  have hbd_l := hbd.ulen
  have hbd_x := hbd.max
  simp only [maxLen] at hbd_x
  have hbd_c := hbd.cap
  have han0 := han
  have had0 := had
  have hbn0 := hbn
  have hbd0 := hbd
  have hB := ext_refl w
  refine calls_of_Wc (vs := [.agg #[.bool na, .slice Aan man can, .slice Aad mad cad], .agg #[.bool nb, .slice Abn mbn cbn, .slice Abd mbd cbd]]) [.cell 4 25] Try.func42 rfl rfl rfl rfl ?_
  refine W.seq ?_
  refine W.region ?_
  refine WL.box Try.el25 rfl rfl rfl ?_
  intro g11 w12 hg_g11 hVg11 hGw12
  change Own _ _ _ _ _ _ _ [.bool na, .slice Aan man can, .slice Aad mad cad] at hVg11
  have hVg11 := hVg11.low (b' := w.heap.size) hB.size
  have hB := ext_trans hB hGw12
  have han := han0.ext hB
  have had := had0.ext hB
  have hbn := hbn0.ext hB
  have hbd := hbd0.ext hB
  refine WL.box Try.el25 rfl rfl rfl ?_
  intro g13 w14 hg_g13 hVg13 hGw14
  change Own _ _ _ _ _ _ _ [.bool nb, .slice Abn mbn cbn, .slice Abd mbd cbd] at hVg13
  have hlt_g11_g13 : g11 < g13 := by rw [hg_g13]; exact (hVg11.bl_ge _ rfl).2
  have hVg13 := hVg13.low (b' := w.heap.size) hB.size
  have hB := ext_trans hB hGw14
  have han := han0.ext hB
  have had := had0.ext hB
  have hbn := hbn0.ext hB
  have hbd := hbd0.ext hB
  have hVg11 := hVg11.ext hGw14
  refine WL.alloc Try.el25 rfl ?_
  intro g15 w16 hg_g15 hVg15 hGw16
  change Own _ _ _ _ _ _ _ [.bool false, .slice none 0 0, .slice none 0 0] at hVg15
  have hlt_g11_g15 : g11 < g15 := by rw [hg_g15]; exact (hVg11.bl_ge _ rfl).2
  have hlt_g13_g15 : g13 < g15 := by rw [hg_g15]; exact (hVg13.bl_ge _ rfl).2
  have hVg15 := hVg15.low (b' := w.heap.size) hB.size
  have hB := ext_trans hB hGw16
  have han := han0.ext hB
  have had := had0.ext hB
  have hbn := hbn0.ext hB
  have hbd := hbd0.ext hB
  have hVg11 := hVg11.ext hGw16
  have hVg13 := hVg13.ext hGw16
  refine WL.done ?_
  refine W.seq ?_
  refine W.region ?_
  refine WL.loadV (cs := [.bool na, .slice Aan man can, .slice Aad mad cad]) Try.el25 Try.agg25 rfl rfl hVg11.vcells rfl ?_
  refine WL.call Try.func27 rfl Try.nm27 rfl rfl (rqTrim_c han had hLan hLad qa hqa (by omega)) ?_
  rintro _ w17 ⟨A18, m19, c20, A21, m22, c23, rfl, hGw17, tan, tad, tam⟩
  have hap_tan_g11 := ap_new tan (hVg11.bl_ge _ rfl).2
  have hap_tan_g13 := ap_new tan (hVg13.bl_ge _ rfl).2
  have hap_tad_g11 := ap_new tad (hVg11.bl_ge _ rfl).2
  have hap_tad_g13 := ap_new tad (hVg13.bl_ge _ rfl).2
  have tan := tan.low (b' := w.heap.size) hB.size
  have tad := tad.low (b' := w.heap.size) hB.size
  have hB := ext_trans hB hGw17
  have hbn := hbn0.ext hB
  have hbd := hbd0.ext hB
  have hVg11 := hVg11.ext hGw17
  have hVg13 := hVg13.ext hGw17
  have hVg15 := hVg15.ext hGw17
  have tan_l := tan.rd.ulen
  have tad_l := tad.rd.ulen
  refine WL.storeV Try.el25 rfl rfl rfl rfl hVg11 ?_
  have hOld25 := hVg11
  intro w24 hVg11 hGw24
  change Own _ _ _ _ _ _ _ [.bool (qneg (qa)), .slice A18 m19 c20, .slice A21 m22 c23] at hVg11
  have hB := ext_own hB hGw24 (fun g hg => (hOld25.bl_ge g hg).1)
  have hbn := hbn0.ext hB
  have hbd := hbd0.ext hB
  have hVg13 := hVg13.grown hGw24 (apart (by omega))
  have hVg15 := hVg15.grown hGw24 (apart (by omega))
  have tan := tan.grown hGw24 (ap_row hap_tan_g11)
  have tad := tad.grown hGw24 (ap_row hap_tad_g11)
  refine WL.done ?_
  refine W.seq ?_
  refine W.region ?_
  refine WL.loadV (cs := [.bool nb, .slice Abn mbn cbn, .slice Abd mbd cbd]) Try.el25 Try.agg25 rfl rfl hVg13.vcells rfl ?_
  refine WL.call Try.func27 rfl Try.nm27 rfl rfl (rqTrim_c hbn hbd hLbn hLbd qb hqb (by omega)) ?_
  rintro _ w26 ⟨A27, m28, c29, A30, m31, c32, rfl, hGw26, tbn, tbd, tbm⟩
  have hap_tbn_g13 := ap_new tbn (hVg13.bl_ge _ rfl).2
  have hap_tbd_g13 := ap_new tbd (hVg13.bl_ge _ rfl).2
  have tbn := tbn.low (b' := w.heap.size) hB.size
  have tbd := tbd.low (b' := w.heap.size) hB.size
  have hB := ext_trans hB hGw26
  have hVg13 := hVg13.ext hGw26
  have hVg15 := hVg15.ext hGw26
  have tan := tan.ext hGw26
  have tad := tad.ext hGw26
  have hVg11 := hVg11.ext hGw26
  have tbn_l := tbn.rd.ulen
  have tbd_l := tbd.rd.ulen
  refine WL.storeV Try.el25 rfl rfl rfl rfl hVg13 ?_
  have hOld34 := hVg13
  intro w33 hVg13 hGw33
  change Own _ _ _ _ _ _ _ [.bool (qneg (qb)), .slice A27 m28 c29, .slice A30 m31 c32] at hVg13
  have hB := ext_own hB hGw33 (fun g hg => (hOld34.bl_ge g hg).1)
  have hVg15 := hVg15.grown hGw33 (apart (by omega))
  have tan := tan.grown hGw33 (ap_row hap_tan_g13)
  have tad := tad.grown hGw33 (ap_row hap_tad_g13)
  have hVg11 := hVg11.grown hGw33 (apart (by omega))
  have tbn := tbn.grown hGw33 (ap_row hap_tbn_g13)
  have tbd := tbd.grown hGw33 (ap_row hap_tbd_g13)
  refine WL.done ?_
  refine W.seq ?_
  refine W.drawT 15 [⟨[], [2], true⟩, ⟨[0], [], false⟩, ⟨[], [3], true⟩, ⟨[2], [], false⟩, ⟨[1, 3], [], true⟩, ⟨[], [2], true⟩, ⟨[5], [], false⟩, ⟨[], [3], true⟩, ⟨[7], [], false⟩, ⟨[6, 8], [], false⟩, ⟨[], [2], true⟩, ⟨[10], [], false⟩, ⟨[], [3], true⟩, ⟨[12], [], false⟩, ⟨[11, 13], [], false⟩] [[(2, .pointer (some ⟨g11, 0, none⟩))], [], [(3, .pointer (some ⟨g13, 0, none⟩))], [], [], [(2, .pointer (some ⟨g11, 0, none⟩))], [], [(3, .pointer (some ⟨g13, 0, none⟩))], [], [], [(2, .pointer (some ⟨g11, 0, none⟩))], [], [(3, .pointer (some ⟨g13, 0, none⟩))], [], []] (fun iQ => [fun v wQ => v = .pointer (some ((⟨g11, 0, none⟩ : Addr).add 0)), fun v wQ => v = .bool (qneg (qa)), fun v wQ => v = .pointer (some ((⟨g13, 0, none⟩ : Addr).add 0)), fun v wQ => v = .bool (qneg (qb)), fun v wQ => v = .bool ((qneg (qa)) != (qneg (qb))), fun v wQ => v = .pointer (some ((⟨g11, 0, none⟩ : Addr).add 1)), fun v wQ => v = .slice A18 m19 c20, fun v wQ => v = .pointer (some ((⟨g13, 0, none⟩ : Addr).add 1)), fun v wQ => v = .slice A27 m28 c29, fun v wQ => ∃ A46 m47 c48, v = .slice A46 m47 c48 ∧ (Own w.heap.size wQ 48 1 A46 m47 c48 (us (digs (nv (digs (qnum (qa))) * nv (digs (qnum (qb))))))) ∧ (m47 ≤ m19 + m28) ∧ (∀ k, bl A46 = some k → k ≠ g11) ∧ (∀ k, bl A46 = some k → k ≠ g13) ∧ (∀ k, bl A46 = some k → k ≠ g15), fun v wQ => v = .pointer (some ((⟨g11, 0, none⟩ : Addr).add 2)), fun v wQ => v = .slice A21 m22 c23, fun v wQ => v = .pointer (some ((⟨g13, 0, none⟩ : Addr).add 2)), fun v wQ => v = .slice A30 m31 c32, fun v wQ => ∃ A55 m56 c57, v = .slice A55 m56 c57 ∧ (Own w.heap.size wQ 48 1 A55 m56 c57 (us (digs (nv (digs (Rat.den (qa))) * nv (digs (Rat.den (qb))))))) ∧ (m56 ≤ m22 + m31) ∧ (∀ k, bl A55 = some k → k ≠ g11) ∧ (∀ k, bl A55 = some k → k ≠ g13) ∧ (∀ k, bl A55 = some k → k ≠ g15)].getD iQ (fun _ _ => True)) Try.mixed (by kernel_rfl) ?_ ?_ ?_
  · refine Vs_monoT _ ?_
    intro VQ hVQ vQ wQ1 wQ2 hQ1 hQ2
    simp only [List.mem_cons, List.not_mem_nil, or_false] at hVQ
    rcases hVQ with rfl | rfl | rfl | rfl | rfl | rfl | rfl | rfl | rfl | rfl | rfl | rfl | rfl | rfl | rfl
    · exact hQ1
    · exact hQ1
    · exact hQ1
    · exact hQ1
    · exact hQ1
    · exact hQ1
    · exact hQ1
    · exact hQ1
    · exact hQ1
    · obtain ⟨A46, m47, c48, hQe, u1, u1m, hap_u1_g11, hap_u1_g13, hap_u1_g15⟩ := hQ1
      exact ⟨A46, m47, c48, hQe, u1.ext hQ2, u1m, hap_u1_g11, hap_u1_g13, hap_u1_g15⟩
    · exact hQ1
    · exact hQ1
    · exact hQ1
    · exact hQ1
    · obtain ⟨A55, m56, c57, hQe, u2, u2m, hap_u2_g11, hap_u2_g13, hap_u2_g15⟩ := hQ1
      exact ⟨A55, m56, c57, hQe, u2.ext hQ2, u2m, hap_u2_g11, hap_u2_g13, hap_u2_g15⟩
  · refine ⟨⟨rfl, ⟨rfl, trivial⟩, ?_⟩, ⟨rfl, trivial, ?_⟩, ⟨rfl, ⟨rfl, trivial⟩, ?_⟩, ⟨rfl, trivial, ?_⟩, ⟨rfl, trivial, ?_⟩, ⟨rfl, ⟨rfl, trivial⟩, ?_⟩, ⟨rfl, trivial, ?_⟩, ⟨rfl, ⟨rfl, trivial⟩, ?_⟩, ⟨rfl, trivial, ?_⟩, ⟨rfl, trivial, ?_⟩, ⟨rfl, ⟨rfl, trivial⟩, ?_⟩, ⟨rfl, trivial, ?_⟩, ⟨rfl, ⟨rfl, trivial⟩, ?_⟩, ⟨rfl, trivial, ?_⟩, ⟨rfl, trivial, ?_⟩, trivial⟩
    · intro w35 hE
      intro R
      refine WL.fieldA (off := 0) Try.fla25_0 rfl rfl ?_
      exact WL.done ⟨_, rfl, rfl, rfl⟩
    · intro w36 hE
      have hE := hE rfl
      have hB := ext_trans hB hE
      have hVg11 := hVg11.ext hE
      rintro _ rfl
      intro R
      refine WL.load Try.underlying4 rfl rfl (hVg11.vcells 0 _ rfl) rfl ?_
      exact WL.done ⟨_, rfl, ext_refl _, rfl⟩
    · intro w37 hE
      intro R
      refine WL.fieldA (off := 0) Try.fla25_0 rfl rfl ?_
      exact WL.done ⟨_, rfl, rfl, rfl⟩
    · intro w38 hE
      have hE := hE rfl
      have hB := ext_trans hB hE
      have hVg13 := hVg13.ext hE
      rintro _ rfl
      intro R
      refine WL.load Try.underlying4 rfl rfl (hVg13.vcells 0 _ rfl) rfl ?_
      exact WL.done ⟨_, rfl, ext_refl _, rfl⟩
    · intro w39 hE
      rintro _ rfl
      rintro _ rfl
      intro R
      refine WL.neqB (r := ((qneg (qa)) != (qneg (qb)))) rfl rfl Try.underlying4 rfl rfl ?_
      exact WL.done ⟨_, rfl, rfl, rfl⟩
    · intro w40 hE
      intro R
      refine WL.fieldA (off := 1) Try.fla25_1 rfl rfl ?_
      exact WL.done ⟨_, rfl, rfl, rfl⟩
    · intro w41 hE
      have hE := hE rfl
      have hB := ext_trans hB hE
      have hVg11 := hVg11.ext hE
      rintro _ rfl
      intro R
      refine WL.load Try.underlying23 rfl rfl (hVg11.vcells 1 _ rfl) rfl ?_
      exact WL.done ⟨_, rfl, ext_refl _, rfl⟩
    · intro w42 hE
      intro R
      refine WL.fieldA (off := 1) Try.fla25_1 rfl rfl ?_
      exact WL.done ⟨_, rfl, rfl, rfl⟩
    · intro w43 hE
      have hE := hE rfl
      have hB := ext_trans hB hE
      have hVg13 := hVg13.ext hE
      rintro _ rfl
      intro R
      refine WL.load Try.underlying23 rfl rfl (hVg13.vcells 1 _ rfl) rfl ?_
      exact WL.done ⟨_, rfl, ext_refl _, rfl⟩
    · intro w44 hE
      have hE := hE rfl
      have hB := ext_trans hB hE
      have hVg15 := hVg15.ext hE
      have tan := tan.ext hE
      have hVg11 := hVg11.ext hE
      have tbn := tbn.ext hE
      have hVg13 := hVg13.ext hE
      rintro _ rfl
      rintro _ rfl
      intro R
      refine WL.call Try.func66 rfl Try.nm66 rfl rfl (rMul_c tan.rd tbn.rd (digs_lim _) (digs_lim _) (by omega) (by omega)) ?_
      rintro _ w45 ⟨A46, m47, c48, rfl, hGw45, u1, u1m⟩
      have hap_u1_g11 := ap_new u1 (hVg11.bl_ge _ rfl).2
      have hap_u1_g13 := ap_new u1 (hVg13.bl_ge _ rfl).2
      have hap_u1_g15 := ap_new u1 (hVg15.bl_ge _ rfl).2
      have u1 := u1.low (b' := w.heap.size) hB.size
      have hB := ext_trans hB hGw45
      have u1_l := u1.rd.ulen
      exact WL.done ⟨_, rfl, hGw45, ⟨A46, m47, c48, rfl, u1, u1m, hap_u1_g11, hap_u1_g13, hap_u1_g15⟩⟩
    · intro w49 hE
      intro R
      refine WL.fieldA (off := 2) Try.fla25_2 rfl rfl ?_
      exact WL.done ⟨_, rfl, rfl, rfl⟩
    · intro w50 hE
      have hE := hE rfl
      have hB := ext_trans hB hE
      have hVg11 := hVg11.ext hE
      rintro _ rfl
      intro R
      refine WL.load Try.underlying23 rfl rfl (hVg11.vcells 2 _ rfl) rfl ?_
      exact WL.done ⟨_, rfl, ext_refl _, rfl⟩
    · intro w51 hE
      intro R
      refine WL.fieldA (off := 2) Try.fla25_2 rfl rfl ?_
      exact WL.done ⟨_, rfl, rfl, rfl⟩
    · intro w52 hE
      have hE := hE rfl
      have hB := ext_trans hB hE
      have hVg13 := hVg13.ext hE
      rintro _ rfl
      intro R
      refine WL.load Try.underlying23 rfl rfl (hVg13.vcells 2 _ rfl) rfl ?_
      exact WL.done ⟨_, rfl, ext_refl _, rfl⟩
    · intro w53 hE
      have hE := hE rfl
      have hB := ext_trans hB hE
      have hVg15 := hVg15.ext hE
      have tad := tad.ext hE
      have hVg11 := hVg11.ext hE
      have tbd := tbd.ext hE
      have hVg13 := hVg13.ext hE
      rintro _ rfl
      rintro _ rfl
      intro R
      refine WL.call Try.func66 rfl Try.nm66 rfl rfl (rMul_c tad.rd tbd.rd (digs_lim _) (digs_lim _) (by omega) (by omega)) ?_
      rintro _ w54 ⟨A55, m56, c57, rfl, hGw54, u2, u2m⟩
      have hap_u2_g11 := ap_new u2 (hVg11.bl_ge _ rfl).2
      have hap_u2_g13 := ap_new u2 (hVg13.bl_ge _ rfl).2
      have hap_u2_g15 := ap_new u2 (hVg15.bl_ge _ rfl).2
      have u2 := u2.low (b' := w.heap.size) hB.size
      have hB := ext_trans hB hGw54
      have u2_l := u2.rd.ulen
      exact WL.done ⟨_, rfl, hGw54, ⟨A55, m56, c57, rfl, u2, u2m, hap_u2_g11, hap_u2_g13, hap_u2_g15⟩⟩
  · intro vals w58 hT hVs
    have hB := ext_trans hB hT
    have hVg15 := hVg15.ext hT
    have hv0 : vals 0 = _ := hVs 0 (by decide)
    have hv1 : vals 1 = _ := hVs 1 (by decide)
    have hv2 : vals 2 = _ := hVs 2 (by decide)
    have hv3 : vals 3 = _ := hVs 3 (by decide)
    have hv4 : vals 4 = _ := hVs 4 (by decide)
    have hv5 : vals 5 = _ := hVs 5 (by decide)
    have hv6 : vals 6 = _ := hVs 6 (by decide)
    have hv7 : vals 7 = _ := hVs 7 (by decide)
    have hv8 : vals 8 = _ := hVs 8 (by decide)
    obtain ⟨A46, m47, c48, hv9, u1, u1m, hap_u1_g11, hap_u1_g13, hap_u1_g15⟩ := hVs 9 (by decide)
    have hv10 : vals 10 = _ := hVs 10 (by decide)
    have hv11 : vals 11 = _ := hVs 11 (by decide)
    have hv12 : vals 12 = _ := hVs 12 (by decide)
    have hv13 : vals 13 = _ := hVs 13 (by decide)
    obtain ⟨A55, m56, c57, hv14, u2, u2m, hap_u2_g11, hap_u2_g13, hap_u2_g15⟩ := hVs 14 (by decide)
    rw [show (List.filterMap (fun i => Option.map (fun t => (t, vals i)) (dstAt _ i)) (List.range _)) = [(9, .pointer (some ((⟨g11, 0, none⟩ : Addr).add 0))), (10, .bool (qneg (qa))), (11, .pointer (some ((⟨g13, 0, none⟩ : Addr).add 0))), (12, .bool (qneg (qb))), (13, .bool ((qneg (qa)) != (qneg (qb)))), (14, .pointer (some ((⟨g11, 0, none⟩ : Addr).add 1))), (15, .slice A18 m19 c20), (16, .pointer (some ((⟨g13, 0, none⟩ : Addr).add 1))), (17, .slice A27 m28 c29), (18, .slice A46 m47 c48), (19, .pointer (some ((⟨g11, 0, none⟩ : Addr).add 2))), (20, .slice A21 m22 c23), (21, .pointer (some ((⟨g13, 0, none⟩ : Addr).add 2))), (22, .slice A30 m31 c32), (23, .slice A55 m56 c57)] from by
      show [(9, vals 0), (10, vals 1), (11, vals 2), (12, vals 3), (13, vals 4), (14, vals 5), (15, vals 6), (16, vals 7), (17, vals 8), (18, vals 9), (19, vals 10), (20, vals 11), (21, vals 12), (22, vals 13), (23, vals 14)] = _
      rw [hv0, hv1, hv2, hv3, hv4, hv5, hv6, hv7, hv8, hv9, hv10, hv11, hv12, hv13, hv14]]
    refine WA.step [15] (by decide +kernel) rfl ?_
    intro iQ hQ
    simp only [List.mem_cons, List.not_mem_nil, or_false] at hQ
    obtain rfl := hQ
    · refine ⟨_, rfl, ?_⟩
      refine WL.call Try.func33 rfl Try.nm33 rfl rfl (rMake_c u1.rd u2.rd (digs_lim _) (digs_lim _) (by omega) (by omega) (qa * qb) (by simp only [nv_digs]; exact q_mul _ _)) ?_
      rintro _ w59 ⟨A60, m61, c62, A63, m64, c65, rfl, hGw59, hrn, hrd, hrm⟩
      have hap_hrn_g15 := ap_new hrn (hVg15.bl_ge _ rfl).2
      have hap_hrd_g15 := ap_new hrd (hVg15.bl_ge _ rfl).2
      have hrn := hrn.low (b' := w.heap.size) hB.size
      have hrd := hrd.low (b' := w.heap.size) hB.size
      have hB := ext_trans hB hGw59
      have hVg15 := hVg15.ext hGw59
      have hrn_l := hrn.rd.ulen
      have hrd_l := hrd.rd.ulen
      refine WL.done ?_
      refine WA.step [16] (by decide +kernel) rfl ?_
      intro iQ hQ
      simp only [List.mem_cons, List.not_mem_nil, or_false] at hQ
      obtain rfl := hQ
      · refine ⟨_, rfl, ?_⟩
        refine WL.storeV Try.el25 rfl rfl rfl rfl hVg15 ?_
        have hOld67 := hVg15
        intro w66 hVg15 hGw66
        change Own _ _ _ _ _ _ _ [.bool (qneg (qa * qb)), .slice A60 m61 c62, .slice A63 m64 c65] at hVg15
        have hB := ext_own hB hGw66 (fun g hg => (hOld67.bl_ge g hg).1)
        have hrn := hrn.grown hGw66 (ap_row hap_hrn_g15)
        have hrd := hrd.grown hGw66 (ap_row hap_hrd_g15)
        refine WL.done ?_
        refine WA.done (by decide +kernel) ?_
        refine W.ret ?_
        refine ⟨[.agg #[.bool (qneg (qa * qb)), .slice A60 m61 c62, .slice A63 m64 c65]], ⟨_, _, _, rfl, rfl, run_loadV (cs := [.bool (qneg (qa * qb)), .slice A60 m61 c62, .slice A63 m64 c65]) Try.el25 Try.agg25 rfl hVg15.vcells, rfl⟩, ?_⟩
        exact ⟨_, _, _, _, _, _, rfl, hB, hrn, hrd, by omega⟩

theorem rqAdd_c {w : World} {Ban : Nat} {Aan : Option Addr} {man can : Nat} {xan : List Nat} (han : Rd Ban w 1 Aan man can (us xan)) {Bad : Nat} {Aad : Option Addr} {mad cad : Nat} {xad : List Nat} (had : Rd Bad w 1 Aad mad cad (us xad)) {Bbn : Nat} {Abn : Option Addr} {mbn cbn : Nat} {xbn : List Nat} (hbn : Rd Bbn w 1 Abn mbn cbn (us xbn)) {Bbd : Nat} {Abd : Option Addr} {mbd cbd : Nat} {xbd : List Nat} (hbd : Rd Bbd w 1 Abd mbd cbd (us xbd)) {na : Bool} (hLan : Lim xan) (hLad : Lim xad) (qa : Rat) (hqa : val na (nv xan) (nv xad) = qa) {nb : Bool} (hLbn : Lim xbn) (hLbd : Lim xbd) (qb : Rat) (hqb : val nb (nv xbn) (nv xbd) = qb) (hsa : man ≤ 4194304 ∧ mad ≤ 4194304) (hsb : mbn ≤ 4194304 ∧ mbd ≤ 4194304) :
    Calls Try.prog 41 #[.agg #[.bool na, .slice Aan man can, .slice Aad mad cad], .agg #[.bool nb, .slice Abn mbn cbn, .slice Abd mbd cbd]] w fun e w2 => ∃ v, e = .returned v ∧ (fun v w2 => ∃ A2 m2 c2 A3 m3 c3, v = .agg #[.bool (qneg (qa + qb)), .slice A2 m2 c2, .slice A3 m3 c3] ∧ w.grownBy w2 none ∧ Own w.heap.size w2 48 1 A2 m2 c2 (us (digs (qnum (qa + qb)))) ∧ Own w.heap.size w2 48 1 A3 m3 c3 (us (digs (Rat.den (qa + qb)))) ∧ m2 ≤ max (man + mbd) (mbn + mad) + 3 ∧ m3 ≤ mad + mbd + 3) v w2 := by
  have han := han.norm
  have han_l := han.ulen
  have han_x := han.max
  simp only [maxLen] at han_x
  have han_c := han.cap
  have had := had.norm
  have had_l := had.ulen
  have had_x := had.max
  simp only [maxLen] at had_x
  have had_c := had.cap
  have hbn := hbn.norm
  have hbn_l := hbn.ulen
  have hbn_x := hbn.max
  simp only [maxLen] at hbn_x
  have hbn_c := hbn.cap
  have hbd := hbd.norm
  have hbd_l := hbd.ulen
  have hbd_x := hbd.max
  simp only [maxLen] at hbd_x
  have hbd_c := hbd.cap
  have han0 := han
  have had0 := had
  have hbn0 := hbn
  have hbd0 := hbd
  have hB := ext_refl w
  refine calls_of_Wc (vs := [.agg #[.bool na, .slice Aan man can, .slice Aad mad cad], .agg #[.bool nb, .slice Abn mbn cbn, .slice Abd mbd cbd]]) [.cell 4 25] Try.func41 rfl rfl rfl rfl ?_
  refine W.seq ?_
  refine W.region ?_
  refine WL.box Try.el25 rfl rfl rfl ?_
  intro g11 w12 hg_g11 hVg11 hGw12
  change Own _ _ _ _ _ _ _ [.bool na, .slice Aan man can, .slice Aad mad cad] at hVg11
  have hVg11 := hVg11.low (b' := w.heap.size) hB.size
  have hB := ext_trans hB hGw12
  have han := han0.ext hB
  have had := had0.ext hB
  have hbn := hbn0.ext hB
  have hbd := hbd0.ext hB
  refine WL.box Try.el25 rfl rfl rfl ?_
  intro g13 w14 hg_g13 hVg13 hGw14
  change Own _ _ _ _ _ _ _ [.bool nb, .slice Abn mbn cbn, .slice Abd mbd cbd] at hVg13
  have hlt_g11_g13 : g11 < g13 := by rw [hg_g13]; exact (hVg11.bl_ge _ rfl).2
  have hVg13 := hVg13.low (b' := w.heap.size) hB.size
  have hB := ext_trans hB hGw14
  have han := han0.ext hB
  have had := had0.ext hB
  have hbn := hbn0.ext hB
  have hbd := hbd0.ext hB
  have hVg11 := hVg11.ext hGw14
  refine WL.alloc Try.el25 rfl ?_
  intro g15 w16 hg_g15 hVg15 hGw16
  change Own _ _ _ _ _ _ _ [.bool false, .slice none 0 0, .slice none 0 0] at hVg15
  have hlt_g11_g15 : g11 < g15 := by rw [hg_g15]; exact (hVg11.bl_ge _ rfl).2
  have hlt_g13_g15 : g13 < g15 := by rw [hg_g15]; exact (hVg13.bl_ge _ rfl).2
  have hVg15 := hVg15.low (b' := w.heap.size) hB.size
  have hB := ext_trans hB hGw16
  have han := han0.ext hB
  have had := had0.ext hB
  have hbn := hbn0.ext hB
  have hbd := hbd0.ext hB
  have hVg11 := hVg11.ext hGw16
  have hVg13 := hVg13.ext hGw16
  refine WL.done ?_
  refine W.seq ?_
  refine W.region ?_
  refine WL.loadV (cs := [.bool na, .slice Aan man can, .slice Aad mad cad]) Try.el25 Try.agg25 rfl rfl hVg11.vcells rfl ?_
  refine WL.call Try.func27 rfl Try.nm27 rfl rfl (rqTrim_c han had hLan hLad qa hqa (by omega)) ?_
  rintro _ w17 ⟨A18, m19, c20, A21, m22, c23, rfl, hGw17, tan, tad, tam⟩
  have hap_tan_g11 := ap_new tan (hVg11.bl_ge _ rfl).2
  have hap_tan_g13 := ap_new tan (hVg13.bl_ge _ rfl).2
  have hap_tad_g11 := ap_new tad (hVg11.bl_ge _ rfl).2
  have hap_tad_g13 := ap_new tad (hVg13.bl_ge _ rfl).2
  have tan := tan.low (b' := w.heap.size) hB.size
  have tad := tad.low (b' := w.heap.size) hB.size
  have hB := ext_trans hB hGw17
  have hbn := hbn0.ext hB
  have hbd := hbd0.ext hB
  have hVg11 := hVg11.ext hGw17
  have hVg13 := hVg13.ext hGw17
  have hVg15 := hVg15.ext hGw17
  have tan_l := tan.rd.ulen
  have tad_l := tad.rd.ulen
  refine WL.storeV Try.el25 rfl rfl rfl rfl hVg11 ?_
  have hOld25 := hVg11
  intro w24 hVg11 hGw24
  change Own _ _ _ _ _ _ _ [.bool (qneg (qa)), .slice A18 m19 c20, .slice A21 m22 c23] at hVg11
  have hB := ext_own hB hGw24 (fun g hg => (hOld25.bl_ge g hg).1)
  have hbn := hbn0.ext hB
  have hbd := hbd0.ext hB
  have hVg13 := hVg13.grown hGw24 (apart (by omega))
  have hVg15 := hVg15.grown hGw24 (apart (by omega))
  have tan := tan.grown hGw24 (ap_row hap_tan_g11)
  have tad := tad.grown hGw24 (ap_row hap_tad_g11)
  refine WL.done ?_
  refine W.seq ?_
  refine W.region ?_
  refine WL.loadV (cs := [.bool nb, .slice Abn mbn cbn, .slice Abd mbd cbd]) Try.el25 Try.agg25 rfl rfl hVg13.vcells rfl ?_
  refine WL.call Try.func27 rfl Try.nm27 rfl rfl (rqTrim_c hbn hbd hLbn hLbd qb hqb (by omega)) ?_
  rintro _ w26 ⟨A27, m28, c29, A30, m31, c32, rfl, hGw26, tbn, tbd, tbm⟩
  have hap_tbn_g13 := ap_new tbn (hVg13.bl_ge _ rfl).2
  have hap_tbd_g13 := ap_new tbd (hVg13.bl_ge _ rfl).2
  have tbn := tbn.low (b' := w.heap.size) hB.size
  have tbd := tbd.low (b' := w.heap.size) hB.size
  have hB := ext_trans hB hGw26
  have hVg13 := hVg13.ext hGw26
  have hVg15 := hVg15.ext hGw26
  have tan := tan.ext hGw26
  have tad := tad.ext hGw26
  have hVg11 := hVg11.ext hGw26
  have tbn_l := tbn.rd.ulen
  have tbd_l := tbd.rd.ulen
  refine WL.storeV Try.el25 rfl rfl rfl rfl hVg13 ?_
  have hOld34 := hVg13
  intro w33 hVg13 hGw33
  change Own _ _ _ _ _ _ _ [.bool (qneg (qb)), .slice A27 m28 c29, .slice A30 m31 c32] at hVg13
  have hB := ext_own hB hGw33 (fun g hg => (hOld34.bl_ge g hg).1)
  have hVg15 := hVg15.grown hGw33 (apart (by omega))
  have tan := tan.grown hGw33 (ap_row hap_tan_g13)
  have tad := tad.grown hGw33 (ap_row hap_tad_g13)
  have hVg11 := hVg11.grown hGw33 (apart (by omega))
  have tbn := tbn.grown hGw33 (ap_row hap_tbn_g13)
  have tbd := tbd.grown hGw33 (ap_row hap_tbd_g13)
  refine WL.done ?_
  refine W.seq ?_
  refine W.region ?_
  refine WL.fieldA (off := 1) Try.fla25_1 rfl rfl ?_
  refine WL.load Try.underlying23 rfl rfl (hVg11.vcells 1 _ rfl) rfl ?_
  refine WL.fieldA (off := 2) Try.fla25_2 rfl rfl ?_
  refine WL.load Try.underlying23 rfl rfl (hVg13.vcells 2 _ rfl) rfl ?_
  refine WL.call Try.func66 rfl Try.nm66 rfl rfl (rMul_c tan.rd tbd.rd (digs_lim _) (digs_lim _) (by omega) (by omega)) ?_
  rintro _ w35 ⟨A36, m37, c38, rfl, hGw35, u1, u1m⟩
  have u1 := u1.low (b' := w.heap.size) hB.size
  have hB := ext_trans hB hGw35
  have hVg15 := hVg15.ext hGw35
  have tad := tad.ext hGw35
  have hVg11 := hVg11.ext hGw35
  have tbn := tbn.ext hGw35
  have tbd := tbd.ext hGw35
  have hVg13 := hVg13.ext hGw35
  have u1_l := u1.rd.ulen
  refine WL.assign rfl rfl ?_
  refine WL.done ?_
  refine W.seq ?_
  refine W.region ?_
  refine WL.fieldA (off := 1) Try.fla25_1 rfl rfl ?_
  refine WL.load Try.underlying23 rfl rfl (hVg13.vcells 1 _ rfl) rfl ?_
  refine WL.fieldA (off := 2) Try.fla25_2 rfl rfl ?_
  refine WL.load Try.underlying23 rfl rfl (hVg11.vcells 2 _ rfl) rfl ?_
  refine WL.call Try.func66 rfl Try.nm66 rfl rfl (rMul_c tbn.rd tad.rd (digs_lim _) (digs_lim _) (by omega) (by omega)) ?_
  rintro _ w39 ⟨A40, m41, c42, rfl, hGw39, u2, u2m⟩
  have u2 := u2.low (b' := w.heap.size) hB.size
  have hB := ext_trans hB hGw39
  have hVg15 := hVg15.ext hGw39
  have tad := tad.ext hGw39
  have hVg11 := hVg11.ext hGw39
  have tbd := tbd.ext hGw39
  have hVg13 := hVg13.ext hGw39
  have u1 := u1.ext hGw39
  have u2_l := u2.rd.ulen
  refine WL.assign rfl rfl ?_
  refine WL.done ?_
  refine W.seq ?_
  refine W.region ?_
  refine WL.fieldA (off := 2) Try.fla25_2 rfl rfl ?_
  refine WL.load Try.underlying23 rfl rfl (hVg11.vcells 2 _ rfl) rfl ?_
  refine WL.fieldA (off := 2) Try.fla25_2 rfl rfl ?_
  refine WL.load Try.underlying23 rfl rfl (hVg13.vcells 2 _ rfl) rfl ?_
  refine WL.call Try.func66 rfl Try.nm66 rfl rfl (rMul_c tad.rd tbd.rd (digs_lim _) (digs_lim _) (by omega) (by omega)) ?_
  rintro _ w43 ⟨A44, m45, c46, rfl, hGw43, u3, u3m⟩
  have u3 := u3.low (b' := w.heap.size) hB.size
  have hB := ext_trans hB hGw43
  have hVg15 := hVg15.ext hGw43
  have hVg11 := hVg11.ext hGw43
  have hVg13 := hVg13.ext hGw43
  have u1 := u1.ext hGw43
  have u2 := u2.ext hGw43
  have u3_l := u3.rd.ulen
  refine WL.assign rfl rfl ?_
  refine WL.done ?_
  refine W.seq ?_
  refine W.seq ?_
  refine W.region ?_
  refine WL.fieldA (off := 0) Try.fla25_0 rfl rfl ?_
  refine WL.load Try.underlying4 rfl rfl (hVg11.vcells 0 _ rfl) rfl ?_
  refine WL.fieldA (off := 0) Try.fla25_0 rfl rfl ?_
  refine WL.load Try.underlying4 rfl rfl (hVg13.vcells 0 _ rfl) rfl ?_
  refine WL.eqB (r := ((qneg (qa)) == (qneg (qb)))) rfl rfl Try.underlying4 rfl rfl ?_
  refine WL.done ?_
  refine W.cond2 rfl (fun c47 => ?_) (fun c47 => ?_)
  · skip
    have hsg : qneg qa = qneg qb := eq_of_beq c47
    refine W.seq ?_
    refine W.drawT 6 [⟨[], [2], true⟩, ⟨[0], [], false⟩, ⟨[], [5], true⟩, ⟨[], [6], true⟩, ⟨[2, 3], [], false⟩, ⟨[], [7], true⟩] [[(2, .pointer (some ⟨g11, 0, none⟩))], [], [(5, .slice A36 m37 c38)], [(6, .slice A40 m41 c42)], [], [(7, .slice A44 m45 c46)]] (fun iQ => [fun v wQ => v = .pointer (some ((⟨g11, 0, none⟩ : Addr).add 0)), fun v wQ => v = .bool (qneg (qa)), fun v wQ => v = .slice A36 m37 c38, fun v wQ => v = .slice A40 m41 c42, fun v wQ => ∃ A54 m55 c56, v = .slice A54 m55 c56 ∧ (Own w.heap.size wQ 48 1 A54 m55 c56 (us (digs (nv (digs (nv (digs (qnum (qa))) * nv (digs (Rat.den (qb))))) + nv (digs (nv (digs (qnum (qb))) * nv (digs (Rat.den (qa))))))))) ∧ (m55 ≤ max m37 m41 + 1) ∧ (∀ k, bl A54 = some k → k ≠ g11) ∧ (∀ k, bl A54 = some k → k ≠ g13) ∧ (∀ k, bl A54 = some k → k ≠ g15), fun v wQ => v = .slice A44 m45 c46].getD iQ (fun _ _ => True)) Try.mixed (by kernel_rfl) ?_ ?_ ?_
    · refine Vs_monoT _ ?_
      intro VQ hVQ vQ wQ1 wQ2 hQ1 hQ2
      simp only [List.mem_cons, List.not_mem_nil, or_false] at hVQ
      rcases hVQ with rfl | rfl | rfl | rfl | rfl | rfl
      · exact hQ1
      · exact hQ1
      · exact hQ1
      · exact hQ1
      · obtain ⟨A54, m55, c56, hQe, v1, v1m, hap_v1_g11, hap_v1_g13, hap_v1_g15⟩ := hQ1
        exact ⟨A54, m55, c56, hQe, v1.ext hQ2, v1m, hap_v1_g11, hap_v1_g13, hap_v1_g15⟩
      · exact hQ1
    · refine ⟨⟨rfl, ⟨rfl, trivial⟩, ?_⟩, ⟨rfl, trivial, ?_⟩, ⟨rfl, ⟨rfl, trivial⟩, ?_⟩, ⟨rfl, ⟨rfl, trivial⟩, ?_⟩, ⟨rfl, trivial, ?_⟩, ⟨rfl, ⟨rfl, trivial⟩, ?_⟩, trivial⟩
      · intro w48 hE
        intro R
        refine WL.fieldA (off := 0) Try.fla25_0 rfl rfl ?_
        exact WL.done ⟨_, rfl, rfl, rfl⟩
      · intro w49 hE
        have hE := hE rfl
        have hB := ext_trans hB hE
        have hVg11 := hVg11.ext hE
        rintro _ rfl
        intro R
        refine WL.load Try.underlying4 rfl rfl (hVg11.vcells 0 _ rfl) rfl ?_
        exact WL.done ⟨_, rfl, ext_refl _, rfl⟩
      · intro w50 hE
        intro R
        refine WL.move rfl rfl ?_
        exact WL.done ⟨_, rfl, rfl, rfl⟩
      · intro w51 hE
        intro R
        refine WL.move rfl rfl ?_
        exact WL.done ⟨_, rfl, rfl, rfl⟩
      · intro w52 hE
        have hE := hE rfl
        have hB := ext_trans hB hE
        have hVg15 := hVg15.ext hE
        have hVg11 := hVg11.ext hE
        have hVg13 := hVg13.ext hE
        have u1 := u1.ext hE
        have u2 := u2.ext hE
        rintro _ rfl
        rintro _ rfl
        intro R
        refine WL.call Try.func32 rfl Try.nm32 rfl rfl (rAdd_c u1.rd u2.rd (digs_lim _) (digs_lim _) (by omega) (by omega)) ?_
        rintro _ w53 ⟨A54, m55, c56, rfl, hGw53, v1, v1m⟩
        have hap_v1_g11 := ap_new v1 (hVg11.bl_ge _ rfl).2
        have hap_v1_g13 := ap_new v1 (hVg13.bl_ge _ rfl).2
        have hap_v1_g15 := ap_new v1 (hVg15.bl_ge _ rfl).2
        have v1 := v1.low (b' := w.heap.size) hB.size
        have hB := ext_trans hB hGw53
        have v1_l := v1.rd.ulen
        exact WL.done ⟨_, rfl, hGw53, ⟨A54, m55, c56, rfl, v1, v1m, hap_v1_g11, hap_v1_g13, hap_v1_g15⟩⟩
      · intro w57 hE
        intro R
        refine WL.move rfl rfl ?_
        exact WL.done ⟨_, rfl, rfl, rfl⟩
    · intro vals w58 hT hVs
      have hB := ext_trans hB hT
      have hVg15 := hVg15.ext hT
      have u3 := u3.ext hT
      have hv0 : vals 0 = _ := hVs 0 (by decide)
      have hv1 : vals 1 = _ := hVs 1 (by decide)
      have hv2 : vals 2 = _ := hVs 2 (by decide)
      have hv3 : vals 3 = _ := hVs 3 (by decide)
      obtain ⟨A54, m55, c56, hv4, v1, v1m, hap_v1_g11, hap_v1_g13, hap_v1_g15⟩ := hVs 4 (by decide)
      have hv5 : vals 5 = _ := hVs 5 (by decide)
      rw [show (List.filterMap (fun i => Option.map (fun t => (t, vals i)) (dstAt _ i)) (List.range _)) = [(32, .pointer (some ((⟨g11, 0, none⟩ : Addr).add 0))), (33, .bool (qneg (qa))), (34, .slice A36 m37 c38), (35, .slice A40 m41 c42), (36, .slice A54 m55 c56), (37, .slice A44 m45 c46)] from by
        show [(32, vals 0), (33, vals 1), (34, vals 2), (35, vals 3), (36, vals 4), (37, vals 5)] = _
        rw [hv0, hv1, hv2, hv3, hv4, hv5]]
      refine WA.step [6] (by decide +kernel) rfl ?_
      intro iQ hQ
      simp only [List.mem_cons, List.not_mem_nil, or_false] at hQ
      obtain rfl := hQ
      · refine ⟨_, rfl, ?_⟩
        refine WL.call Try.func33 rfl Try.nm33 rfl rfl (rMake_c v1.rd u3.rd (digs_lim _) (digs_lim _) (by omega) (by omega) (qa + qb) (by simp only [nv_digs]; exact q_add_same hsg)) ?_
        rintro _ w59 ⟨A60, m61, c62, A63, m64, c65, rfl, hGw59, hrn, hrd, hrm⟩
        have hap_hrn_g15 := ap_new hrn (hVg15.bl_ge _ rfl).2
        have hap_hrd_g15 := ap_new hrd (hVg15.bl_ge _ rfl).2
        have hrn := hrn.low (b' := w.heap.size) hB.size
        have hrd := hrd.low (b' := w.heap.size) hB.size
        have hB := ext_trans hB hGw59
        have hVg15 := hVg15.ext hGw59
        have hrn_l := hrn.rd.ulen
        have hrd_l := hrd.rd.ulen
        refine WL.done ?_
        refine WA.step [7] (by decide +kernel) rfl ?_
        intro iQ hQ
        simp only [List.mem_cons, List.not_mem_nil, or_false] at hQ
        obtain rfl := hQ
        · refine ⟨_, rfl, ?_⟩
          refine WL.storeV Try.el25 rfl rfl rfl rfl hVg15 ?_
          have hOld67 := hVg15
          intro w66 hVg15 hGw66
          change Own _ _ _ _ _ _ _ [.bool (qneg (qa + qb)), .slice A60 m61 c62, .slice A63 m64 c65] at hVg15
          have hB := ext_own hB hGw66 (fun g hg => (hOld67.bl_ge g hg).1)
          have hrn := hrn.grown hGw66 (ap_row hap_hrn_g15)
          have hrd := hrd.grown hGw66 (ap_row hap_hrd_g15)
          refine WL.done ?_
          refine WA.done (by decide +kernel) ?_
          refine W.ret ?_
          refine ⟨[.agg #[.bool (qneg (qa + qb)), .slice A60 m61 c62, .slice A63 m64 c65]], ⟨_, _, _, rfl, rfl, run_loadV (cs := [.bool (qneg (qa + qb)), .slice A60 m61 c62, .slice A63 m64 c65]) Try.el25 Try.agg25 rfl hVg15.vcells, rfl⟩, ?_⟩
          exact ⟨_, _, _, _, _, _, rfl, hB, hrn, hrd, by omega⟩
  · skip
    have hsg : qneg qa ≠ qneg qb := fun h => by rw [h] at c47; simp at c47
    refine W.skip ?_
    refine W.seq ?_
    refine W.seq ?_
    refine W.region ?_
    refine WL.move rfl rfl ?_
    refine WL.move rfl rfl ?_
    refine WL.call Try.func57 rfl Try.nm57 rfl rfl (rCmp_c u1.rd u2.rd (digs_lim _) (digs_lim _)) ?_
    rintro _ w68 ⟨rfl, hGw68⟩
    have hB := ext_trans hB hGw68
    have hVg15 := hVg15.ext hGw68
    have hVg11 := hVg11.ext hGw68
    have hVg13 := hVg13.ext hGw68
    have u1 := u1.ext hGw68
    have u2 := u2.ext hGw68
    have u3 := u3.ext hGw68
    simp only [nv_digs]
    have hcc := cmpI_cases (qnum qa * qb.den) (qnum qb * qa.den)
    refine WL.geq rfl rfl rfl (fun c69 => ?_) (fun c69 => ?_)
    · refine WL.done ?_
      refine W.condT rfl ?_
      refine W.seq ?_
      refine W.drawT 6 [⟨[], [2], true⟩, ⟨[0], [], false⟩, ⟨[], [5], true⟩, ⟨[], [6], true⟩, ⟨[2, 3], [], false⟩, ⟨[], [7], true⟩] [[(2, .pointer (some ⟨g11, 0, none⟩))], [], [(5, .slice A36 m37 c38)], [(6, .slice A40 m41 c42)], [], [(7, .slice A44 m45 c46)]] (fun iQ => [fun v wQ => v = .pointer (some ((⟨g11, 0, none⟩ : Addr).add 0)), fun v wQ => v = .bool (qneg (qa)), fun v wQ => v = .slice A36 m37 c38, fun v wQ => v = .slice A40 m41 c42, fun v wQ => ∃ A76 m77 c78, v = .slice A76 m77 c78 ∧ (Own w.heap.size wQ 48 1 A76 m77 c78 (us (digs (nv (digs (nv (digs (qnum (qa))) * nv (digs (Rat.den (qb))))) - nv (digs (nv (digs (qnum (qb))) * nv (digs (Rat.den (qa))))))))) ∧ (m77 ≤ m37) ∧ (∀ k, bl A76 = some k → k ≠ g11) ∧ (∀ k, bl A76 = some k → k ≠ g13) ∧ (∀ k, bl A76 = some k → k ≠ g15), fun v wQ => v = .slice A44 m45 c46].getD iQ (fun _ _ => True)) Try.mixed (by kernel_rfl) ?_ ?_ ?_
      · refine Vs_monoT _ ?_
        intro VQ hVQ vQ wQ1 wQ2 hQ1 hQ2
        simp only [List.mem_cons, List.not_mem_nil, or_false] at hVQ
        rcases hVQ with rfl | rfl | rfl | rfl | rfl | rfl
        · exact hQ1
        · exact hQ1
        · exact hQ1
        · exact hQ1
        · obtain ⟨A76, m77, c78, hQe, v1, v1m, hap_v1_g11, hap_v1_g13, hap_v1_g15⟩ := hQ1
          exact ⟨A76, m77, c78, hQe, v1.ext hQ2, v1m, hap_v1_g11, hap_v1_g13, hap_v1_g15⟩
        · exact hQ1
      · refine ⟨⟨rfl, ⟨rfl, trivial⟩, ?_⟩, ⟨rfl, trivial, ?_⟩, ⟨rfl, ⟨rfl, trivial⟩, ?_⟩, ⟨rfl, ⟨rfl, trivial⟩, ?_⟩, ⟨rfl, trivial, ?_⟩, ⟨rfl, ⟨rfl, trivial⟩, ?_⟩, trivial⟩
        · intro w70 hE
          intro R
          refine WL.fieldA (off := 0) Try.fla25_0 rfl rfl ?_
          exact WL.done ⟨_, rfl, rfl, rfl⟩
        · intro w71 hE
          have hE := hE rfl
          have hB := ext_trans hB hE
          have hVg11 := hVg11.ext hE
          rintro _ rfl
          intro R
          refine WL.load Try.underlying4 rfl rfl (hVg11.vcells 0 _ rfl) rfl ?_
          exact WL.done ⟨_, rfl, ext_refl _, rfl⟩
        · intro w72 hE
          intro R
          refine WL.move rfl rfl ?_
          exact WL.done ⟨_, rfl, rfl, rfl⟩
        · intro w73 hE
          intro R
          refine WL.move rfl rfl ?_
          exact WL.done ⟨_, rfl, rfl, rfl⟩
        · intro w74 hE
          have hE := hE rfl
          have hB := ext_trans hB hE
          have hVg15 := hVg15.ext hE
          have hVg11 := hVg11.ext hE
          have hVg13 := hVg13.ext hE
          have u1 := u1.ext hE
          have u2 := u2.ext hE
          rintro _ rfl
          rintro _ rfl
          intro R
          refine WL.call Try.func58 rfl Try.nm58 rfl rfl (rSub_c u1.rd u2.rd (digs_lim _) (digs_lim _) (by omega) (by simp only [nv_digs] at *; omega)) ?_
          rintro _ w75 ⟨A76, m77, c78, rfl, hGw75, v1, v1m⟩
          have hap_v1_g11 := ap_new v1 (hVg11.bl_ge _ rfl).2
          have hap_v1_g13 := ap_new v1 (hVg13.bl_ge _ rfl).2
          have hap_v1_g15 := ap_new v1 (hVg15.bl_ge _ rfl).2
          have v1 := v1.low (b' := w.heap.size) hB.size
          have hB := ext_trans hB hGw75
          have v1_l := v1.rd.ulen
          exact WL.done ⟨_, rfl, hGw75, ⟨A76, m77, c78, rfl, v1, v1m, hap_v1_g11, hap_v1_g13, hap_v1_g15⟩⟩
        · intro w79 hE
          intro R
          refine WL.move rfl rfl ?_
          exact WL.done ⟨_, rfl, rfl, rfl⟩
      · intro vals w80 hT hVs
        have hB := ext_trans hB hT
        have hVg15 := hVg15.ext hT
        have u3 := u3.ext hT
        have hv0 : vals 0 = _ := hVs 0 (by decide)
        have hv1 : vals 1 = _ := hVs 1 (by decide)
        have hv2 : vals 2 = _ := hVs 2 (by decide)
        have hv3 : vals 3 = _ := hVs 3 (by decide)
        obtain ⟨A76, m77, c78, hv4, v1, v1m, hap_v1_g11, hap_v1_g13, hap_v1_g15⟩ := hVs 4 (by decide)
        have hv5 : vals 5 = _ := hVs 5 (by decide)
        rw [show (List.filterMap (fun i => Option.map (fun t => (t, vals i)) (dstAt _ i)) (List.range _)) = [(43, .pointer (some ((⟨g11, 0, none⟩ : Addr).add 0))), (44, .bool (qneg (qa))), (45, .slice A36 m37 c38), (46, .slice A40 m41 c42), (47, .slice A76 m77 c78), (48, .slice A44 m45 c46)] from by
          show [(43, vals 0), (44, vals 1), (45, vals 2), (46, vals 3), (47, vals 4), (48, vals 5)] = _
          rw [hv0, hv1, hv2, hv3, hv4, hv5]]
        refine WA.step [6] (by decide +kernel) rfl ?_
        intro iQ hQ
        simp only [List.mem_cons, List.not_mem_nil, or_false] at hQ
        obtain rfl := hQ
        · refine ⟨_, rfl, ?_⟩
          refine WL.call Try.func33 rfl Try.nm33 rfl rfl (rMake_c v1.rd u3.rd (digs_lim _) (digs_lim _) (by omega) (by omega) (qa + qb) (by simp only [nv_digs]; exact q_add_gt hsg (by omega))) ?_
          rintro _ w81 ⟨A82, m83, c84, A85, m86, c87, rfl, hGw81, hrn, hrd, hrm⟩
          have hap_hrn_g15 := ap_new hrn (hVg15.bl_ge _ rfl).2
          have hap_hrd_g15 := ap_new hrd (hVg15.bl_ge _ rfl).2
          have hrn := hrn.low (b' := w.heap.size) hB.size
          have hrd := hrd.low (b' := w.heap.size) hB.size
          have hB := ext_trans hB hGw81
          have hVg15 := hVg15.ext hGw81
          have hrn_l := hrn.rd.ulen
          have hrd_l := hrd.rd.ulen
          refine WL.done ?_
          refine WA.step [7] (by decide +kernel) rfl ?_
          intro iQ hQ
          simp only [List.mem_cons, List.not_mem_nil, or_false] at hQ
          obtain rfl := hQ
          · refine ⟨_, rfl, ?_⟩
            refine WL.storeV Try.el25 rfl rfl rfl rfl hVg15 ?_
            have hOld89 := hVg15
            intro w88 hVg15 hGw88
            change Own _ _ _ _ _ _ _ [.bool (qneg (qa + qb)), .slice A82 m83 c84, .slice A85 m86 c87] at hVg15
            have hB := ext_own hB hGw88 (fun g hg => (hOld89.bl_ge g hg).1)
            have hrn := hrn.grown hGw88 (ap_row hap_hrn_g15)
            have hrd := hrd.grown hGw88 (ap_row hap_hrd_g15)
            refine WL.done ?_
            refine WA.done (by decide +kernel) ?_
            refine W.ret ?_
            refine ⟨[.agg #[.bool (qneg (qa + qb)), .slice A82 m83 c84, .slice A85 m86 c87]], ⟨_, _, _, rfl, rfl, run_loadV (cs := [.bool (qneg (qa + qb)), .slice A82 m83 c84, .slice A85 m86 c87]) Try.el25 Try.agg25 rfl hVg15.vcells, rfl⟩, ?_⟩
            exact ⟨_, _, _, _, _, _, rfl, hB, hrn, hrd, by omega⟩
    · refine WL.done ?_
      refine W.condF rfl ?_
      refine W.skip ?_
      refine W.seq ?_
      refine W.drawT 6 [⟨[], [3], true⟩, ⟨[0], [], false⟩, ⟨[], [6], true⟩, ⟨[], [5], true⟩, ⟨[2, 3], [], false⟩, ⟨[], [7], true⟩] [[(3, .pointer (some ⟨g13, 0, none⟩))], [], [(6, .slice A40 m41 c42)], [(5, .slice A36 m37 c38)], [], [(7, .slice A44 m45 c46)]] (fun iQ => [fun v wQ => v = .pointer (some ((⟨g13, 0, none⟩ : Addr).add 0)), fun v wQ => v = .bool (qneg (qb)), fun v wQ => v = .slice A40 m41 c42, fun v wQ => v = .slice A36 m37 c38, fun v wQ => ∃ A96 m97 c98, v = .slice A96 m97 c98 ∧ (Own w.heap.size wQ 48 1 A96 m97 c98 (us (digs (nv (digs (nv (digs (qnum (qb))) * nv (digs (Rat.den (qa))))) - nv (digs (nv (digs (qnum (qa))) * nv (digs (Rat.den (qb))))))))) ∧ (m97 ≤ m41) ∧ (∀ k, bl A96 = some k → k ≠ g11) ∧ (∀ k, bl A96 = some k → k ≠ g13) ∧ (∀ k, bl A96 = some k → k ≠ g15), fun v wQ => v = .slice A44 m45 c46].getD iQ (fun _ _ => True)) Try.mixed (by kernel_rfl) ?_ ?_ ?_
      · refine Vs_monoT _ ?_
        intro VQ hVQ vQ wQ1 wQ2 hQ1 hQ2
        simp only [List.mem_cons, List.not_mem_nil, or_false] at hVQ
        rcases hVQ with rfl | rfl | rfl | rfl | rfl | rfl
        · exact hQ1
        · exact hQ1
        · exact hQ1
        · exact hQ1
        · obtain ⟨A96, m97, c98, hQe, v1, v1m, hap_v1_g11, hap_v1_g13, hap_v1_g15⟩ := hQ1
          exact ⟨A96, m97, c98, hQe, v1.ext hQ2, v1m, hap_v1_g11, hap_v1_g13, hap_v1_g15⟩
        · exact hQ1
      · refine ⟨⟨rfl, ⟨rfl, trivial⟩, ?_⟩, ⟨rfl, trivial, ?_⟩, ⟨rfl, ⟨rfl, trivial⟩, ?_⟩, ⟨rfl, ⟨rfl, trivial⟩, ?_⟩, ⟨rfl, trivial, ?_⟩, ⟨rfl, ⟨rfl, trivial⟩, ?_⟩, trivial⟩
        · intro w90 hE
          intro R
          refine WL.fieldA (off := 0) Try.fla25_0 rfl rfl ?_
          exact WL.done ⟨_, rfl, rfl, rfl⟩
        · intro w91 hE
          have hE := hE rfl
          have hB := ext_trans hB hE
          have hVg13 := hVg13.ext hE
          rintro _ rfl
          intro R
          refine WL.load Try.underlying4 rfl rfl (hVg13.vcells 0 _ rfl) rfl ?_
          exact WL.done ⟨_, rfl, ext_refl _, rfl⟩
        · intro w92 hE
          intro R
          refine WL.move rfl rfl ?_
          exact WL.done ⟨_, rfl, rfl, rfl⟩
        · intro w93 hE
          intro R
          refine WL.move rfl rfl ?_
          exact WL.done ⟨_, rfl, rfl, rfl⟩
        · intro w94 hE
          have hE := hE rfl
          have hB := ext_trans hB hE
          have hVg15 := hVg15.ext hE
          have hVg11 := hVg11.ext hE
          have hVg13 := hVg13.ext hE
          have u1 := u1.ext hE
          have u2 := u2.ext hE
          rintro _ rfl
          rintro _ rfl
          intro R
          refine WL.call Try.func58 rfl Try.nm58 rfl rfl (rSub_c u2.rd u1.rd (digs_lim _) (digs_lim _) (by omega) (by simp only [nv_digs] at *; omega)) ?_
          rintro _ w95 ⟨A96, m97, c98, rfl, hGw95, v1, v1m⟩
          have hap_v1_g11 := ap_new v1 (hVg11.bl_ge _ rfl).2
          have hap_v1_g13 := ap_new v1 (hVg13.bl_ge _ rfl).2
          have hap_v1_g15 := ap_new v1 (hVg15.bl_ge _ rfl).2
          have v1 := v1.low (b' := w.heap.size) hB.size
          have hB := ext_trans hB hGw95
          have v1_l := v1.rd.ulen
          exact WL.done ⟨_, rfl, hGw95, ⟨A96, m97, c98, rfl, v1, v1m, hap_v1_g11, hap_v1_g13, hap_v1_g15⟩⟩
        · intro w99 hE
          intro R
          refine WL.move rfl rfl ?_
          exact WL.done ⟨_, rfl, rfl, rfl⟩
      · intro vals w100 hT hVs
        have hB := ext_trans hB hT
        have hVg15 := hVg15.ext hT
        have u3 := u3.ext hT
        have hv0 : vals 0 = _ := hVs 0 (by decide)
        have hv1 : vals 1 = _ := hVs 1 (by decide)
        have hv2 : vals 2 = _ := hVs 2 (by decide)
        have hv3 : vals 3 = _ := hVs 3 (by decide)
        obtain ⟨A96, m97, c98, hv4, v1, v1m, hap_v1_g11, hap_v1_g13, hap_v1_g15⟩ := hVs 4 (by decide)
        have hv5 : vals 5 = _ := hVs 5 (by decide)
        rw [show (List.filterMap (fun i => Option.map (fun t => (t, vals i)) (dstAt _ i)) (List.range _)) = [(50, .pointer (some ((⟨g13, 0, none⟩ : Addr).add 0))), (51, .bool (qneg (qb))), (52, .slice A40 m41 c42), (53, .slice A36 m37 c38), (54, .slice A96 m97 c98), (55, .slice A44 m45 c46)] from by
          show [(50, vals 0), (51, vals 1), (52, vals 2), (53, vals 3), (54, vals 4), (55, vals 5)] = _
          rw [hv0, hv1, hv2, hv3, hv4, hv5]]
        refine WA.step [6] (by decide +kernel) rfl ?_
        intro iQ hQ
        simp only [List.mem_cons, List.not_mem_nil, or_false] at hQ
        obtain rfl := hQ
        · refine ⟨_, rfl, ?_⟩
          refine WL.call Try.func33 rfl Try.nm33 rfl rfl (rMake_c v1.rd u3.rd (digs_lim _) (digs_lim _) (by omega) (by omega) (qa + qb) (by simp only [nv_digs]; exact q_add_lt hsg (by omega))) ?_
          rintro _ w101 ⟨A102, m103, c104, A105, m106, c107, rfl, hGw101, hrn, hrd, hrm⟩
          have hap_hrn_g15 := ap_new hrn (hVg15.bl_ge _ rfl).2
          have hap_hrd_g15 := ap_new hrd (hVg15.bl_ge _ rfl).2
          have hrn := hrn.low (b' := w.heap.size) hB.size
          have hrd := hrd.low (b' := w.heap.size) hB.size
          have hB := ext_trans hB hGw101
          have hVg15 := hVg15.ext hGw101
          have hrn_l := hrn.rd.ulen
          have hrd_l := hrd.rd.ulen
          refine WL.done ?_
          refine WA.step [7] (by decide +kernel) rfl ?_
          intro iQ hQ
          simp only [List.mem_cons, List.not_mem_nil, or_false] at hQ
          obtain rfl := hQ
          · refine ⟨_, rfl, ?_⟩
            refine WL.storeV Try.el25 rfl rfl rfl rfl hVg15 ?_
            have hOld109 := hVg15
            intro w108 hVg15 hGw108
            change Own _ _ _ _ _ _ _ [.bool (qneg (qa + qb)), .slice A102 m103 c104, .slice A105 m106 c107] at hVg15
            have hB := ext_own hB hGw108 (fun g hg => (hOld109.bl_ge g hg).1)
            have hrn := hrn.grown hGw108 (ap_row hap_hrn_g15)
            have hrd := hrd.grown hGw108 (ap_row hap_hrd_g15)
            refine WL.done ?_
            refine WA.done (by decide +kernel) ?_
            refine W.ret ?_
            refine ⟨[.agg #[.bool (qneg (qa + qb)), .slice A102 m103 c104, .slice A105 m106 c107]], ⟨_, _, _, rfl, rfl, run_loadV (cs := [.bool (qneg (qa + qb)), .slice A102 m103 c104, .slice A105 m106 c107]) Try.el25 Try.agg25 rfl hVg15.vcells, rfl⟩, ?_⟩
            exact ⟨_, _, _, _, _, _, rfl, hB, hrn, hrd, by omega⟩
end Go.Proofs.Ythfpcebcfjlkmac
