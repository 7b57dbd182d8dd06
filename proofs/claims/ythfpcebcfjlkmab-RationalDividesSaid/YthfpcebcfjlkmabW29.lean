/- Contracts of functions of the program, and what they lean on. -/
import Derived.Test.YthfpcebcfjlkmabW22
import Derived.Test.YthfpcebcfjlkmabDraw3
set_option linter.unusedSimpArgs false
set_option linter.unusedVariables false
namespace Go.Proofs.Ythfpcebcfjlkmab
open Go.RowKit
theorem div_mul_q {a b : Rat} (h : b ≠ 0) : a * b⁻¹ * b = a := by rw [Rat.mul_assoc, Rat.inv_mul_cancel _ h, Rat.mul_one]
theorem mul_div_q {a b : Rat} (h : b ≠ 0) : a * b * b⁻¹ = a := by rw [Rat.mul_assoc, Rat.mul_inv_cancel _ h, Rat.mul_one]

set_option maxHeartbeats 4000000 in
theorem RationalDivides_z {w : World} {Ban : Nat} {Aan : Option Addr} {man can : Nat} {xan : List Nat} (han : Rd Ban w 1 Aan man can (us xan)) {Bad : Nat} {Aad : Option Addr} {mad cad : Nat} {xad : List Nat} (had : Rd Bad w 1 Aad mad cad (us xad)) {Bbn : Nat} {Abn : Option Addr} {mbn cbn : Nat} {xbn : List Nat} (hbn : Rd Bbn w 1 Abn mbn cbn (us xbn)) {Bbd : Nat} {Abd : Option Addr} {mbd cbd : Nat} {xbd : List Nat} (hbd : Rd Bbd w 1 Abd mbd cbd (us xbd)) {na : Bool} (hLan : Lim xan) (hLad : Lim xad) (hza : man * 4 ≤ 140737488351232 ∧ mad * 4 ≤ 140737488351232) {nb : Bool} (hLbn : Lim xbn) (hLbd : Lim xbd) (hzb : mbn * 4 ≤ 140737488351232 ∧ mbd * 4 ≤ 140737488351232) (q0 : Rat) (hq0 : val nb (nv xbn) (nv xbd) = q0) (hz : q0 = 0) :
    Calls Try.prog 9 #[.agg #[.bool na, .slice Aan man can, .slice Aad mad cad], .agg #[.bool nb, .slice Abn mbn cbn, .slice Abd mbd cbd]] w fun e w2 => ∃ v, e = .returned v ∧ (fun v w2 => v = .bool true ∧ w.grownBy w2 none) v w2 := by
  have han := han.norm
  have han_l := han.ulen
  have han_x := han.max
  simp only [maxLen] at han_x
  have han_c := han.cap
  have had := had.norm
  have had_l := had.ulen
  have had_x := had.max
  simp only [maxLen] at had_x
  have had_c := had.cap
  have hbn := hbn.norm
  have hbn_l := hbn.ulen
  have hbn_x := hbn.max
  simp only [maxLen] at hbn_x
  have hbn_c := hbn.cap
  have hbd := hbd.norm
  have hbd_l := hbd.ulen
  have hbd_x := hbd.max
  simp only [maxLen] at hbd_x
  have hbd_c := hbd.cap
  have han0 := han
  have had0 := had
  have hbn0 := hbn
  have hbd0 := hbd
  obtain ⟨qa, hqa⟩ : ∃ q, val na (nv xan) (nv xad) = q := ⟨_, rfl⟩
  obtain ⟨qb, hqb⟩ : ∃ q, val nb (nv xbn) (nv xbd) = q := ⟨_, rfl⟩
  have hz : qb = 0 := by rw [← hqb, hq0]; exact hz
  have hB := ext_refl w
  refine calls_of_W (vs := [.agg #[.bool na, .slice Aan man can, .slice Aad mad cad], .agg #[.bool nb, .slice Abn mbn cbn, .slice Abd mbd cbd]]) [4] Try.func9 rfl rfl rfl rfl ?_
  refine W.seq ?_
  refine W.region ?_
  refine WL.box Try.el31 rfl rfl rfl ?_
  intro g11 w12 hg_g11 hVg11 hGw12
  change Own _ _ _ _ _ _ _ [.bool na, .slice Aan man can, .slice Aad mad cad] at hVg11
  have hVg11 := hVg11.low (b' := w.heap.size) hB.size
  have hB := ext_trans hB hGw12
  have han := han0.ext hB
  have had := had0.ext hB
  have hbn := hbn0.ext hB
  have hbd := hbd0.ext hB
  refine WL.box Try.el31 rfl rfl rfl ?_
  intro g13 w14 hg_g13 hVg13 hGw14
  change Own _ _ _ _ _ _ _ [.bool nb, .slice Abn mbn cbn, .slice Abd mbd cbd] at hVg13
  have hlt_g11_g13 : g11 < g13 := by rw [hg_g13]; exact (hVg11.bl_ge _ rfl).2
  have hVg13 := hVg13.low (b' := w.heap.size) hB.size
  have hB := ext_trans hB hGw14
  have han := han0.ext hB
  have had := had0.ext hB
  have hbn := hbn0.ext hB
  have hbd := hbd0.ext hB
  have hVg11 := hVg11.ext hGw14
  refine WL.assign rfl rfl ?_
  refine WL.done ?_
  refine W.seq ?_
  refine W.seq ?_
  refine W.region ?_
  refine WL.loadV (cs := [.bool na, .slice Aan man can, .slice Aad mad cad]) Try.el31 Try.agg31 rfl rfl hVg11.vcells rfl ?_
  refine WL.loadV (cs := [.bool nb, .slice Abn mbn cbn, .slice Abd mbd cbd]) Try.el31 Try.agg31 rfl rfl hVg13.vcells rfl ?_
  refine WL.lit (b := w14.heap.size) (cells := [.bool na, .slice Aan man can, .slice Aad mad cad, .bool nb, .slice Abn mbn cbn, .slice Abd mbd cbd]) Try.underlying44 Try.el31 (by decide) ⟨_, rfl, by kernel_rfl⟩ rfl (Nat.le_refl _) rfl ?_
  rintro A15 w16 - hO17 hGw16
  have hO17 := hO17.low (b' := w.heap.size) hB.size
  have hB := ext_trans hB hGw16
  have han := han0.ext hB
  have had := had0.ext hB
  have hbn := hbn0.ext hB
  have hbd := hbd0.ext hB
  have hVg11 := hVg11.ext hGw16
  have hVg13 := hVg13.ext hGw16
  have hN18 : RatsR w16.heap.size w16 [.bool na, .slice Aan man can, .slice Aad mad cad, .bool nb, .slice Abn mbn cbn, .slice Abd mbd cbd] [(na, xan, xad), (nb, xbn, xbd)] := (RatsR.cons han.norm had.norm (RatsR.cons hbn.norm hbd.norm (RatsR.nil _ _)))
  refine WL.call Try.func17 rfl Try.nm17 rfl rfl (long_c hO17.rd hN18 rfl (RLen.cons (by first | omega | (simp; done) | (simp; omega)) (by first | omega | (simp; done) | (simp; omega)) (RLen.cons (by first | omega | (simp; done) | (simp; omega)) (by first | omega | (simp; done) | (simp; omega)) (RLen.nil _)))) ?_
  rintro _ w19 ⟨bhlo, rfl, hGw19, hlo_t, hlo_f⟩
  have hB := ext_trans hB hGw19
  have han := han0.ext hB
  have had := had0.ext hB
  have hbn := hbn0.ext hB
  have hbd := hbd0.ext hB
  have hVg11 := hVg11.ext hGw19
  have hVg13 := hVg13.ext hGw19
  rcases bhlo with _ | _
  · have hlo := hlo_f rfl
    have hla : xan.length + xad.length ≤ 16 := hlo 0 (by simp)
    have hlb : xbn.length + xbd.length ≤ 16 := hlo 1 (by simp)
    refine WL.done ?_
    refine W.condF rfl ?_
    refine W.skip ?_
    refine W.seq ?_
    refine W.region ?_
    refine WL.loadV (cs := [.bool na, .slice Aan man can, .slice Aad mad cad]) Try.el31 Try.agg31 rfl rfl hVg11.vcells rfl ?_
    refine WL.loadV (cs := [.bool nb, .slice Abn mbn cbn, .slice Abd mbd cbd]) Try.el31 Try.agg31 rfl rfl hVg13.vcells rfl ?_
    refine WL.call Try.func38 rfl Try.nm38 rfl rfl (qDiv_z han had hbn hbd hLan hLad qa hqa hLbn hLbd qb hqb (by omega) (by omega) (by assumption)) ?_
    rintro _ w20 ⟨rfl, hGw20⟩
    have hB := ext_trans hB hGw20
    have hbn := hbn0.ext hB
    have hbd := hbd0.ext hB
    have hVg11 := hVg11.ext hGw20
    have hVg13 := hVg13.ext hGw20
    refine WL.move rfl rfl ?_
    refine WL.extract rfl rfl rfl ?_
    refine WL.extract rfl rfl rfl ?_
    refine WL.alloc Try.el31 rfl ?_
    intro g21 w22 hg_g21 hVg21 hGw22
    change Own _ _ _ _ _ _ _ [.bool false, .slice none 0 0, .slice none 0 0] at hVg21
    have hlt_g11_g21 : g11 < g21 := by rw [hg_g21]; exact (hVg11.bl_ge _ rfl).2
    have hlt_g13_g21 : g13 < g21 := by rw [hg_g21]; exact (hVg13.bl_ge _ rfl).2
    have hVg21 := hVg21.low (b' := w.heap.size) hB.size
    have hB := ext_trans hB hGw22
    have hbn := hbn0.ext hB
    have hbd := hbd0.ext hB
    have hVg13 := hVg13.ext hGw22
    refine WL.storeV Try.el31 rfl rfl rfl rfl hVg21 ?_
    have hOld24 := hVg21
    intro w23 hVg21 hGw23
    change Own _ _ _ _ _ _ _ [.bool false, .slice none 0 0, .slice none 0 0] at hVg21
    have hB := ext_own hB hGw23 (fun g hg => (hOld24.bl_ge g hg).1)
    have hbn := hbn0.ext hB
    have hbd := hbd0.ext hB
    have hVg13 := hVg13.grown hGw23 (apart (by omega))
    refine WL.assign rfl rfl ?_
    refine WL.done ?_
    refine W.seq ?_
    refine W.seq ?_
    refine W.region ?_
    refine WL.loadV (cs := [.bool nb, .slice Abn mbn cbn, .slice Abd mbd cbd]) Try.el31 Try.agg31 rfl rfl hVg13.vcells rfl ?_
    refine WL.call Try.func23 rfl Try.nm23 rfl rfl (qSign_c hbn hbd hLbn hLbd qb hqb (by omega)) ?_
    rintro _ w25 ⟨rfl, hGw25⟩
    have hB := ext_trans hB hGw25
    have hVg21 := hVg21.ext hGw25
    refine WL.eql rfl rfl rfl (fun hsg => ?_) (fun hsg => ?_)
    · refine WL.done ?_
      refine W.condT rfl ?_
      refine W.seq ?_
      refine W.region ?_
      refine WL.move rfl rfl ?_
      refine WL.eql rfl rfl rfl (fun c27 => ?_) (fun c27 => ?_)
      · refine WL.move rfl rfl ?_
        refine WL.take rfl ?_
        refine WL.loadV (cs := [.bool false, .slice none 0 0, .slice none 0 0]) Try.el31 Try.agg31 rfl rfl hVg21.vcells rfl ?_
        refine WL.take rfl ?_
        refine WL.call Try.func28 rfl Try.nm28 rfl rfl (rNil_c) ?_
        rintro _ w28 ⟨rfl, hGw28⟩
        have hB := ext_trans hB hGw28
        refine WL.pick rfl rfl rfl ?_
        refine WL.assign rfl rfl ?_
        refine WL.done ?_
        refine W.ret ?_
        refine ⟨_, rfl, ?_⟩
        exact ⟨rfl, hB⟩
      · exfalso
        omega
    · exfalso
      exact hsg (sg_zero.2 hz)
  · have hlo := hlo_t rfl
    refine WL.done ?_
    refine W.condT rfl ?_
    refine W.seq ?_
    refine W.region ?_
    refine WL.assign rfl rfl ?_
    refine WL.done ?_
    refine W.ret ?_
    refine ⟨_, rfl, ?_⟩
    exact ⟨rfl, hB⟩

set_option maxHeartbeats 4000000 in
theorem RationalDivides_ok {w : World} {Ban : Nat} {Aan : Option Addr} {man can : Nat} {xan : List Nat} (han : Rd Ban w 1 Aan man can (us xan)) {Bad : Nat} {Aad : Option Addr} {mad cad : Nat} {xad : List Nat} (had : Rd Bad w 1 Aad mad cad (us xad)) {Bbn : Nat} {Abn : Option Addr} {mbn cbn : Nat} {xbn : List Nat} (hbn : Rd Bbn w 1 Abn mbn cbn (us xbn)) {Bbd : Nat} {Abd : Option Addr} {mbd cbd : Nat} {xbd : List Nat} (hbd : Rd Bbd w 1 Abd mbd cbd (us xbd)) {na : Bool} (hLan : Lim xan) (hLad : Lim xad) (hza : man * 4 ≤ 140737488351232 ∧ mad * 4 ≤ 140737488351232) {nb : Bool} (hLbn : Lim xbn) (hLbd : Lim xbd) (hzb : mbn * 4 ≤ 140737488351232 ∧ mbd * 4 ≤ 140737488351232) (q0 : Rat) (hq0 : val nb (nv xbn) (nv xbd) = q0) (hz : q0 ≠ 0) :
    Calls Try.prog 9 #[.agg #[.bool na, .slice Aan man can, .slice Aad mad cad], .agg #[.bool nb, .slice Abn mbn cbn, .slice Abd mbd cbd]] w fun e w2 => ∃ v, e = .returned v ∧ (fun v w2 => v = .bool true ∧ w.grownBy w2 none) v w2 := by
  have han := han.norm
  have han_l := han.ulen
  have han_x := han.max
  simp only [maxLen] at han_x
  have han_c := han.cap
  have had := had.norm
  have had_l := had.ulen
  have had_x := had.max
  simp only [maxLen] at had_x
  have had_c := had.cap
  have hbn := hbn.norm
  have hbn_l := hbn.ulen
  have hbn_x := hbn.max
  simp only [maxLen] at hbn_x
  have hbn_c := hbn.cap
  have hbd := hbd.norm
  have hbd_l := hbd.ulen
  have hbd_x := hbd.max
  simp only [maxLen] at hbd_x
  have hbd_c := hbd.cap
  have han0 := han
  have had0 := had
  have hbn0 := hbn
  have hbd0 := hbd
  obtain ⟨qa, hqa⟩ : ∃ q, val na (nv xan) (nv xad) = q := ⟨_, rfl⟩
  obtain ⟨qb, hqb⟩ : ∃ q, val nb (nv xbn) (nv xbd) = q := ⟨_, rfl⟩
  have hz : qb ≠ 0 := by rw [← hqb, hq0]; exact hz
  have hB := ext_refl w
  refine calls_of_W (vs := [.agg #[.bool na, .slice Aan man can, .slice Aad mad cad], .agg #[.bool nb, .slice Abn mbn cbn, .slice Abd mbd cbd]]) [4] Try.func9 rfl rfl rfl rfl ?_
  refine W.seq ?_
  refine W.region ?_
  refine WL.box Try.el31 rfl rfl rfl ?_
  intro g11 w12 hg_g11 hVg11 hGw12
  change Own _ _ _ _ _ _ _ [.bool na, .slice Aan man can, .slice Aad mad cad] at hVg11
  have hVg11 := hVg11.low (b' := w.heap.size) hB.size
  have hB := ext_trans hB hGw12
  have han := han0.ext hB
  have had := had0.ext hB
  have hbn := hbn0.ext hB
  have hbd := hbd0.ext hB
  refine WL.box Try.el31 rfl rfl rfl ?_
  intro g13 w14 hg_g13 hVg13 hGw14
  change Own _ _ _ _ _ _ _ [.bool nb, .slice Abn mbn cbn, .slice Abd mbd cbd] at hVg13
  have hlt_g11_g13 : g11 < g13 := by rw [hg_g13]; exact (hVg11.bl_ge _ rfl).2
  have hVg13 := hVg13.low (b' := w.heap.size) hB.size
  have hB := ext_trans hB hGw14
  have han := han0.ext hB
  have had := had0.ext hB
  have hbn := hbn0.ext hB
  have hbd := hbd0.ext hB
  have hVg11 := hVg11.ext hGw14
  refine WL.assign rfl rfl ?_
  refine WL.done ?_
  refine W.seq ?_
  refine W.seq ?_
  refine W.region ?_
  refine WL.loadV (cs := [.bool na, .slice Aan man can, .slice Aad mad cad]) Try.el31 Try.agg31 rfl rfl hVg11.vcells rfl ?_
  refine WL.loadV (cs := [.bool nb, .slice Abn mbn cbn, .slice Abd mbd cbd]) Try.el31 Try.agg31 rfl rfl hVg13.vcells rfl ?_
  refine WL.lit (b := w14.heap.size) (cells := [.bool na, .slice Aan man can, .slice Aad mad cad, .bool nb, .slice Abn mbn cbn, .slice Abd mbd cbd]) Try.underlying44 Try.el31 (by decide) ⟨_, rfl, by kernel_rfl⟩ rfl (Nat.le_refl _) rfl ?_
  rintro A15 w16 - hO17 hGw16
  have hO17 := hO17.low (b' := w.heap.size) hB.size
  have hB := ext_trans hB hGw16
  have han := han0.ext hB
  have had := had0.ext hB
  have hbn := hbn0.ext hB
  have hbd := hbd0.ext hB
  have hVg11 := hVg11.ext hGw16
  have hVg13 := hVg13.ext hGw16
  have hN18 : RatsR w16.heap.size w16 [.bool na, .slice Aan man can, .slice Aad mad cad, .bool nb, .slice Abn mbn cbn, .slice Abd mbd cbd] [(na, xan, xad), (nb, xbn, xbd)] := (RatsR.cons han.norm had.norm (RatsR.cons hbn.norm hbd.norm (RatsR.nil _ _)))
  refine WL.call Try.func17 rfl Try.nm17 rfl rfl (long_c hO17.rd hN18 rfl (RLen.cons (by first | omega | (simp; done) | (simp; omega)) (by first | omega | (simp; done) | (simp; omega)) (RLen.cons (by first | omega | (simp; done) | (simp; omega)) (by first | omega | (simp; done) | (simp; omega)) (RLen.nil _)))) ?_
  rintro _ w19 ⟨bhlo, rfl, hGw19, hlo_t, hlo_f⟩
  have hB := ext_trans hB hGw19
  have han := han0.ext hB
  have had := had0.ext hB
  have hbn := hbn0.ext hB
  have hbd := hbd0.ext hB
  have hVg11 := hVg11.ext hGw19
  have hVg13 := hVg13.ext hGw19
  rcases bhlo with _ | _
  · have hlo := hlo_f rfl
    have hla : xan.length + xad.length ≤ 16 := hlo 0 (by simp)
    have hlb : xbn.length + xbd.length ≤ 16 := hlo 1 (by simp)
    refine WL.done ?_
    refine W.condF rfl ?_
    refine W.skip ?_
    refine W.seq ?_
    refine W.region ?_
    refine WL.loadV (cs := [.bool na, .slice Aan man can, .slice Aad mad cad]) Try.el31 Try.agg31 rfl rfl hVg11.vcells rfl ?_
    refine WL.loadV (cs := [.bool nb, .slice Abn mbn cbn, .slice Abd mbd cbd]) Try.el31 Try.agg31 rfl rfl hVg13.vcells rfl ?_
    refine WL.call Try.func38 rfl Try.nm38 rfl rfl (qDiv_ok han had hbn hbd hLan hLad qa hqa hLbn hLbd qb hqb (by omega) (by omega) (by assumption)) ?_
    rintro _ w20 ⟨A21, m22, c23, A24, m25, c26, rfl, hGw20, h1n, h1d, h1m⟩
    have h1n := h1n.low (b' := w.heap.size) hB.size
    have h1d := h1d.low (b' := w.heap.size) hB.size
    have hB := ext_trans hB hGw20
    have han := han0.ext hB
    have had := had0.ext hB
    have hbn := hbn0.ext hB
    have hbd := hbd0.ext hB
    have hVg11 := hVg11.ext hGw20
    have hVg13 := hVg13.ext hGw20
    have h1n_l := h1n.rd.ulen
    have h1d_l := h1d.rd.ulen
    refine WL.move rfl rfl ?_
    refine WL.extract rfl rfl rfl ?_
    refine WL.extract rfl rfl rfl ?_
    refine WL.alloc Try.el31 rfl ?_
    intro g27 w28 hg_g27 hVg27 hGw28
    change Own _ _ _ _ _ _ _ [.bool false, .slice none 0 0, .slice none 0 0] at hVg27
    have hlt_g11_g27 : g11 < g27 := by rw [hg_g27]; exact (hVg11.bl_ge _ rfl).2
    have hlt_g13_g27 : g13 < g27 := by rw [hg_g27]; exact (hVg13.bl_ge _ rfl).2
    have hap_h1n_g27 := ap_old h1n hg_g27
    have hap_h1d_g27 := ap_old h1d hg_g27
    have hVg27 := hVg27.low (b' := w.heap.size) hB.size
    have hB := ext_trans hB hGw28
    have han := han0.ext hB
    have had := had0.ext hB
    have hbn := hbn0.ext hB
    have hbd := hbd0.ext hB
    have hVg11 := hVg11.ext hGw28
    have hVg13 := hVg13.ext hGw28
    have h1n := h1n.ext hGw28
    have h1d := h1d.ext hGw28
    refine WL.storeV Try.el31 rfl rfl rfl rfl hVg27 ?_
    have hOld30 := hVg27
    intro w29 hVg27 hGw29
    change Own _ _ _ _ _ _ _ [.bool (qneg (qa * qb⁻¹)), .slice A21 m22 c23, .slice A24 m25 c26] at hVg27
    have hB := ext_own hB hGw29 (fun g hg => (hOld30.bl_ge g hg).1)
    have han := han0.ext hB
    have had := had0.ext hB
    have hbn := hbn0.ext hB
    have hbd := hbd0.ext hB
    have hVg11 := hVg11.grown hGw29 (apart (by omega))
    have hVg13 := hVg13.grown hGw29 (apart (by omega))
    have h1n := h1n.grown hGw29 (ap_row hap_h1n_g27)
    have h1d := h1d.grown hGw29 (ap_row hap_h1d_g27)
    refine WL.assign rfl rfl ?_
    refine WL.done ?_
    refine W.seq ?_
    refine W.seq ?_
    refine W.region ?_
    refine WL.loadV (cs := [.bool nb, .slice Abn mbn cbn, .slice Abd mbd cbd]) Try.el31 Try.agg31 rfl rfl hVg13.vcells rfl ?_
    refine WL.call Try.func23 rfl Try.nm23 rfl rfl (qSign_c hbn hbd hLbn hLbd qb hqb (by omega)) ?_
    rintro _ w31 ⟨rfl, hGw31⟩
    have hB := ext_trans hB hGw31
    have han := han0.ext hB
    have had := had0.ext hB
    have hbn := hbn0.ext hB
    have hbd := hbd0.ext hB
    have hVg11 := hVg11.ext hGw31
    have hVg13 := hVg13.ext hGw31
    have h1n := h1n.ext hGw31
    have h1d := h1d.ext hGw31
    have hVg27 := hVg27.ext hGw31
    refine WL.eql rfl rfl rfl (fun hsg => ?_) (fun hsg => ?_)
    · exfalso
      exact hz (sg_zero.1 hsg)
    · refine WL.done ?_
      refine W.condF rfl ?_
      refine W.skip ?_
      refine W.seq ?_
      refine W.drawF 10 8 [⟨[], [2], false⟩, ⟨[], [3], false⟩, ⟨[0, 1], [], false⟩, ⟨[2], [], false⟩, ⟨[], [3], false⟩, ⟨[3, 4], [], false⟩, ⟨[5], [], true⟩, ⟨[6], [], true⟩, ⟨[6], [], true⟩, ⟨[], [], false⟩] [[(2, .pointer (some ⟨g11, 0, none⟩))], [(3, .pointer (some ⟨g13, 0, none⟩))], [], [], [(3, .pointer (some ⟨g13, 0, none⟩))], [], [], [], [], []] (fun iQ => [fun v wQ => v = .agg #[.bool na, .slice Aan man can, .slice Aad mad cad], fun v wQ => v = .agg #[.bool nb, .slice Abn mbn cbn, .slice Abd mbd cbd], fun v wQ => ∃ A36, v = .slice A36 2 2 ∧ (Own w.heap.size wQ 31 3 A36 2 2 [.bool na, .slice Aan man can, .slice Aad mad cad, .bool nb, .slice Abn mbn cbn, .slice Abd mbd cbd]) ∧ (RatsR wQ.heap.size wQ [.bool na, .slice Aan man can, .slice Aad mad cad, .bool nb, .slice Abn mbn cbn, .slice Abd mbd cbd] [(na, xan, xad), (nb, xbn, xbd)]) ∧ (∀ k, bl A36 = some k → k ≠ g11) ∧ (∀ k, bl A36 = some k → k ≠ g13) ∧ (∀ k, bl A36 = some k → k ≠ g27), fun v wQ => ∃ A42 m43 c44 A45 m46 c47, v = .agg #[.bool (qneg (qa * qb)), .slice A42 m43 c44, .slice A45 m46 c47] ∧ (Own w.heap.size wQ 43 1 A42 m43 c44 (us (digs (qnum (qa * qb))))) ∧ (Own w.heap.size wQ 43 1 A45 m46 c47 (us (digs (Rat.den (qa * qb))))) ∧ (m43 ≤ 69 ∧ m46 ≤ 69) ∧ (∀ k, bl A42 = some k → k ≠ g11) ∧ (∀ k, bl A42 = some k → k ≠ g13) ∧ (∀ k, bl A42 = some k → k ≠ g27) ∧ (∀ k, bl A45 = some k → k ≠ g11) ∧ (∀ k, bl A45 = some k → k ≠ g13) ∧ (∀ k, bl A45 = some k → k ≠ g27), fun v wQ => v = .agg #[.bool nb, .slice Abn mbn cbn, .slice Abd mbd cbd], fun v wQ => ∃ A42_5 m43_5 c44_5 A45_5 m46_5 c47_5 A51 m52 c53 A54 m55 c56, v = .tuple #[.agg #[.bool (qneg ((qa * qb) * qb⁻¹)), .slice A51 m52 c53, .slice A54 m55 c56], .int .i64 (0 : Int)] ∧ (Own w.heap.size wQ 43 1 A42_5 m43_5 c44_5 (us (digs (qnum (qa * qb))))) ∧ (Own w.heap.size wQ 43 1 A45_5 m46_5 c47_5 (us (digs (Rat.den (qa * qb))))) ∧ (m43_5 ≤ 69 ∧ m46_5 ≤ 69) ∧ (∀ k, bl A42_5 = some k → k ≠ g11) ∧ (∀ k, bl A42_5 = some k → k ≠ g13) ∧ (∀ k, bl A42_5 = some k → k ≠ g27) ∧ (∀ k, bl A45_5 = some k → k ≠ g11) ∧ (∀ k, bl A45_5 = some k → k ≠ g13) ∧ (∀ k, bl A45_5 = some k → k ≠ g27) ∧ (Own w.heap.size wQ 43 1 A51 m52 c53 (us (digs (qnum ((qa * qb) * qb⁻¹))))) ∧ (Own w.heap.size wQ 43 1 A54 m55 c56 (us (digs (Rat.den ((qa * qb) * qb⁻¹))))) ∧ (m52 ≤ m43_5 + mbd ∧ m55 ≤ m46_5 + mbn + 1) ∧ (∀ k, bl A51 = some k → k ≠ g11) ∧ (∀ k, bl A51 = some k → k ≠ g13) ∧ (∀ k, bl A51 = some k → k ≠ g27) ∧ (∀ k, bl A54 = some k → k ≠ g11) ∧ (∀ k, bl A54 = some k → k ≠ g13) ∧ (∀ k, bl A54 = some k → k ≠ g27), fun v wQ => ∃ A42_5_6 m43_5_6 c44_5_6 A45_5_6 m46_5_6 c47_5_6 A51_6 m52_6 c53_6 A54_6 m55_6 c56_6, v = .tuple #[.agg #[.bool (qneg ((qa * qb) * qb⁻¹)), .slice A51_6 m52_6 c53_6, .slice A54_6 m55_6 c56_6], .int .i64 (0 : Int)] ∧ (Own w.heap.size wQ 43 1 A42_5_6 m43_5_6 c44_5_6 (us (digs (qnum (qa * qb))))) ∧ (Own w.heap.size wQ 43 1 A45_5_6 m46_5_6 c47_5_6 (us (digs (Rat.den (qa * qb))))) ∧ (m43_5_6 ≤ 69 ∧ m46_5_6 ≤ 69) ∧ (∀ k, bl A42_5_6 = some k → k ≠ g11) ∧ (∀ k, bl A42_5_6 = some k → k ≠ g13) ∧ (∀ k, bl A42_5_6 = some k → k ≠ g27) ∧ (∀ k, bl A45_5_6 = some k → k ≠ g11) ∧ (∀ k, bl A45_5_6 = some k → k ≠ g13) ∧ (∀ k, bl A45_5_6 = some k → k ≠ g27) ∧ (Own w.heap.size wQ 43 1 A51_6 m52_6 c53_6 (us (digs (qnum ((qa * qb) * qb⁻¹))))) ∧ (Own w.heap.size wQ 43 1 A54_6 m55_6 c56_6 (us (digs (Rat.den ((qa * qb) * qb⁻¹))))) ∧ (m52_6 ≤ m43_5_6 + mbd ∧ m55_6 ≤ m46_5_6 + mbn + 1) ∧ (∀ k, bl A51_6 = some k → k ≠ g11) ∧ (∀ k, bl A51_6 = some k → k ≠ g13) ∧ (∀ k, bl A51_6 = some k → k ≠ g27) ∧ (∀ k, bl A54_6 = some k → k ≠ g11) ∧ (∀ k, bl A54_6 = some k → k ≠ g13) ∧ (∀ k, bl A54_6 = some k → k ≠ g27), fun v wQ => ∃ A42_5_6_7 m43_5_6_7 c44_5_6_7 A45_5_6_7 m46_5_6_7 c47_5_6_7 A51_6_7 m52_6_7 c53_6_7 A54_6_7 m55_6_7 c56_6_7, v = .agg #[.bool (qneg ((qa * qb) * qb⁻¹)), .slice A51_6_7 m52_6_7 c53_6_7, .slice A54_6_7 m55_6_7 c56_6_7] ∧ (Own w.heap.size wQ 43 1 A42_5_6_7 m43_5_6_7 c44_5_6_7 (us (digs (qnum (qa * qb))))) ∧ (Own w.heap.size wQ 43 1 A45_5_6_7 m46_5_6_7 c47_5_6_7 (us (digs (Rat.den (qa * qb))))) ∧ (m43_5_6_7 ≤ 69 ∧ m46_5_6_7 ≤ 69) ∧ (∀ k, bl A42_5_6_7 = some k → k ≠ g11) ∧ (∀ k, bl A42_5_6_7 = some k → k ≠ g13) ∧ (∀ k, bl A42_5_6_7 = some k → k ≠ g27) ∧ (∀ k, bl A45_5_6_7 = some k → k ≠ g11) ∧ (∀ k, bl A45_5_6_7 = some k → k ≠ g13) ∧ (∀ k, bl A45_5_6_7 = some k → k ≠ g27) ∧ (Own w.heap.size wQ 43 1 A51_6_7 m52_6_7 c53_6_7 (us (digs (qnum ((qa * qb) * qb⁻¹))))) ∧ (Own w.heap.size wQ 43 1 A54_6_7 m55_6_7 c56_6_7 (us (digs (Rat.den ((qa * qb) * qb⁻¹))))) ∧ (m52_6_7 ≤ m43_5_6_7 + mbd ∧ m55_6_7 ≤ m46_5_6_7 + mbn + 1) ∧ (∀ k, bl A51_6_7 = some k → k ≠ g11) ∧ (∀ k, bl A51_6_7 = some k → k ≠ g13) ∧ (∀ k, bl A51_6_7 = some k → k ≠ g27) ∧ (∀ k, bl A54_6_7 = some k → k ≠ g11) ∧ (∀ k, bl A54_6_7 = some k → k ≠ g13) ∧ (∀ k, bl A54_6_7 = some k → k ≠ g27), fun v wQ => v = .int .i64 (0 : Int), fun v wQ => ∃ g61, v = .pointer (some ⟨g61, 0, none⟩) ∧ (Own w.heap.size wQ 31 3 (some ⟨g61, 0, none⟩) 1 1 [.bool false, .slice none 0 0, .slice none 0 0]) ∧ (g11 < g61) ∧ (g13 < g61) ∧ (g27 < g61)].getD iQ (fun _ _ => True)) Try.mixed (by kernel_rfl) ?_ ?_ ?_ ?_
      · refine Vs_monoT _ ?_
        intro VQ hVQ vQ wQ1 wQ2 hQ1 hQ2
        simp only [List.mem_cons, List.not_mem_nil, or_false] at hVQ
        rcases hVQ with rfl | rfl | rfl | rfl | rfl | rfl | rfl | rfl | rfl | rfl
        · exact hQ1
        · exact hQ1
        · obtain ⟨A36, hQe, hO38, hN39, hap_hO38_g11, hap_hO38_g13, hap_hO38_g27⟩ := hQ1
          exact ⟨A36, hQe, hO38.ext hQ2, (hN39.ext hQ2).norm, hap_hO38_g11, hap_hO38_g13, hap_hO38_g27⟩
        · obtain ⟨A42, m43, c44, A45, m46, c47, hQe, h2n, h2d, h2m, hap_h2n_g11, hap_h2n_g13, hap_h2n_g27, hap_h2d_g11, hap_h2d_g13, hap_h2d_g27⟩ := hQ1
          exact ⟨A42, m43, c44, A45, m46, c47, hQe, h2n.ext hQ2, h2d.ext hQ2, h2m, hap_h2n_g11, hap_h2n_g13, hap_h2n_g27, hap_h2d_g11, hap_h2d_g13, hap_h2d_g27⟩
        · exact hQ1
        · obtain ⟨A42_5, m43_5, c44_5, A45_5, m46_5, c47_5, A51, m52, c53, A54, m55, c56, hQe, h2n_5, h2d_5, h2m_5, hap_h2n_g11_5, hap_h2n_g13_5, hap_h2n_g27_5, hap_h2d_g11_5, hap_h2d_g13_5, hap_h2d_g27_5, h3n, h3d, h3m, hap_h3n_g11, hap_h3n_g13, hap_h3n_g27, hap_h3d_g11, hap_h3d_g13, hap_h3d_g27⟩ := hQ1
          exact ⟨A42_5, m43_5, c44_5, A45_5, m46_5, c47_5, A51, m52, c53, A54, m55, c56, hQe, h2n_5.ext hQ2, h2d_5.ext hQ2, h2m_5, hap_h2n_g11_5, hap_h2n_g13_5, hap_h2n_g27_5, hap_h2d_g11_5, hap_h2d_g13_5, hap_h2d_g27_5, h3n.ext hQ2, h3d.ext hQ2, h3m, hap_h3n_g11, hap_h3n_g13, hap_h3n_g27, hap_h3d_g11, hap_h3d_g13, hap_h3d_g27⟩
        · obtain ⟨A42_5_6, m43_5_6, c44_5_6, A45_5_6, m46_5_6, c47_5_6, A51_6, m52_6, c53_6, A54_6, m55_6, c56_6, hQe, h2n_5_6, h2d_5_6, h2m_5_6, hap_h2n_g11_5_6, hap_h2n_g13_5_6, hap_h2n_g27_5_6, hap_h2d_g11_5_6, hap_h2d_g13_5_6, hap_h2d_g27_5_6, h3n_6, h3d_6, h3m_6, hap_h3n_g11_6, hap_h3n_g13_6, hap_h3n_g27_6, hap_h3d_g11_6, hap_h3d_g13_6, hap_h3d_g27_6⟩ := hQ1
          exact ⟨A42_5_6, m43_5_6, c44_5_6, A45_5_6, m46_5_6, c47_5_6, A51_6, m52_6, c53_6, A54_6, m55_6, c56_6, hQe, h2n_5_6.ext hQ2, h2d_5_6.ext hQ2, h2m_5_6, hap_h2n_g11_5_6, hap_h2n_g13_5_6, hap_h2n_g27_5_6, hap_h2d_g11_5_6, hap_h2d_g13_5_6, hap_h2d_g27_5_6, h3n_6.ext hQ2, h3d_6.ext hQ2, h3m_6, hap_h3n_g11_6, hap_h3n_g13_6, hap_h3n_g27_6, hap_h3d_g11_6, hap_h3d_g13_6, hap_h3d_g27_6⟩
        · obtain ⟨A42_5_6_7, m43_5_6_7, c44_5_6_7, A45_5_6_7, m46_5_6_7, c47_5_6_7, A51_6_7, m52_6_7, c53_6_7, A54_6_7, m55_6_7, c56_6_7, hQe, h2n_5_6_7, h2d_5_6_7, h2m_5_6_7, hap_h2n_g11_5_6_7, hap_h2n_g13_5_6_7, hap_h2n_g27_5_6_7, hap_h2d_g11_5_6_7, hap_h2d_g13_5_6_7, hap_h2d_g27_5_6_7, h3n_6_7, h3d_6_7, h3m_6_7, hap_h3n_g11_6_7, hap_h3n_g13_6_7, hap_h3n_g27_6_7, hap_h3d_g11_6_7, hap_h3d_g13_6_7, hap_h3d_g27_6_7⟩ := hQ1
          exact ⟨A42_5_6_7, m43_5_6_7, c44_5_6_7, A45_5_6_7, m46_5_6_7, c47_5_6_7, A51_6_7, m52_6_7, c53_6_7, A54_6_7, m55_6_7, c56_6_7, hQe, h2n_5_6_7.ext hQ2, h2d_5_6_7.ext hQ2, h2m_5_6_7, hap_h2n_g11_5_6_7, hap_h2n_g13_5_6_7, hap_h2n_g27_5_6_7, hap_h2d_g11_5_6_7, hap_h2d_g13_5_6_7, hap_h2d_g27_5_6_7, h3n_6_7.ext hQ2, h3d_6_7.ext hQ2, h3m_6_7, hap_h3n_g11_6_7, hap_h3n_g13_6_7, hap_h3n_g27_6_7, hap_h3d_g11_6_7, hap_h3d_g13_6_7, hap_h3d_g27_6_7⟩
        · exact hQ1
        · obtain ⟨g61, hQe, hVg61, hlt_g11_g61, hlt_g13_g61, hlt_g27_g61⟩ := hQ1
          exact ⟨g61, hQe, hVg61.ext hQ2, hlt_g11_g61, hlt_g13_g61, hlt_g27_g61⟩
      · refine ⟨⟨rfl, ⟨rfl, trivial⟩, ?_⟩, ⟨rfl, ⟨rfl, trivial⟩, ?_⟩, ⟨rfl, trivial, ?_⟩, ⟨rfl, trivial, ?_⟩, ⟨rfl, ⟨rfl, trivial⟩, ?_⟩, ⟨rfl, trivial, ?_⟩, ⟨rfl, trivial, ?_⟩, ⟨rfl, trivial, ?_⟩, ⟨rfl, trivial, ?_⟩, ⟨rfl, trivial, ?_⟩, trivial⟩
        · intro w33 hE
          have hE := hE rfl
          have hB := ext_trans hB hE
          have hVg11 := hVg11.ext hE
          intro R
          refine WL.loadV (cs := [.bool na, .slice Aan man can, .slice Aad mad cad]) Try.el31 Try.agg31 rfl rfl hVg11.vcells rfl ?_
          exact WL.done ⟨_, rfl, ext_refl _, rfl⟩
        · intro w34 hE
          have hE := hE rfl
          have hB := ext_trans hB hE
          have hVg13 := hVg13.ext hE
          intro R
          refine WL.loadV (cs := [.bool nb, .slice Abn mbn cbn, .slice Abd mbd cbd]) Try.el31 Try.agg31 rfl rfl hVg13.vcells rfl ?_
          exact WL.done ⟨_, rfl, ext_refl _, rfl⟩
        · intro w35 hE
          have hE := hE rfl
          have hB := ext_trans hB hE
          have han := han0.ext hB
          have had := had0.ext hB
          have hbn := hbn0.ext hB
          have hbd := hbd0.ext hB
          have hVg11 := hVg11.ext hE
          have hVg13 := hVg13.ext hE
          have hVg27 := hVg27.ext hE
          rintro _ rfl
          rintro _ rfl
          intro R
          refine WL.lit (b := w35.heap.size) (cells := [.bool na, .slice Aan man can, .slice Aad mad cad, .bool nb, .slice Abn mbn cbn, .slice Abd mbd cbd]) Try.underlying44 Try.el31 (by decide) ⟨_, rfl, by kernel_rfl⟩ rfl (Nat.le_refl _) rfl ?_
          rintro A36 w37 - hO38 hGw37
          have hap_hO38_g11 := ap_new hO38 (hVg11.bl_ge _ rfl).2
          have hap_hO38_g13 := ap_new hO38 (hVg13.bl_ge _ rfl).2
          have hap_hO38_g27 := ap_new hO38 (hVg27.bl_ge _ rfl).2
          have hO38 := hO38.low (b' := w.heap.size) hB.size
          have hB := ext_trans hB hGw37
          have han := han0.ext hB
          have had := had0.ext hB
          have hbn := hbn0.ext hB
          have hbd := hbd0.ext hB
          have hN39 : RatsR w37.heap.size w37 [.bool na, .slice Aan man can, .slice Aad mad cad, .bool nb, .slice Abn mbn cbn, .slice Abd mbd cbd] [(na, xan, xad), (nb, xbn, xbd)] := (RatsR.cons han.norm had.norm (RatsR.cons hbn.norm hbd.norm (RatsR.nil _ _)))
          exact WL.done ⟨_, rfl, hGw37, ⟨A36, rfl, hO38, hN39, hap_hO38_g11, hap_hO38_g13, hap_hO38_g27⟩⟩
        · intro w40 hE
          have hE := hE rfl
          have hB := ext_trans hB hE
          have hVg11 := hVg11.ext hE
          have hVg13 := hVg13.ext hE
          have hVg27 := hVg27.ext hE
          rintro _ ⟨A36, rfl, hO38, hN39, hap_hO38_g11, hap_hO38_g13, hap_hO38_g27⟩
          intro R
          refine WL.call Try.func34 rfl Try.nm34 rfl rfl (qMul2_c hO38.rd hN39 hLan hLad hLbn hLbd qa hqa qb hqb 16 (by omega) (by omega)) ?_
          rintro _ w41 ⟨A42, m43, c44, A45, m46, c47, rfl, hGw41, h2n, h2d, h2m⟩
          have hap_h2n_g11 := ap_new h2n (hVg11.bl_ge _ rfl).2
          have hap_h2n_g13 := ap_new h2n (hVg13.bl_ge _ rfl).2
          have hap_h2n_g27 := ap_new h2n (hVg27.bl_ge _ rfl).2
          have hap_h2d_g11 := ap_new h2d (hVg11.bl_ge _ rfl).2
          have hap_h2d_g13 := ap_new h2d (hVg13.bl_ge _ rfl).2
          have hap_h2d_g27 := ap_new h2d (hVg27.bl_ge _ rfl).2
          have h2n := h2n.low (b' := w.heap.size) hB.size
          have h2d := h2d.low (b' := w.heap.size) hB.size
          have hB := ext_trans hB hGw41
          have h2n_l := h2n.rd.ulen
          have h2d_l := h2d.rd.ulen
          exact WL.done ⟨_, rfl, hGw41, ⟨A42, m43, c44, A45, m46, c47, rfl, h2n, h2d, h2m, hap_h2n_g11, hap_h2n_g13, hap_h2n_g27, hap_h2d_g11, hap_h2d_g13, hap_h2d_g27⟩⟩
        · intro w48 hE
          have hE := hE rfl
          have hB := ext_trans hB hE
          have hVg13 := hVg13.ext hE
          intro R
          refine WL.loadV (cs := [.bool nb, .slice Abn mbn cbn, .slice Abd mbd cbd]) Try.el31 Try.agg31 rfl rfl hVg13.vcells rfl ?_
          exact WL.done ⟨_, rfl, ext_refl _, rfl⟩
        · intro w49 hE
          have hE := hE rfl
          have hB := ext_trans hB hE
          have hbn := hbn0.ext hB
          have hbd := hbd0.ext hB
          have hVg11 := hVg11.ext hE
          have hVg13 := hVg13.ext hE
          have hVg27 := hVg27.ext hE
          rintro _ ⟨A42, m43, c44, A45, m46, c47, rfl, h2n, h2d, h2m, hap_h2n_g11, hap_h2n_g13, hap_h2n_g27, hap_h2d_g11, hap_h2d_g13, hap_h2d_g27⟩
          rintro _ rfl
          intro R
          refine WL.call Try.func38 rfl Try.nm38 rfl rfl (qDiv_ok h2n.rd h2d.rd hbn hbd (digs_lim _) (digs_lim _) (qa * qb) (val_canon _) hLbn hLbd qb hqb (by omega) (by omega) (by assumption)) ?_
          rintro _ w50 ⟨A51, m52, c53, A54, m55, c56, rfl, hGw50, h3n, h3d, h3m⟩
          have hap_h3n_g11 := ap_new h3n (hVg11.bl_ge _ rfl).2
          have hap_h3n_g13 := ap_new h3n (hVg13.bl_ge _ rfl).2
          have hap_h3n_g27 := ap_new h3n (hVg27.bl_ge _ rfl).2
          have hap_h3d_g11 := ap_new h3d (hVg11.bl_ge _ rfl).2
          have hap_h3d_g13 := ap_new h3d (hVg13.bl_ge _ rfl).2
          have hap_h3d_g27 := ap_new h3d (hVg27.bl_ge _ rfl).2
          have h3n := h3n.low (b' := w.heap.size) hB.size
          have h3d := h3d.low (b' := w.heap.size) hB.size
          have hB := ext_trans hB hGw50
          have h2n := h2n.ext hGw50
          have h2d := h2d.ext hGw50
          have h3n_l := h3n.rd.ulen
          have h3d_l := h3d.rd.ulen
          exact WL.done ⟨_, rfl, hGw50, ⟨A42, m43, c44, A45, m46, c47, A51, m52, c53, A54, m55, c56, rfl, h2n, h2d, h2m, hap_h2n_g11, hap_h2n_g13, hap_h2n_g27, hap_h2d_g11, hap_h2d_g13, hap_h2d_g27, h3n, h3d, h3m, hap_h3n_g11, hap_h3n_g13, hap_h3n_g27, hap_h3d_g11, hap_h3d_g13, hap_h3d_g27⟩⟩
        · intro w57 hE
          rintro _ ⟨A42_5, m43_5, c44_5, A45_5, m46_5, c47_5, A51, m52, c53, A54, m55, c56, rfl, h2n_5, h2d_5, h2m_5, hap_h2n_g11_5, hap_h2n_g13_5, hap_h2n_g27_5, hap_h2d_g11_5, hap_h2d_g13_5, hap_h2d_g27_5, h3n, h3d, h3m, hap_h3n_g11, hap_h3n_g13, hap_h3n_g27, hap_h3d_g11, hap_h3d_g13, hap_h3d_g27⟩
          intro R
          refine WL.move rfl rfl ?_
          exact WL.done ⟨_, rfl, rfl, ⟨A42_5, m43_5, c44_5, A45_5, m46_5, c47_5, A51, m52, c53, A54, m55, c56, rfl, h2n_5, h2d_5, h2m_5, hap_h2n_g11_5, hap_h2n_g13_5, hap_h2n_g27_5, hap_h2d_g11_5, hap_h2d_g13_5, hap_h2d_g27_5, h3n, h3d, h3m, hap_h3n_g11, hap_h3n_g13, hap_h3n_g27, hap_h3d_g11, hap_h3d_g13, hap_h3d_g27⟩⟩
        · intro w58 hE
          rintro _ ⟨A42_5_6, m43_5_6, c44_5_6, A45_5_6, m46_5_6, c47_5_6, A51_6, m52_6, c53_6, A54_6, m55_6, c56_6, rfl, h2n_5_6, h2d_5_6, h2m_5_6, hap_h2n_g11_5_6, hap_h2n_g13_5_6, hap_h2n_g27_5_6, hap_h2d_g11_5_6, hap_h2d_g13_5_6, hap_h2d_g27_5_6, h3n_6, h3d_6, h3m_6, hap_h3n_g11_6, hap_h3n_g13_6, hap_h3n_g27_6, hap_h3d_g11_6, hap_h3d_g13_6, hap_h3d_g27_6⟩
          intro R
          refine WL.extract rfl rfl rfl ?_
          exact WL.done ⟨_, rfl, rfl, ⟨A42_5_6, m43_5_6, c44_5_6, A45_5_6, m46_5_6, c47_5_6, A51_6, m52_6, c53_6, A54_6, m55_6, c56_6, rfl, h2n_5_6, h2d_5_6, h2m_5_6, hap_h2n_g11_5_6, hap_h2n_g13_5_6, hap_h2n_g27_5_6, hap_h2d_g11_5_6, hap_h2d_g13_5_6, hap_h2d_g27_5_6, h3n_6, h3d_6, h3m_6, hap_h3n_g11_6, hap_h3n_g13_6, hap_h3n_g27_6, hap_h3d_g11_6, hap_h3d_g13_6, hap_h3d_g27_6⟩⟩
        · intro w59 hE
          rintro _ ⟨A42_5_6, m43_5_6, c44_5_6, A45_5_6, m46_5_6, c47_5_6, A51_6, m52_6, c53_6, A54_6, m55_6, c56_6, rfl, h2n_5_6, h2d_5_6, h2m_5_6, hap_h2n_g11_5_6, hap_h2n_g13_5_6, hap_h2n_g27_5_6, hap_h2d_g11_5_6, hap_h2d_g13_5_6, hap_h2d_g27_5_6, h3n_6, h3d_6, h3m_6, hap_h3n_g11_6, hap_h3n_g13_6, hap_h3n_g27_6, hap_h3d_g11_6, hap_h3d_g13_6, hap_h3d_g27_6⟩
          intro R
          refine WL.extract rfl rfl rfl ?_
          exact WL.done ⟨_, rfl, rfl, rfl⟩
        · intro w60 hE
          have hE := hE rfl
          have hB := ext_trans hB hE
          have hVg11 := hVg11.ext hE
          have hVg13 := hVg13.ext hE
          have hVg27 := hVg27.ext hE
          intro R
          refine WL.alloc Try.el31 rfl ?_
          intro g61 w62 hg_g61 hVg61 hGw62
          change Own _ _ _ _ _ _ _ [.bool false, .slice none 0 0, .slice none 0 0] at hVg61
          have hlt_g11_g61 : g11 < g61 := by rw [hg_g61]; exact (hVg11.bl_ge _ rfl).2
          have hlt_g13_g61 : g13 < g61 := by rw [hg_g61]; exact (hVg13.bl_ge _ rfl).2
          have hlt_g27_g61 : g27 < g61 := by rw [hg_g61]; exact (hVg27.bl_ge _ rfl).2
          have hVg61 := hVg61.low (b' := w.heap.size) hB.size
          have hB := ext_trans hB hGw62
          exact WL.done ⟨_, rfl, hGw62, ⟨g61, rfl, hVg61, hlt_g11_g61, hlt_g13_g61, hlt_g27_g61⟩⟩
      · intro vals w63 hT hVs
        have hB := ext_trans hB hT
        have han := han0.ext hB
        have had := had0.ext hB
        have hbn := hbn0.ext hB
        have hbd := hbd0.ext hB
        have hVg11 := hVg11.ext hT
        have hVg13 := hVg13.ext hT
        have h1n := h1n.ext hT
        have h1d := h1d.ext hT
        have hVg27 := hVg27.ext hT
        have hv0 : vals 0 = _ := hVs 0 (by decide)
        have hv1 : vals 1 = _ := hVs 1 (by decide)
        obtain ⟨A36, hv2, hO38, hN39, hap_hO38_g11, hap_hO38_g13, hap_hO38_g27⟩ := hVs 2 (by decide)
        obtain ⟨A42, m43, c44, A45, m46, c47, hv3, h2n, h2d, h2m, hap_h2n_g11, hap_h2n_g13, hap_h2n_g27, hap_h2d_g11, hap_h2d_g13, hap_h2d_g27⟩ := hVs 3 (by decide)
        have hv4 : vals 4 = _ := hVs 4 (by decide)
        obtain ⟨A42_5, m43_5, c44_5, A45_5, m46_5, c47_5, A51, m52, c53, A54, m55, c56, hv5, h2n_5, h2d_5, h2m_5, hap_h2n_g11_5, hap_h2n_g13_5, hap_h2n_g27_5, hap_h2d_g11_5, hap_h2d_g13_5, hap_h2d_g27_5, h3n, h3d, h3m, hap_h3n_g11, hap_h3n_g13, hap_h3n_g27, hap_h3d_g11, hap_h3d_g13, hap_h3d_g27⟩ := hVs 5 (by decide)
        obtain ⟨A42_5_6, m43_5_6, c44_5_6, A45_5_6, m46_5_6, c47_5_6, A51_6, m52_6, c53_6, A54_6, m55_6, c56_6, hv6, h2n_5_6, h2d_5_6, h2m_5_6, hap_h2n_g11_5_6, hap_h2n_g13_5_6, hap_h2n_g27_5_6, hap_h2d_g11_5_6, hap_h2d_g13_5_6, hap_h2d_g27_5_6, h3n_6, h3d_6, h3m_6, hap_h3n_g11_6, hap_h3n_g13_6, hap_h3n_g27_6, hap_h3d_g11_6, hap_h3d_g13_6, hap_h3d_g27_6⟩ := hVs 6 (by decide)
        obtain ⟨A42_5_6_7, m43_5_6_7, c44_5_6_7, A45_5_6_7, m46_5_6_7, c47_5_6_7, A51_6_7, m52_6_7, c53_6_7, A54_6_7, m55_6_7, c56_6_7, hv7, h2n_5_6_7, h2d_5_6_7, h2m_5_6_7, hap_h2n_g11_5_6_7, hap_h2n_g13_5_6_7, hap_h2n_g27_5_6_7, hap_h2d_g11_5_6_7, hap_h2d_g13_5_6_7, hap_h2d_g27_5_6_7, h3n_6_7, h3d_6_7, h3m_6_7, hap_h3n_g11_6_7, hap_h3n_g13_6_7, hap_h3n_g27_6_7, hap_h3d_g11_6_7, hap_h3d_g13_6_7, hap_h3d_g27_6_7⟩ := hVs 7 (by decide)
        have hv8 : vals 8 = _ := hVs 8 (by decide)
        obtain ⟨g61, hv9, hVg61, hlt_g11_g61, hlt_g13_g61, hlt_g27_g61⟩ := hVs 9 (by decide)
        have hap_h1n_g61 := ap_type h1n hVg61 (by decide)
        have hap_h1d_g61 := ap_type h1d hVg61 (by decide)
        have hap_h3n_6_7_g61 := ap_type h3n_6_7 hVg61 (by decide)
        have hap_h3d_6_7_g61 := ap_type h3d_6_7 hVg61 (by decide)
        rw [show (List.filterMap (fun i => Option.map (fun t => (t, vals i)) (dstAt _ i)) (List.range _)) = [(29, .agg #[.bool na, .slice Aan man can, .slice Aad mad cad]), (30, .agg #[.bool nb, .slice Abn mbn cbn, .slice Abd mbd cbd]), (31, .slice A36 2 2), (32, .agg #[.bool (qneg (qa * qb)), .slice A42 m43 c44, .slice A45 m46 c47]), (33, .agg #[.bool nb, .slice Abn mbn cbn, .slice Abd mbd cbd]), (34, .tuple #[.agg #[.bool (qneg ((qa * qb) * qb⁻¹)), .slice A51 m52 c53, .slice A54 m55 c56], .int .i64 (0 : Int)]), (28, .tuple #[.agg #[.bool (qneg ((qa * qb) * qb⁻¹)), .slice A51_6 m52_6 c53_6, .slice A54_6 m55_6 c56_6], .int .i64 (0 : Int)]), (35, .agg #[.bool (qneg ((qa * qb) * qb⁻¹)), .slice A51_6_7 m52_6_7 c53_6_7, .slice A54_6_7 m55_6_7 c56_6_7]), (36, .int .i64 (0 : Int)), (7, .pointer (some ⟨g61, 0, none⟩))] from by
          show [(29, vals 0), (30, vals 1), (31, vals 2), (32, vals 3), (33, vals 4), (34, vals 5), (28, vals 6), (35, vals 7), (36, vals 8), (7, vals 9)] = _
          rw [hv0, hv1, hv2, hv3, hv4, hv5, hv6, hv7, hv8, hv9]]
        refine WA.step [10] (by decide +kernel) rfl ?_
        intro iQ hQ
        simp only [List.mem_cons, List.not_mem_nil, or_false] at hQ
        obtain rfl := hQ
        · refine ⟨_, rfl, ?_⟩
          refine WL.storeV Try.el31 rfl rfl rfl rfl hVg61 ?_
          have hOld65 := hVg61
          intro w64 hVg61 hGw64
          change Own _ _ _ _ _ _ _ [.bool (qneg ((qa * qb) * qb⁻¹)), .slice A51_6_7 m52_6_7 c53_6_7, .slice A54_6_7 m55_6_7 c56_6_7] at hVg61
          have hB := ext_own hB hGw64 (fun g hg => (hOld65.bl_ge g hg).1)
          have han := han0.ext hB
          have had := had0.ext hB
          have hbn := hbn0.ext hB
          have hbd := hbd0.ext hB
          have hVg11 := hVg11.grown hGw64 (apart (by omega))
          have hVg13 := hVg13.grown hGw64 (apart (by omega))
          have h1n := h1n.grown hGw64 (ap_row hap_h1n_g61)
          have h1d := h1d.grown hGw64 (ap_row hap_h1d_g61)
          have hVg27 := hVg27.grown hGw64 (apart (by omega))
          have h3n_6_7 := h3n_6_7.grown hGw64 (ap_row hap_h3n_6_7_g61)
          have h3d_6_7 := h3d_6_7.grown hGw64 (ap_row hap_h3d_6_7_g61)
          refine WL.done ?_
          refine WA.step [11] (by decide +kernel) rfl ?_
          intro iQ hQ
          simp only [List.mem_cons, List.not_mem_nil, or_false] at hQ
          obtain rfl := hQ
          · refine ⟨_, rfl, ?_⟩
            refine WL.assign rfl rfl ?_
            refine WL.done ?_
            refine WA.done (by decide +kernel) ?_
            refine W.seq ?_
            refine W.drawT 25 [⟨[], [6], true⟩, ⟨[0], [], true⟩, ⟨[1], [], true⟩, ⟨[2], [8], true⟩, ⟨[2, 3], [], true⟩, ⟨[2, 4], [], true⟩, ⟨[5], [], true⟩, ⟨[6], [5], false⟩, ⟨[6, 7], [], false⟩, ⟨[6, 8], [], true⟩, ⟨[9], [], true⟩, ⟨[10], [5], false⟩, ⟨[10], [3], false⟩, ⟨[10, 11, 12], [], false⟩, ⟨[10, 13], [], false⟩, ⟨[10], [2], false⟩, ⟨[10, 15], [], false⟩, ⟨[10, 14, 16], [], false⟩, ⟨[10, 17], [], true⟩, ⟨[18], [], true⟩, ⟨[19], [7], false⟩, ⟨[19], [2], false⟩, ⟨[19, 21], [], false⟩, ⟨[19, 20, 22], [], false⟩, ⟨[19, 23], [], true⟩] [[(6, .int .i64 (0 : Int))], [], [], [(8, .int .i64 (0 : Int))], [], [], [], [(5, .pointer (some ⟨g27, 0, none⟩))], [], [], [], [(5, .pointer (some ⟨g27, 0, none⟩))], [(3, .pointer (some ⟨g13, 0, none⟩))], [], [], [(2, .pointer (some ⟨g11, 0, none⟩))], [], [], [], [], [(7, .pointer (some ⟨g61, 0, none⟩))], [(2, .pointer (some ⟨g11, 0, none⟩))], [], [], []] (fun iQ => [fun v wQ => v = .int .i64 (0 : Int), fun v wQ => v = .bool true, fun v wQ => v = .bool true, fun v wQ => v = .int .i64 (0 : Int), fun v wQ => v = .bool true, fun v wQ => v = .bool true, fun v wQ => v = .bool true, fun v wQ => v = .agg #[.bool (qneg (qa * qb⁻¹)), .slice A21 m22 c23, .slice A24 m25 c26], fun v wQ => v = .bool true, fun v wQ => v = .bool true, fun v wQ => v = .bool true, fun v wQ => v = .agg #[.bool (qneg (qa * qb⁻¹)), .slice A21 m22 c23, .slice A24 m25 c26], fun v wQ => v = .agg #[.bool nb, .slice Abn mbn cbn, .slice Abd mbd cbd], fun v wQ => ∃ A81, v = .slice A81 2 2 ∧ (Own w.heap.size wQ 31 3 A81 2 2 [.bool (qneg (qa * qb⁻¹)), .slice A21 m22 c23, .slice A24 m25 c26, .bool nb, .slice Abn mbn cbn, .slice Abd mbd cbd]) ∧ (RatsR wQ.heap.size wQ [.bool (qneg (qa * qb⁻¹)), .slice A21 m22 c23, .slice A24 m25 c26, .bool nb, .slice Abn mbn cbn, .slice Abd mbd cbd] [((qneg (qa * qb⁻¹)), digs (qnum (qa * qb⁻¹)), digs (Rat.den (qa * qb⁻¹))), (nb, xbn, xbd)]) ∧ (∀ k, bl A81 = some k → k ≠ g11) ∧ (∀ k, bl A81 = some k → k ≠ g13) ∧ (∀ k, bl A81 = some k → k ≠ g27) ∧ (∀ k, bl A81 = some k → k ≠ g61), fun v wQ => ∃ A87 m88 c89 A90 m91 c92, v = .agg #[.bool (qneg ((qa * qb⁻¹) * qb)), .slice A87 m88 c89, .slice A90 m91 c92] ∧ (Own w.heap.size wQ 43 1 A87 m88 c89 (us (digs (qnum ((qa * qb⁻¹) * qb))))) ∧ (Own w.heap.size wQ 43 1 A90 m91 c92 (us (digs (Rat.den ((qa * qb⁻¹) * qb))))) ∧ (m88 ≤ 405 ∧ m91 ≤ 405) ∧ (∀ k, bl A87 = some k → k ≠ g11) ∧ (∀ k, bl A87 = some k → k ≠ g13) ∧ (∀ k, bl A87 = some k → k ≠ g27) ∧ (∀ k, bl A87 = some k → k ≠ g61) ∧ (∀ k, bl A90 = some k → k ≠ g11) ∧ (∀ k, bl A90 = some k → k ≠ g13) ∧ (∀ k, bl A90 = some k → k ≠ g27) ∧ (∀ k, bl A90 = some k → k ≠ g61), fun v wQ => v = .agg #[.bool na, .slice Aan man can, .slice Aad mad cad], fun v wQ => ∃ A96 m97 c98 A99 m100 c101, v = .agg #[.bool (qneg (qa)), .slice A96 m97 c98, .slice A99 m100 c101] ∧ (Own w.heap.size wQ 43 1 A96 m97 c98 (us (digs (qnum (qa))))) ∧ (Own w.heap.size wQ 43 1 A99 m100 c101 (us (digs (Rat.den (qa))))) ∧ (m97 ≤ man ∧ m100 ≤ mad + 1) ∧ (∀ k, bl A96 = some k → k ≠ g11) ∧ (∀ k, bl A96 = some k → k ≠ g13) ∧ (∀ k, bl A96 = some k → k ≠ g27) ∧ (∀ k, bl A96 = some k → k ≠ g61) ∧ (∀ k, bl A99 = some k → k ≠ g11) ∧ (∀ k, bl A99 = some k → k ≠ g13) ∧ (∀ k, bl A99 = some k → k ≠ g27) ∧ (∀ k, bl A99 = some k → k ≠ g61), fun v wQ => v = .bool true, fun v wQ => v = .bool true, fun v wQ => v = .bool true, fun v wQ => v = .agg #[.bool (qneg ((qa * qb) * qb⁻¹)), .slice A51_6_7 m52_6_7 c53_6_7, .slice A54_6_7 m55_6_7 c56_6_7], fun v wQ => v = .agg #[.bool na, .slice Aan man can, .slice Aad mad cad], fun v wQ => ∃ A110 m111 c112 A113 m114 c115, v = .agg #[.bool (qneg (qa)), .slice A110 m111 c112, .slice A113 m114 c115] ∧ (Own w.heap.size wQ 43 1 A110 m111 c112 (us (digs (qnum (qa))))) ∧ (Own w.heap.size wQ 43 1 A113 m114 c115 (us (digs (Rat.den (qa))))) ∧ (m111 ≤ man ∧ m114 ≤ mad + 1) ∧ (∀ k, bl A110 = some k → k ≠ g11) ∧ (∀ k, bl A110 = some k → k ≠ g13) ∧ (∀ k, bl A110 = some k → k ≠ g27) ∧ (∀ k, bl A110 = some k → k ≠ g61) ∧ (∀ k, bl A113 = some k → k ≠ g11) ∧ (∀ k, bl A113 = some k → k ≠ g13) ∧ (∀ k, bl A113 = some k → k ≠ g27) ∧ (∀ k, bl A113 = some k → k ≠ g61), fun v wQ => v = .bool true, fun v wQ => v = .bool true].getD iQ (fun _ _ => True)) Try.mixed (by kernel_rfl) ?_ ?_ ?_
            · refine Vs_monoT _ ?_
              intro VQ hVQ vQ wQ1 wQ2 hQ1 hQ2
              simp only [List.mem_cons, List.not_mem_nil, or_false] at hVQ
              rcases hVQ with rfl | rfl | rfl | rfl | rfl | rfl | rfl | rfl | rfl | rfl | rfl | rfl | rfl | rfl | rfl | rfl | rfl | rfl | rfl | rfl | rfl | rfl | rfl | rfl | rfl
              · exact hQ1
              · exact hQ1
              · exact hQ1
              · exact hQ1
              · exact hQ1
              · exact hQ1
              · exact hQ1
              · exact hQ1
              · exact hQ1
              · exact hQ1
              · exact hQ1
              · exact hQ1
              · exact hQ1
              · obtain ⟨A81, hQe, hO83, hN84, hap_hO83_g11, hap_hO83_g13, hap_hO83_g27, hap_hO83_g61⟩ := hQ1
                exact ⟨A81, hQe, hO83.ext hQ2, (hN84.ext hQ2).norm, hap_hO83_g11, hap_hO83_g13, hap_hO83_g27, hap_hO83_g61⟩
              · obtain ⟨A87, m88, c89, A90, m91, c92, hQe, h4n, h4d, h4m, hap_h4n_g11, hap_h4n_g13, hap_h4n_g27, hap_h4n_g61, hap_h4d_g11, hap_h4d_g13, hap_h4d_g27, hap_h4d_g61⟩ := hQ1
                exact ⟨A87, m88, c89, A90, m91, c92, hQe, h4n.ext hQ2, h4d.ext hQ2, h4m, hap_h4n_g11, hap_h4n_g13, hap_h4n_g27, hap_h4n_g61, hap_h4d_g11, hap_h4d_g13, hap_h4d_g27, hap_h4d_g61⟩
              · exact hQ1
              · obtain ⟨A96, m97, c98, A99, m100, c101, hQe, h5n, h5d, h5m, hap_h5n_g11, hap_h5n_g13, hap_h5n_g27, hap_h5n_g61, hap_h5d_g11, hap_h5d_g13, hap_h5d_g27, hap_h5d_g61⟩ := hQ1
                exact ⟨A96, m97, c98, A99, m100, c101, hQe, h5n.ext hQ2, h5d.ext hQ2, h5m, hap_h5n_g11, hap_h5n_g13, hap_h5n_g27, hap_h5n_g61, hap_h5d_g11, hap_h5d_g13, hap_h5d_g27, hap_h5d_g61⟩
              · exact hQ1
              · exact hQ1
              · exact hQ1
              · exact hQ1
              · exact hQ1
              · obtain ⟨A110, m111, c112, A113, m114, c115, hQe, h6n, h6d, h6m, hap_h6n_g11, hap_h6n_g13, hap_h6n_g27, hap_h6n_g61, hap_h6d_g11, hap_h6d_g13, hap_h6d_g27, hap_h6d_g61⟩ := hQ1
                exact ⟨A110, m111, c112, A113, m114, c115, hQe, h6n.ext hQ2, h6d.ext hQ2, h6m, hap_h6n_g11, hap_h6n_g13, hap_h6n_g27, hap_h6n_g61, hap_h6d_g11, hap_h6d_g13, hap_h6d_g27, hap_h6d_g61⟩
              · exact hQ1
              · exact hQ1
            · refine ⟨⟨rfl, ⟨rfl, trivial⟩, ?_⟩, ⟨rfl, trivial, ?_⟩, ⟨rfl, trivial, ?_⟩, ⟨rfl, ⟨rfl, trivial⟩, ?_⟩, ⟨rfl, trivial, ?_⟩, ⟨rfl, trivial, ?_⟩, ⟨rfl, trivial, ?_⟩, ⟨rfl, ⟨rfl, trivial⟩, ?_⟩, ⟨rfl, trivial, ?_⟩, ⟨rfl, trivial, ?_⟩, ⟨rfl, trivial, ?_⟩, ⟨rfl, ⟨rfl, trivial⟩, ?_⟩, ⟨rfl, ⟨rfl, trivial⟩, ?_⟩, ⟨rfl, trivial, ?_⟩, ⟨rfl, trivial, ?_⟩, ⟨rfl, ⟨rfl, trivial⟩, ?_⟩, ⟨rfl, trivial, ?_⟩, ⟨rfl, trivial, ?_⟩, ⟨rfl, trivial, ?_⟩, ⟨rfl, trivial, ?_⟩, ⟨rfl, ⟨rfl, trivial⟩, ?_⟩, ⟨rfl, ⟨rfl, trivial⟩, ?_⟩, ⟨rfl, trivial, ?_⟩, ⟨rfl, trivial, ?_⟩, ⟨rfl, trivial, ?_⟩, trivial⟩
              · intro w66 hE
                intro R
                refine WL.move rfl rfl ?_
                exact WL.done ⟨_, rfl, rfl, rfl⟩
              · intro w67 hE
                rintro _ rfl
                intro R
                refine WL.eqlD rfl rfl rfl ?_
                exact WL.done ⟨_, rfl, rfl, rfl⟩
              · intro w68 hE
                rintro _ rfl
                intro R
                refine WL.move rfl rfl ?_
                exact WL.done ⟨_, rfl, rfl, rfl⟩
              · intro w69 hE
                rintro _ rfl
                intro R
                refine WL.take rfl ?_
                refine WL.move rfl rfl ?_
                exact WL.done ⟨_, rfl, rfl, rfl⟩
              · intro w70 hE
                rintro _ rfl
                rintro _ rfl
                intro R
                refine WL.take rfl ?_
                refine WL.eqlD rfl rfl rfl ?_
                exact WL.done ⟨_, rfl, rfl, rfl⟩
              · intro w71 hE
                rintro _ rfl
                rintro _ rfl
                intro R
                refine WL.pick rfl rfl rfl ?_
                exact WL.done ⟨_, rfl, rfl, rfl⟩
              · intro w72 hE
                rintro _ rfl
                intro R
                refine WL.move rfl rfl ?_
                exact WL.done ⟨_, rfl, rfl, rfl⟩
              · intro w73 hE
                have hE := hE rfl
                have hB := ext_trans hB hE
                have hVg27 := hVg27.ext hE
                rintro _ rfl
                intro R
                refine WL.take rfl ?_
                refine WL.loadV (cs := [.bool (qneg (qa * qb⁻¹)), .slice A21 m22 c23, .slice A24 m25 c26]) Try.el31 Try.agg31 rfl rfl hVg27.vcells rfl ?_
                exact WL.done ⟨_, rfl, ext_refl _, rfl⟩
              · intro w74 hE
                have hE := hE rfl
                have hB := ext_trans hB hE
                have h1n := h1n.ext hE
                have h1d := h1d.ext hE
                rintro _ rfl
                rintro _ rfl
                intro R
                refine WL.take rfl ?_
                refine WL.call Try.func21 rfl Try.nm21 rfl rfl (qIs_t h1n.rd h1d.rd (digs_lim _) (digs_lim _) (qa * qb⁻¹) (val_canon _) (by omega)) ?_
                rintro _ w75 ⟨rfl, hGw75⟩
                have hB := ext_trans hB hGw75
                exact WL.done ⟨_, rfl, hGw75, rfl⟩
              · intro w76 hE
                rintro _ rfl
                rintro _ rfl
                intro R
                refine WL.pick rfl rfl rfl ?_
                exact WL.done ⟨_, rfl, rfl, rfl⟩
              · intro w77 hE
                rintro _ rfl
                intro R
                refine WL.move rfl rfl ?_
                exact WL.done ⟨_, rfl, rfl, rfl⟩
              · intro w78 hE
                have hE := hE rfl
                have hB := ext_trans hB hE
                have hVg27 := hVg27.ext hE
                rintro _ rfl
                intro R
                refine WL.take rfl ?_
                refine WL.loadV (cs := [.bool (qneg (qa * qb⁻¹)), .slice A21 m22 c23, .slice A24 m25 c26]) Try.el31 Try.agg31 rfl rfl hVg27.vcells rfl ?_
                exact WL.done ⟨_, rfl, ext_refl _, rfl⟩
              · intro w79 hE
                have hE := hE rfl
                have hB := ext_trans hB hE
                have hVg13 := hVg13.ext hE
                rintro _ rfl
                intro R
                refine WL.take rfl ?_
                refine WL.loadV (cs := [.bool nb, .slice Abn mbn cbn, .slice Abd mbd cbd]) Try.el31 Try.agg31 rfl rfl hVg13.vcells rfl ?_
                exact WL.done ⟨_, rfl, ext_refl _, rfl⟩
              · intro w80 hE
                have hE := hE rfl
                have hB := ext_trans hB hE
                have hbn := hbn0.ext hB
                have hbd := hbd0.ext hB
                have hVg11 := hVg11.ext hE
                have hVg13 := hVg13.ext hE
                have h1n := h1n.ext hE
                have h1d := h1d.ext hE
                have hVg27 := hVg27.ext hE
                have hVg61 := hVg61.ext hE
                rintro _ rfl
                rintro _ rfl
                rintro _ rfl
                intro R
                refine WL.take rfl ?_
                refine WL.lit (b := w80.heap.size) (cells := [.bool (qneg (qa * qb⁻¹)), .slice A21 m22 c23, .slice A24 m25 c26, .bool nb, .slice Abn mbn cbn, .slice Abd mbd cbd]) Try.underlying44 Try.el31 (by decide) ⟨_, rfl, by kernel_rfl⟩ rfl (Nat.le_refl _) rfl ?_
                rintro A81 w82 - hO83 hGw82
                have hap_hO83_g11 := ap_new hO83 (hVg11.bl_ge _ rfl).2
                have hap_hO83_g13 := ap_new hO83 (hVg13.bl_ge _ rfl).2
                have hap_hO83_g27 := ap_new hO83 (hVg27.bl_ge _ rfl).2
                have hap_hO83_g61 := ap_new hO83 (hVg61.bl_ge _ rfl).2
                have hO83 := hO83.low (b' := w.heap.size) hB.size
                have hB := ext_trans hB hGw82
                have hbn := hbn0.ext hB
                have hbd := hbd0.ext hB
                have h1n := h1n.ext hGw82
                have h1d := h1d.ext hGw82
                have hN84 : RatsR w82.heap.size w82 [.bool (qneg (qa * qb⁻¹)), .slice A21 m22 c23, .slice A24 m25 c26, .bool nb, .slice Abn mbn cbn, .slice Abd mbd cbd] [((qneg (qa * qb⁻¹)), digs (qnum (qa * qb⁻¹)), digs (Rat.den (qa * qb⁻¹))), (nb, xbn, xbd)] := (RatsR.cons h1n.rd.norm h1d.rd.norm (RatsR.cons hbn.norm hbd.norm (RatsR.nil _ _)))
                exact WL.done ⟨_, rfl, hGw82, ⟨A81, rfl, hO83, hN84, hap_hO83_g11, hap_hO83_g13, hap_hO83_g27, hap_hO83_g61⟩⟩
              · intro w85 hE
                have hE := hE rfl
                have hB := ext_trans hB hE
                have hVg11 := hVg11.ext hE
                have hVg13 := hVg13.ext hE
                have hVg27 := hVg27.ext hE
                have hVg61 := hVg61.ext hE
                rintro _ rfl
                rintro _ ⟨A81, rfl, hO83, hN84, hap_hO83_g11, hap_hO83_g13, hap_hO83_g27, hap_hO83_g61⟩
                intro R
                refine WL.take rfl ?_
                refine WL.call Try.func34 rfl Try.nm34 rfl rfl (qMul2_c hO83.rd hN84 (digs_lim _) (digs_lim _) hLbn hLbd (qa * qb⁻¹) (val_canon _) qb hqb 100 (by omega) (by omega)) ?_
                rintro _ w86 ⟨A87, m88, c89, A90, m91, c92, rfl, hGw86, h4n, h4d, h4m⟩
                have hap_h4n_g11 := ap_new h4n (hVg11.bl_ge _ rfl).2
                have hap_h4n_g13 := ap_new h4n (hVg13.bl_ge _ rfl).2
                have hap_h4n_g27 := ap_new h4n (hVg27.bl_ge _ rfl).2
                have hap_h4n_g61 := ap_new h4n (hVg61.bl_ge _ rfl).2
                have hap_h4d_g11 := ap_new h4d (hVg11.bl_ge _ rfl).2
                have hap_h4d_g13 := ap_new h4d (hVg13.bl_ge _ rfl).2
                have hap_h4d_g27 := ap_new h4d (hVg27.bl_ge _ rfl).2
                have hap_h4d_g61 := ap_new h4d (hVg61.bl_ge _ rfl).2
                have h4n := h4n.low (b' := w.heap.size) hB.size
                have h4d := h4d.low (b' := w.heap.size) hB.size
                have hB := ext_trans hB hGw86
                have h4n_l := h4n.rd.ulen
                have h4d_l := h4d.rd.ulen
                exact WL.done ⟨_, rfl, hGw86, ⟨A87, m88, c89, A90, m91, c92, rfl, h4n, h4d, h4m, hap_h4n_g11, hap_h4n_g13, hap_h4n_g27, hap_h4n_g61, hap_h4d_g11, hap_h4d_g13, hap_h4d_g27, hap_h4d_g61⟩⟩
              · intro w93 hE
                have hE := hE rfl
                have hB := ext_trans hB hE
                have hVg11 := hVg11.ext hE
                rintro _ rfl
                intro R
                refine WL.take rfl ?_
                refine WL.loadV (cs := [.bool na, .slice Aan man can, .slice Aad mad cad]) Try.el31 Try.agg31 rfl rfl hVg11.vcells rfl ?_
                exact WL.done ⟨_, rfl, ext_refl _, rfl⟩
              · intro w94 hE
                have hE := hE rfl
                have hB := ext_trans hB hE
                have han := han0.ext hB
                have had := had0.ext hB
                have hVg11 := hVg11.ext hE
                have hVg13 := hVg13.ext hE
                have hVg27 := hVg27.ext hE
                have hVg61 := hVg61.ext hE
                rintro _ rfl
                rintro _ rfl
                intro R
                refine WL.take rfl ?_
                refine WL.call Try.func19 rfl Try.nm19 rfl rfl (qTrim_c han had hLan hLad qa hqa (by omega)) ?_
                rintro _ w95 ⟨A96, m97, c98, A99, m100, c101, rfl, hGw95, h5n, h5d, h5m⟩
                have hap_h5n_g11 := ap_new h5n (hVg11.bl_ge _ rfl).2
                have hap_h5n_g13 := ap_new h5n (hVg13.bl_ge _ rfl).2
                have hap_h5n_g27 := ap_new h5n (hVg27.bl_ge _ rfl).2
                have hap_h5n_g61 := ap_new h5n (hVg61.bl_ge _ rfl).2
                have hap_h5d_g11 := ap_new h5d (hVg11.bl_ge _ rfl).2
                have hap_h5d_g13 := ap_new h5d (hVg13.bl_ge _ rfl).2
                have hap_h5d_g27 := ap_new h5d (hVg27.bl_ge _ rfl).2
                have hap_h5d_g61 := ap_new h5d (hVg61.bl_ge _ rfl).2
                have h5n := h5n.low (b' := w.heap.size) hB.size
                have h5d := h5d.low (b' := w.heap.size) hB.size
                have hB := ext_trans hB hGw95
                have h5n_l := h5n.rd.ulen
                have h5d_l := h5d.rd.ulen
                exact WL.done ⟨_, rfl, hGw95, ⟨A96, m97, c98, A99, m100, c101, rfl, h5n, h5d, h5m, hap_h5n_g11, hap_h5n_g13, hap_h5n_g27, hap_h5n_g61, hap_h5d_g11, hap_h5d_g13, hap_h5d_g27, hap_h5d_g61⟩⟩
              · intro w102 hE
                have hE := hE rfl
                have hB := ext_trans hB hE
                rintro _ rfl
                rintro _ ⟨A87, m88, c89, A90, m91, c92, rfl, h4n, h4d, h4m, hap_h4n_g11, hap_h4n_g13, hap_h4n_g27, hap_h4n_g61, hap_h4d_g11, hap_h4d_g13, hap_h4d_g27, hap_h4d_g61⟩
                rintro _ ⟨A96, m97, c98, A99, m100, c101, rfl, h5n, h5d, h5m, hap_h5n_g11, hap_h5n_g13, hap_h5n_g27, hap_h5n_g61, hap_h5d_g11, hap_h5d_g13, hap_h5d_g27, hap_h5d_g61⟩
                intro R
                refine WL.take rfl ?_
                refine WL.call Try.func18 rfl Try.nm18 rfl rfl (qsame_t h4n.rd h4d.rd h5n.rd h5d.rd (can_eq (div_mul_q hz))) ?_
                rintro _ w103 ⟨rfl, hGw103⟩
                have hB := ext_trans hB hGw103
                exact WL.done ⟨_, rfl, hGw103, rfl⟩
              · intro w104 hE
                rintro _ rfl
                rintro _ rfl
                intro R
                refine WL.pick rfl rfl rfl ?_
                exact WL.done ⟨_, rfl, rfl, rfl⟩
              · intro w105 hE
                rintro _ rfl
                intro R
                refine WL.move rfl rfl ?_
                exact WL.done ⟨_, rfl, rfl, rfl⟩
              · intro w106 hE
                have hE := hE rfl
                have hB := ext_trans hB hE
                have hVg61 := hVg61.ext hE
                rintro _ rfl
                intro R
                refine WL.take rfl ?_
                refine WL.loadV (cs := [.bool (qneg ((qa * qb) * qb⁻¹)), .slice A51_6_7 m52_6_7 c53_6_7, .slice A54_6_7 m55_6_7 c56_6_7]) Try.el31 Try.agg31 rfl rfl hVg61.vcells rfl ?_
                exact WL.done ⟨_, rfl, ext_refl _, rfl⟩
              · intro w107 hE
                have hE := hE rfl
                have hB := ext_trans hB hE
                have hVg11 := hVg11.ext hE
                rintro _ rfl
                intro R
                refine WL.take rfl ?_
                refine WL.loadV (cs := [.bool na, .slice Aan man can, .slice Aad mad cad]) Try.el31 Try.agg31 rfl rfl hVg11.vcells rfl ?_
                exact WL.done ⟨_, rfl, ext_refl _, rfl⟩
              · intro w108 hE
                have hE := hE rfl
                have hB := ext_trans hB hE
                have han := han0.ext hB
                have had := had0.ext hB
                have hVg11 := hVg11.ext hE
                have hVg13 := hVg13.ext hE
                have hVg27 := hVg27.ext hE
                have hVg61 := hVg61.ext hE
                rintro _ rfl
                rintro _ rfl
                intro R
                refine WL.take rfl ?_
                refine WL.call Try.func19 rfl Try.nm19 rfl rfl (qTrim_c han had hLan hLad qa hqa (by omega)) ?_
                rintro _ w109 ⟨A110, m111, c112, A113, m114, c115, rfl, hGw109, h6n, h6d, h6m⟩
                have hap_h6n_g11 := ap_new h6n (hVg11.bl_ge _ rfl).2
                have hap_h6n_g13 := ap_new h6n (hVg13.bl_ge _ rfl).2
                have hap_h6n_g27 := ap_new h6n (hVg27.bl_ge _ rfl).2
                have hap_h6n_g61 := ap_new h6n (hVg61.bl_ge _ rfl).2
                have hap_h6d_g11 := ap_new h6d (hVg11.bl_ge _ rfl).2
                have hap_h6d_g13 := ap_new h6d (hVg13.bl_ge _ rfl).2
                have hap_h6d_g27 := ap_new h6d (hVg27.bl_ge _ rfl).2
                have hap_h6d_g61 := ap_new h6d (hVg61.bl_ge _ rfl).2
                have h6n := h6n.low (b' := w.heap.size) hB.size
                have h6d := h6d.low (b' := w.heap.size) hB.size
                have hB := ext_trans hB hGw109
                have h6n_l := h6n.rd.ulen
                have h6d_l := h6d.rd.ulen
                exact WL.done ⟨_, rfl, hGw109, ⟨A110, m111, c112, A113, m114, c115, rfl, h6n, h6d, h6m, hap_h6n_g11, hap_h6n_g13, hap_h6n_g27, hap_h6n_g61, hap_h6d_g11, hap_h6d_g13, hap_h6d_g27, hap_h6d_g61⟩⟩
              · intro w116 hE
                have hE := hE rfl
                have hB := ext_trans hB hE
                have h3n_6_7 := h3n_6_7.ext hE
                have h3d_6_7 := h3d_6_7.ext hE
                rintro _ rfl
                rintro _ rfl
                rintro _ ⟨A110, m111, c112, A113, m114, c115, rfl, h6n, h6d, h6m, hap_h6n_g11, hap_h6n_g13, hap_h6n_g27, hap_h6n_g61, hap_h6d_g11, hap_h6d_g13, hap_h6d_g27, hap_h6d_g61⟩
                intro R
                refine WL.take rfl ?_
                refine WL.call Try.func18 rfl Try.nm18 rfl rfl (qsame_t h3n_6_7.rd h3d_6_7.rd h6n.rd h6d.rd (can_eq (mul_div_q hz))) ?_
                rintro _ w117 ⟨rfl, hGw117⟩
                have hB := ext_trans hB hGw117
                exact WL.done ⟨_, rfl, hGw117, rfl⟩
              · intro w118 hE
                rintro _ rfl
                rintro _ rfl
                intro R
                refine WL.pick rfl rfl rfl ?_
                exact WL.done ⟨_, rfl, rfl, rfl⟩
            · intro vals w119 hT hVs
              have hB := ext_trans hB hT
              have hv0 : vals 0 = _ := hVs 0 (by decide)
              have hv1 : vals 1 = _ := hVs 1 (by decide)
              have hv2 : vals 2 = _ := hVs 2 (by decide)
              have hv3 : vals 3 = _ := hVs 3 (by decide)
              have hv4 : vals 4 = _ := hVs 4 (by decide)
              have hv5 : vals 5 = _ := hVs 5 (by decide)
              have hv6 : vals 6 = _ := hVs 6 (by decide)
              have hv7 : vals 7 = _ := hVs 7 (by decide)
              have hv8 : vals 8 = _ := hVs 8 (by decide)
              have hv9 : vals 9 = _ := hVs 9 (by decide)
              have hv10 : vals 10 = _ := hVs 10 (by decide)
              have hv11 : vals 11 = _ := hVs 11 (by decide)
              have hv12 : vals 12 = _ := hVs 12 (by decide)
              obtain ⟨A81, hv13, hO83, hN84, hap_hO83_g11, hap_hO83_g13, hap_hO83_g27, hap_hO83_g61⟩ := hVs 13 (by decide)
              obtain ⟨A87, m88, c89, A90, m91, c92, hv14, h4n, h4d, h4m, hap_h4n_g11, hap_h4n_g13, hap_h4n_g27, hap_h4n_g61, hap_h4d_g11, hap_h4d_g13, hap_h4d_g27, hap_h4d_g61⟩ := hVs 14 (by decide)
              have hv15 : vals 15 = _ := hVs 15 (by decide)
              obtain ⟨A96, m97, c98, A99, m100, c101, hv16, h5n, h5d, h5m, hap_h5n_g11, hap_h5n_g13, hap_h5n_g27, hap_h5n_g61, hap_h5d_g11, hap_h5d_g13, hap_h5d_g27, hap_h5d_g61⟩ := hVs 16 (by decide)
              have hv17 : vals 17 = _ := hVs 17 (by decide)
              have hv18 : vals 18 = _ := hVs 18 (by decide)
              have hv19 : vals 19 = _ := hVs 19 (by decide)
              have hv20 : vals 20 = _ := hVs 20 (by decide)
              have hv21 : vals 21 = _ := hVs 21 (by decide)
              obtain ⟨A110, m111, c112, A113, m114, c115, hv22, h6n, h6d, h6m, hap_h6n_g11, hap_h6n_g13, hap_h6n_g27, hap_h6n_g61, hap_h6d_g11, hap_h6d_g13, hap_h6d_g27, hap_h6d_g61⟩ := hVs 22 (by decide)
              have hv23 : vals 23 = _ := hVs 23 (by decide)
              have hv24 : vals 24 = _ := hVs 24 (by decide)
              rw [show (List.filterMap (fun i => Option.map (fun t => (t, vals i)) (dstAt _ i)) (List.range _)) = [(37, .int .i64 (0 : Int)), (38, .bool true), (39, .bool true), (40, .int .i64 (0 : Int)), (41, .bool true), (42, .bool true), (43, .bool true), (44, .agg #[.bool (qneg (qa * qb⁻¹)), .slice A21 m22 c23, .slice A24 m25 c26]), (45, .bool true), (46, .bool true), (47, .bool true), (48, .agg #[.bool (qneg (qa * qb⁻¹)), .slice A21 m22 c23, .slice A24 m25 c26]), (49, .agg #[.bool nb, .slice Abn mbn cbn, .slice Abd mbd cbd]), (50, .slice A81 2 2), (51, .agg #[.bool (qneg ((qa * qb⁻¹) * qb)), .slice A87 m88 c89, .slice A90 m91 c92]), (52, .agg #[.bool na, .slice Aan man can, .slice Aad mad cad]), (53, .agg #[.bool (qneg (qa)), .slice A96 m97 c98, .slice A99 m100 c101]), (54, .bool true), (55, .bool true), (56, .bool true), (57, .agg #[.bool (qneg ((qa * qb) * qb⁻¹)), .slice A51_6_7 m52_6_7 c53_6_7, .slice A54_6_7 m55_6_7 c56_6_7]), (58, .agg #[.bool na, .slice Aan man can, .slice Aad mad cad]), (59, .agg #[.bool (qneg (qa)), .slice A110 m111 c112, .slice A113 m114 c115]), (60, .bool true), (61, .bool true)] from by
                show [(37, vals 0), (38, vals 1), (39, vals 2), (40, vals 3), (41, vals 4), (42, vals 5), (43, vals 6), (44, vals 7), (45, vals 8), (46, vals 9), (47, vals 10), (48, vals 11), (49, vals 12), (50, vals 13), (51, vals 14), (52, vals 15), (53, vals 16), (54, vals 17), (55, vals 18), (56, vals 19), (57, vals 20), (58, vals 21), (59, vals 22), (60, vals 23), (61, vals 24)] = _
                rw [hv0, hv1, hv2, hv3, hv4, hv5, hv6, hv7, hv8, hv9, hv10, hv11, hv12, hv13, hv14, hv15, hv16, hv17, hv18, hv19, hv20, hv21, hv22, hv23, hv24]]
              refine WA.step [25] (by decide +kernel) rfl ?_
              intro iQ hQ
              simp only [List.mem_cons, List.not_mem_nil, or_false] at hQ
              obtain rfl := hQ
              · refine ⟨_, rfl, ?_⟩
                refine WL.assign rfl rfl ?_
                refine WL.done ?_
                refine WA.done (by decide +kernel) ?_
                refine W.ret ?_
                refine ⟨_, rfl, ?_⟩
                exact ⟨rfl, hB⟩
      · intro vals w120 hT hVs qF hqF
        obtain rfl : qF = 3 := hqF.trans (by decide +kernel)
        have hB := ext_trans hB hT
        have han := han0.ext hB
        have had := had0.ext hB
        have hbn := hbn0.ext hB
        have hbd := hbd0.ext hB
        have hVg11 := hVg11.ext hT
        have hVg13 := hVg13.ext hT
        have h1n := h1n.ext hT
        have h1d := h1d.ext hT
        have hVg27 := hVg27.ext hT
        have hv0 : vals 0 = _ := hVs 0 (by decide) (by decide)
        have hv1 : vals 1 = _ := hVs 1 (by decide) (by decide)
        obtain ⟨A36, hv2, hO38, hN39, hap_hO38_g11, hap_hO38_g13, hap_hO38_g27⟩ := hVs 2 (by decide) (by decide)
        obtain ⟨A42, m43, c44, A45, m46, c47, hv3, h2n, h2d, h2m, hap_h2n_g11, hap_h2n_g13, hap_h2n_g27, hap_h2d_g11, hap_h2d_g13, hap_h2d_g27⟩ := hVs 3 (by decide) (by decide)
        have hv4 : vals 4 = _ := hVs 4 (by decide) (by decide)
        obtain ⟨A42_5, m43_5, c44_5, A45_5, m46_5, c47_5, A51, m52, c53, A54, m55, c56, hv5, h2n_5, h2d_5, h2m_5, hap_h2n_g11_5, hap_h2n_g13_5, hap_h2n_g27_5, hap_h2d_g11_5, hap_h2d_g13_5, hap_h2d_g27_5, h3n, h3d, h3m, hap_h3n_g11, hap_h3n_g13, hap_h3n_g27, hap_h3d_g11, hap_h3d_g13, hap_h3d_g27⟩ := hVs 5 (by decide) (by decide)
        obtain ⟨A42_5_6, m43_5_6, c44_5_6, A45_5_6, m46_5_6, c47_5_6, A51_6, m52_6, c53_6, A54_6, m55_6, c56_6, hv6, h2n_5_6, h2d_5_6, h2m_5_6, hap_h2n_g11_5_6, hap_h2n_g13_5_6, hap_h2n_g27_5_6, hap_h2d_g11_5_6, hap_h2d_g13_5_6, hap_h2d_g27_5_6, h3n_6, h3d_6, h3m_6, hap_h3n_g11_6, hap_h3n_g13_6, hap_h3n_g27_6, hap_h3d_g11_6, hap_h3d_g13_6, hap_h3d_g27_6⟩ := hVs 6 (by decide) (by decide)
        obtain ⟨A42_5_6_7, m43_5_6_7, c44_5_6_7, A45_5_6_7, m46_5_6_7, c47_5_6_7, A51_6_7, m52_6_7, c53_6_7, A54_6_7, m55_6_7, c56_6_7, hv7, h2n_5_6_7, h2d_5_6_7, h2m_5_6_7, hap_h2n_g11_5_6_7, hap_h2n_g13_5_6_7, hap_h2n_g27_5_6_7, hap_h2d_g11_5_6_7, hap_h2d_g13_5_6_7, hap_h2d_g27_5_6_7, h3n_6_7, h3d_6_7, h3m_6_7, hap_h3n_g11_6_7, hap_h3n_g13_6_7, hap_h3n_g27_6_7, hap_h3d_g11_6_7, hap_h3d_g13_6_7, hap_h3d_g27_6_7⟩ := hVs 7 (by decide) (by decide)
        obtain ⟨g61, hv9, hVg61, hlt_g11_g61, hlt_g13_g61, hlt_g27_g61⟩ := hVs 9 (by decide) (by decide)
        have hap_h1n_g61 := ap_type h1n hVg61 (by decide)
        have hap_h1d_g61 := ap_type h1d hVg61 (by decide)
        have hap_h3n_6_7_g61 := ap_type h3n_6_7 hVg61 (by decide)
        have hap_h3d_6_7_g61 := ap_type h3d_6_7 hVg61 (by decide)
        rw [show (List.filterMap (fun i => if i = 8 then none else Option.map (fun t => (t, vals i)) (dstAt _ i)) (List.range _)) = [(29, .agg #[.bool na, .slice Aan man can, .slice Aad mad cad]), (30, .agg #[.bool nb, .slice Abn mbn cbn, .slice Abd mbd cbd]), (31, .slice A36 2 2), (32, .agg #[.bool (qneg (qa * qb)), .slice A42 m43 c44, .slice A45 m46 c47]), (33, .agg #[.bool nb, .slice Abn mbn cbn, .slice Abd mbd cbd]), (34, .tuple #[.agg #[.bool (qneg ((qa * qb) * qb⁻¹)), .slice A51 m52 c53, .slice A54 m55 c56], .int .i64 (0 : Int)]), (28, .tuple #[.agg #[.bool (qneg ((qa * qb) * qb⁻¹)), .slice A51_6 m52_6 c53_6, .slice A54_6 m55_6 c56_6], .int .i64 (0 : Int)]), (35, .agg #[.bool (qneg ((qa * qb) * qb⁻¹)), .slice A51_6_7 m52_6_7 c53_6_7, .slice A54_6_7 m55_6_7 c56_6_7]), (7, .pointer (some ⟨g61, 0, none⟩))] from by
          show [(29, vals 0), (30, vals 1), (31, vals 2), (32, vals 3), (33, vals 4), (34, vals 5), (28, vals 6), (35, vals 7), (7, vals 9)] = _
          rw [hv0, hv1, hv2, hv3, hv4, hv5, hv6, hv7, hv9]]
        refine WA.step [8, 10] (by decide +kernel) rfl ?_
        intro iQ hQ
        simp only [List.mem_cons, List.not_mem_nil, or_false] at hQ
        rcases hQ with rfl | rfl
        · refine ⟨_, rfl, ?_⟩
          refine WL.extract rfl rfl rfl ?_
          refine WL.done ?_
          refine WA.step [10] (by decide +kernel) rfl ?_
          intro iQ hQ
          simp only [List.mem_cons, List.not_mem_nil, or_false] at hQ
          obtain rfl := hQ
          · refine ⟨_, rfl, ?_⟩
            refine WL.storeV Try.el31 rfl rfl rfl rfl hVg61 ?_
            have hOld122 := hVg61
            intro w121 hVg61 hGw121
            change Own _ _ _ _ _ _ _ [.bool (qneg ((qa * qb) * qb⁻¹)), .slice A51_6_7 m52_6_7 c53_6_7, .slice A54_6_7 m55_6_7 c56_6_7] at hVg61
            have hB := ext_own hB hGw121 (fun g hg => (hOld122.bl_ge g hg).1)
            have han := han0.ext hB
            have had := had0.ext hB
            have hbn := hbn0.ext hB
            have hbd := hbd0.ext hB
            have hVg11 := hVg11.grown hGw121 (apart (by omega))
            have hVg13 := hVg13.grown hGw121 (apart (by omega))
            have h1n := h1n.grown hGw121 (ap_row hap_h1n_g61)
            have h1d := h1d.grown hGw121 (ap_row hap_h1d_g61)
            have hVg27 := hVg27.grown hGw121 (apart (by omega))
            have h3n_6_7 := h3n_6_7.grown hGw121 (ap_row hap_h3n_6_7_g61)
            have h3d_6_7 := h3d_6_7.grown hGw121 (ap_row hap_h3d_6_7_g61)
            refine WL.done ?_
            refine WA.step [11] (by decide +kernel) rfl ?_
            intro iQ hQ
            simp only [List.mem_cons, List.not_mem_nil, or_false] at hQ
            obtain rfl := hQ
            · refine ⟨_, rfl, ?_⟩
              refine WL.assign rfl rfl ?_
              refine WL.done ?_
              refine WA.done (by decide +kernel) ?_
              refine W.seq ?_
              refine W.drawT 25 [⟨[], [6], true⟩, ⟨[0], [], true⟩, ⟨[1], [], true⟩, ⟨[2], [8], true⟩, ⟨[2, 3], [], true⟩, ⟨[2, 4], [], true⟩, ⟨[5], [], true⟩, ⟨[6], [5], false⟩, ⟨[6, 7], [], false⟩, ⟨[6, 8], [], true⟩, ⟨[9], [], true⟩, ⟨[10], [5], false⟩, ⟨[10], [3], false⟩, ⟨[10, 11, 12], [], false⟩, ⟨[10, 13], [], false⟩, ⟨[10], [2], false⟩, ⟨[10, 15], [], false⟩, ⟨[10, 14, 16], [], false⟩, ⟨[10, 17], [], true⟩, ⟨[18], [], true⟩, ⟨[19], [7], false⟩, ⟨[19], [2], false⟩, ⟨[19, 21], [], false⟩, ⟨[19, 20, 22], [], false⟩, ⟨[19, 23], [], true⟩] [[(6, .int .i64 (0 : Int))], [], [], [(8, .int .i64 (0 : Int))], [], [], [], [(5, .pointer (some ⟨g27, 0, none⟩))], [], [], [], [(5, .pointer (some ⟨g27, 0, none⟩))], [(3, .pointer (some ⟨g13, 0, none⟩))], [], [], [(2, .pointer (some ⟨g11, 0, none⟩))], [], [], [], [], [(7, .pointer (some ⟨g61, 0, none⟩))], [(2, .pointer (some ⟨g11, 0, none⟩))], [], [], []] (fun iQ => [fun v wQ => v = .int .i64 (0 : Int), fun v wQ => v = .bool true, fun v wQ => v = .bool true, fun v wQ => v = .int .i64 (0 : Int), fun v wQ => v = .bool true, fun v wQ => v = .bool true, fun v wQ => v = .bool true, fun v wQ => v = .agg #[.bool (qneg (qa * qb⁻¹)), .slice A21 m22 c23, .slice A24 m25 c26], fun v wQ => v = .bool true, fun v wQ => v = .bool true, fun v wQ => v = .bool true, fun v wQ => v = .agg #[.bool (qneg (qa * qb⁻¹)), .slice A21 m22 c23, .slice A24 m25 c26], fun v wQ => v = .agg #[.bool nb, .slice Abn mbn cbn, .slice Abd mbd cbd], fun v wQ => ∃ A138, v = .slice A138 2 2 ∧ (Own w.heap.size wQ 31 3 A138 2 2 [.bool (qneg (qa * qb⁻¹)), .slice A21 m22 c23, .slice A24 m25 c26, .bool nb, .slice Abn mbn cbn, .slice Abd mbd cbd]) ∧ (RatsR wQ.heap.size wQ [.bool (qneg (qa * qb⁻¹)), .slice A21 m22 c23, .slice A24 m25 c26, .bool nb, .slice Abn mbn cbn, .slice Abd mbd cbd] [((qneg (qa * qb⁻¹)), digs (qnum (qa * qb⁻¹)), digs (Rat.den (qa * qb⁻¹))), (nb, xbn, xbd)]) ∧ (∀ k, bl A138 = some k → k ≠ g11) ∧ (∀ k, bl A138 = some k → k ≠ g13) ∧ (∀ k, bl A138 = some k → k ≠ g27) ∧ (∀ k, bl A138 = some k → k ≠ g61), fun v wQ => ∃ A144 m145 c146 A147 m148 c149, v = .agg #[.bool (qneg ((qa * qb⁻¹) * qb)), .slice A144 m145 c146, .slice A147 m148 c149] ∧ (Own w.heap.size wQ 43 1 A144 m145 c146 (us (digs (qnum ((qa * qb⁻¹) * qb))))) ∧ (Own w.heap.size wQ 43 1 A147 m148 c149 (us (digs (Rat.den ((qa * qb⁻¹) * qb))))) ∧ (m145 ≤ 405 ∧ m148 ≤ 405) ∧ (∀ k, bl A144 = some k → k ≠ g11) ∧ (∀ k, bl A144 = some k → k ≠ g13) ∧ (∀ k, bl A144 = some k → k ≠ g27) ∧ (∀ k, bl A144 = some k → k ≠ g61) ∧ (∀ k, bl A147 = some k → k ≠ g11) ∧ (∀ k, bl A147 = some k → k ≠ g13) ∧ (∀ k, bl A147 = some k → k ≠ g27) ∧ (∀ k, bl A147 = some k → k ≠ g61), fun v wQ => v = .agg #[.bool na, .slice Aan man can, .slice Aad mad cad], fun v wQ => ∃ A153 m154 c155 A156 m157 c158, v = .agg #[.bool (qneg (qa)), .slice A153 m154 c155, .slice A156 m157 c158] ∧ (Own w.heap.size wQ 43 1 A153 m154 c155 (us (digs (qnum (qa))))) ∧ (Own w.heap.size wQ 43 1 A156 m157 c158 (us (digs (Rat.den (qa))))) ∧ (m154 ≤ man ∧ m157 ≤ mad + 1) ∧ (∀ k, bl A153 = some k → k ≠ g11) ∧ (∀ k, bl A153 = some k → k ≠ g13) ∧ (∀ k, bl A153 = some k → k ≠ g27) ∧ (∀ k, bl A153 = some k → k ≠ g61) ∧ (∀ k, bl A156 = some k → k ≠ g11) ∧ (∀ k, bl A156 = some k → k ≠ g13) ∧ (∀ k, bl A156 = some k → k ≠ g27) ∧ (∀ k, bl A156 = some k → k ≠ g61), fun v wQ => v = .bool true, fun v wQ => v = .bool true, fun v wQ => v = .bool true, fun v wQ => v = .agg #[.bool (qneg ((qa * qb) * qb⁻¹)), .slice A51_6_7 m52_6_7 c53_6_7, .slice A54_6_7 m55_6_7 c56_6_7], fun v wQ => v = .agg #[.bool na, .slice Aan man can, .slice Aad mad cad], fun v wQ => ∃ A167 m168 c169 A170 m171 c172, v = .agg #[.bool (qneg (qa)), .slice A167 m168 c169, .slice A170 m171 c172] ∧ (Own w.heap.size wQ 43 1 A167 m168 c169 (us (digs (qnum (qa))))) ∧ (Own w.heap.size wQ 43 1 A170 m171 c172 (us (digs (Rat.den (qa))))) ∧ (m168 ≤ man ∧ m171 ≤ mad + 1) ∧ (∀ k, bl A167 = some k → k ≠ g11) ∧ (∀ k, bl A167 = some k → k ≠ g13) ∧ (∀ k, bl A167 = some k → k ≠ g27) ∧ (∀ k, bl A167 = some k → k ≠ g61) ∧ (∀ k, bl A170 = some k → k ≠ g11) ∧ (∀ k, bl A170 = some k → k ≠ g13) ∧ (∀ k, bl A170 = some k → k ≠ g27) ∧ (∀ k, bl A170 = some k → k ≠ g61), fun v wQ => v = .bool true, fun v wQ => v = .bool true].getD iQ (fun _ _ => True)) Try.mixed (by kernel_rfl) ?_ ?_ ?_
              · refine Vs_monoT _ ?_
                intro VQ hVQ vQ wQ1 wQ2 hQ1 hQ2
                simp only [List.mem_cons, List.not_mem_nil, or_false] at hVQ
                rcases hVQ with rfl | rfl | rfl | rfl | rfl | rfl | rfl | rfl | rfl | rfl | rfl | rfl | rfl | rfl | rfl | rfl | rfl | rfl | rfl | rfl | rfl | rfl | rfl | rfl | rfl
                · exact hQ1
                · exact hQ1
                · exact hQ1
                · exact hQ1
                · exact hQ1
                · exact hQ1
                · exact hQ1
                · exact hQ1
                · exact hQ1
                · exact hQ1
                · exact hQ1
                · exact hQ1
                · exact hQ1
                · obtain ⟨A138, hQe, hO140, hN141, hap_hO140_g11, hap_hO140_g13, hap_hO140_g27, hap_hO140_g61⟩ := hQ1
                  exact ⟨A138, hQe, hO140.ext hQ2, (hN141.ext hQ2).norm, hap_hO140_g11, hap_hO140_g13, hap_hO140_g27, hap_hO140_g61⟩
                · obtain ⟨A144, m145, c146, A147, m148, c149, hQe, h4n, h4d, h4m, hap_h4n_g11, hap_h4n_g13, hap_h4n_g27, hap_h4n_g61, hap_h4d_g11, hap_h4d_g13, hap_h4d_g27, hap_h4d_g61⟩ := hQ1
                  exact ⟨A144, m145, c146, A147, m148, c149, hQe, h4n.ext hQ2, h4d.ext hQ2, h4m, hap_h4n_g11, hap_h4n_g13, hap_h4n_g27, hap_h4n_g61, hap_h4d_g11, hap_h4d_g13, hap_h4d_g27, hap_h4d_g61⟩
                · exact hQ1
                · obtain ⟨A153, m154, c155, A156, m157, c158, hQe, h5n, h5d, h5m, hap_h5n_g11, hap_h5n_g13, hap_h5n_g27, hap_h5n_g61, hap_h5d_g11, hap_h5d_g13, hap_h5d_g27, hap_h5d_g61⟩ := hQ1
                  exact ⟨A153, m154, c155, A156, m157, c158, hQe, h5n.ext hQ2, h5d.ext hQ2, h5m, hap_h5n_g11, hap_h5n_g13, hap_h5n_g27, hap_h5n_g61, hap_h5d_g11, hap_h5d_g13, hap_h5d_g27, hap_h5d_g61⟩
                · exact hQ1
                · exact hQ1
                · exact hQ1
                · exact hQ1
                · exact hQ1
                · obtain ⟨A167, m168, c169, A170, m171, c172, hQe, h6n, h6d, h6m, hap_h6n_g11, hap_h6n_g13, hap_h6n_g27, hap_h6n_g61, hap_h6d_g11, hap_h6d_g13, hap_h6d_g27, hap_h6d_g61⟩ := hQ1
                  exact ⟨A167, m168, c169, A170, m171, c172, hQe, h6n.ext hQ2, h6d.ext hQ2, h6m, hap_h6n_g11, hap_h6n_g13, hap_h6n_g27, hap_h6n_g61, hap_h6d_g11, hap_h6d_g13, hap_h6d_g27, hap_h6d_g61⟩
                · exact hQ1
                · exact hQ1
              · refine ⟨⟨rfl, ⟨rfl, trivial⟩, ?_⟩, ⟨rfl, trivial, ?_⟩, ⟨rfl, trivial, ?_⟩, ⟨rfl, ⟨rfl, trivial⟩, ?_⟩, ⟨rfl, trivial, ?_⟩, ⟨rfl, trivial, ?_⟩, ⟨rfl, trivial, ?_⟩, ⟨rfl, ⟨rfl, trivial⟩, ?_⟩, ⟨rfl, trivial, ?_⟩, ⟨rfl, trivial, ?_⟩, ⟨rfl, trivial, ?_⟩, ⟨rfl, ⟨rfl, trivial⟩, ?_⟩, ⟨rfl, ⟨rfl, trivial⟩, ?_⟩, ⟨rfl, trivial, ?_⟩, ⟨rfl, trivial, ?_⟩, ⟨rfl, ⟨rfl, trivial⟩, ?_⟩, ⟨rfl, trivial, ?_⟩, ⟨rfl, trivial, ?_⟩, ⟨rfl, trivial, ?_⟩, ⟨rfl, trivial, ?_⟩, ⟨rfl, ⟨rfl, trivial⟩, ?_⟩, ⟨rfl, ⟨rfl, trivial⟩, ?_⟩, ⟨rfl, trivial, ?_⟩, ⟨rfl, trivial, ?_⟩, ⟨rfl, trivial, ?_⟩, trivial⟩
                · intro w123 hE
                  intro R
                  refine WL.move rfl rfl ?_
                  exact WL.done ⟨_, rfl, rfl, rfl⟩
                · intro w124 hE
                  rintro _ rfl
                  intro R
                  refine WL.eqlD rfl rfl rfl ?_
                  exact WL.done ⟨_, rfl, rfl, rfl⟩
                · intro w125 hE
                  rintro _ rfl
                  intro R
                  refine WL.move rfl rfl ?_
                  exact WL.done ⟨_, rfl, rfl, rfl⟩
                · intro w126 hE
                  rintro _ rfl
                  intro R
                  refine WL.take rfl ?_
                  refine WL.move rfl rfl ?_
                  exact WL.done ⟨_, rfl, rfl, rfl⟩
                · intro w127 hE
                  rintro _ rfl
                  rintro _ rfl
                  intro R
                  refine WL.take rfl ?_
                  refine WL.eqlD rfl rfl rfl ?_
                  exact WL.done ⟨_, rfl, rfl, rfl⟩
                · intro w128 hE
                  rintro _ rfl
                  rintro _ rfl
                  intro R
                  refine WL.pick rfl rfl rfl ?_
                  exact WL.done ⟨_, rfl, rfl, rfl⟩
                · intro w129 hE
                  rintro _ rfl
                  intro R
                  refine WL.move rfl rfl ?_
                  exact WL.done ⟨_, rfl, rfl, rfl⟩
                · intro w130 hE
                  have hE := hE rfl
                  have hB := ext_trans hB hE
                  have hVg27 := hVg27.ext hE
                  rintro _ rfl
                  intro R
                  refine WL.take rfl ?_
                  refine WL.loadV (cs := [.bool (qneg (qa * qb⁻¹)), .slice A21 m22 c23, .slice A24 m25 c26]) Try.el31 Try.agg31 rfl rfl hVg27.vcells rfl ?_
                  exact WL.done ⟨_, rfl, ext_refl _, rfl⟩
                · intro w131 hE
                  have hE := hE rfl
                  have hB := ext_trans hB hE
                  have h1n := h1n.ext hE
                  have h1d := h1d.ext hE
                  rintro _ rfl
                  rintro _ rfl
                  intro R
                  refine WL.take rfl ?_
                  refine WL.call Try.func21 rfl Try.nm21 rfl rfl (qIs_t h1n.rd h1d.rd (digs_lim _) (digs_lim _) (qa * qb⁻¹) (val_canon _) (by omega)) ?_
                  rintro _ w132 ⟨rfl, hGw132⟩
                  have hB := ext_trans hB hGw132
                  exact WL.done ⟨_, rfl, hGw132, rfl⟩
                · intro w133 hE
                  rintro _ rfl
                  rintro _ rfl
                  intro R
                  refine WL.pick rfl rfl rfl ?_
                  exact WL.done ⟨_, rfl, rfl, rfl⟩
                · intro w134 hE
                  rintro _ rfl
                  intro R
                  refine WL.move rfl rfl ?_
                  exact WL.done ⟨_, rfl, rfl, rfl⟩
                · intro w135 hE
                  have hE := hE rfl
                  have hB := ext_trans hB hE
                  have hVg27 := hVg27.ext hE
                  rintro _ rfl
                  intro R
                  refine WL.take rfl ?_
                  refine WL.loadV (cs := [.bool (qneg (qa * qb⁻¹)), .slice A21 m22 c23, .slice A24 m25 c26]) Try.el31 Try.agg31 rfl rfl hVg27.vcells rfl ?_
                  exact WL.done ⟨_, rfl, ext_refl _, rfl⟩
                · intro w136 hE
                  have hE := hE rfl
                  have hB := ext_trans hB hE
                  have hVg13 := hVg13.ext hE
                  rintro _ rfl
                  intro R
                  refine WL.take rfl ?_
                  refine WL.loadV (cs := [.bool nb, .slice Abn mbn cbn, .slice Abd mbd cbd]) Try.el31 Try.agg31 rfl rfl hVg13.vcells rfl ?_
                  exact WL.done ⟨_, rfl, ext_refl _, rfl⟩
                · intro w137 hE
                  have hE := hE rfl
                  have hB := ext_trans hB hE
                  have hbn := hbn0.ext hB
                  have hbd := hbd0.ext hB
                  have hVg11 := hVg11.ext hE
                  have hVg13 := hVg13.ext hE
                  have h1n := h1n.ext hE
                  have h1d := h1d.ext hE
                  have hVg27 := hVg27.ext hE
                  have hVg61 := hVg61.ext hE
                  rintro _ rfl
                  rintro _ rfl
                  rintro _ rfl
                  intro R
                  refine WL.take rfl ?_
                  refine WL.lit (b := w137.heap.size) (cells := [.bool (qneg (qa * qb⁻¹)), .slice A21 m22 c23, .slice A24 m25 c26, .bool nb, .slice Abn mbn cbn, .slice Abd mbd cbd]) Try.underlying44 Try.el31 (by decide) ⟨_, rfl, by kernel_rfl⟩ rfl (Nat.le_refl _) rfl ?_
                  rintro A138 w139 - hO140 hGw139
                  have hap_hO140_g11 := ap_new hO140 (hVg11.bl_ge _ rfl).2
                  have hap_hO140_g13 := ap_new hO140 (hVg13.bl_ge _ rfl).2
                  have hap_hO140_g27 := ap_new hO140 (hVg27.bl_ge _ rfl).2
                  have hap_hO140_g61 := ap_new hO140 (hVg61.bl_ge _ rfl).2
                  have hO140 := hO140.low (b' := w.heap.size) hB.size
                  have hB := ext_trans hB hGw139
                  have hbn := hbn0.ext hB
                  have hbd := hbd0.ext hB
                  have h1n := h1n.ext hGw139
                  have h1d := h1d.ext hGw139
                  have hN141 : RatsR w139.heap.size w139 [.bool (qneg (qa * qb⁻¹)), .slice A21 m22 c23, .slice A24 m25 c26, .bool nb, .slice Abn mbn cbn, .slice Abd mbd cbd] [((qneg (qa * qb⁻¹)), digs (qnum (qa * qb⁻¹)), digs (Rat.den (qa * qb⁻¹))), (nb, xbn, xbd)] := (RatsR.cons h1n.rd.norm h1d.rd.norm (RatsR.cons hbn.norm hbd.norm (RatsR.nil _ _)))
                  exact WL.done ⟨_, rfl, hGw139, ⟨A138, rfl, hO140, hN141, hap_hO140_g11, hap_hO140_g13, hap_hO140_g27, hap_hO140_g61⟩⟩
                · intro w142 hE
                  have hE := hE rfl
                  have hB := ext_trans hB hE
                  have hVg11 := hVg11.ext hE
                  have hVg13 := hVg13.ext hE
                  have hVg27 := hVg27.ext hE
                  have hVg61 := hVg61.ext hE
                  rintro _ rfl
                  rintro _ ⟨A138, rfl, hO140, hN141, hap_hO140_g11, hap_hO140_g13, hap_hO140_g27, hap_hO140_g61⟩
                  intro R
                  refine WL.take rfl ?_
                  refine WL.call Try.func34 rfl Try.nm34 rfl rfl (qMul2_c hO140.rd hN141 (digs_lim _) (digs_lim _) hLbn hLbd (qa * qb⁻¹) (val_canon _) qb hqb 100 (by omega) (by omega)) ?_
                  rintro _ w143 ⟨A144, m145, c146, A147, m148, c149, rfl, hGw143, h4n, h4d, h4m⟩
                  have hap_h4n_g11 := ap_new h4n (hVg11.bl_ge _ rfl).2
                  have hap_h4n_g13 := ap_new h4n (hVg13.bl_ge _ rfl).2
                  have hap_h4n_g27 := ap_new h4n (hVg27.bl_ge _ rfl).2
                  have hap_h4n_g61 := ap_new h4n (hVg61.bl_ge _ rfl).2
                  have hap_h4d_g11 := ap_new h4d (hVg11.bl_ge _ rfl).2
                  have hap_h4d_g13 := ap_new h4d (hVg13.bl_ge _ rfl).2
                  have hap_h4d_g27 := ap_new h4d (hVg27.bl_ge _ rfl).2
                  have hap_h4d_g61 := ap_new h4d (hVg61.bl_ge _ rfl).2
                  have h4n := h4n.low (b' := w.heap.size) hB.size
                  have h4d := h4d.low (b' := w.heap.size) hB.size
                  have hB := ext_trans hB hGw143
                  have h4n_l := h4n.rd.ulen
                  have h4d_l := h4d.rd.ulen
                  exact WL.done ⟨_, rfl, hGw143, ⟨A144, m145, c146, A147, m148, c149, rfl, h4n, h4d, h4m, hap_h4n_g11, hap_h4n_g13, hap_h4n_g27, hap_h4n_g61, hap_h4d_g11, hap_h4d_g13, hap_h4d_g27, hap_h4d_g61⟩⟩
                · intro w150 hE
                  have hE := hE rfl
                  have hB := ext_trans hB hE
                  have hVg11 := hVg11.ext hE
                  rintro _ rfl
                  intro R
                  refine WL.take rfl ?_
                  refine WL.loadV (cs := [.bool na, .slice Aan man can, .slice Aad mad cad]) Try.el31 Try.agg31 rfl rfl hVg11.vcells rfl ?_
                  exact WL.done ⟨_, rfl, ext_refl _, rfl⟩
                · intro w151 hE
                  have hE := hE rfl
                  have hB := ext_trans hB hE
                  have han := han0.ext hB
                  have had := had0.ext hB
                  have hVg11 := hVg11.ext hE
                  have hVg13 := hVg13.ext hE
                  have hVg27 := hVg27.ext hE
                  have hVg61 := hVg61.ext hE
                  rintro _ rfl
                  rintro _ rfl
                  intro R
                  refine WL.take rfl ?_
                  refine WL.call Try.func19 rfl Try.nm19 rfl rfl (qTrim_c han had hLan hLad qa hqa (by omega)) ?_
                  rintro _ w152 ⟨A153, m154, c155, A156, m157, c158, rfl, hGw152, h5n, h5d, h5m⟩
                  have hap_h5n_g11 := ap_new h5n (hVg11.bl_ge _ rfl).2
                  have hap_h5n_g13 := ap_new h5n (hVg13.bl_ge _ rfl).2
                  have hap_h5n_g27 := ap_new h5n (hVg27.bl_ge _ rfl).2
                  have hap_h5n_g61 := ap_new h5n (hVg61.bl_ge _ rfl).2
                  have hap_h5d_g11 := ap_new h5d (hVg11.bl_ge _ rfl).2
                  have hap_h5d_g13 := ap_new h5d (hVg13.bl_ge _ rfl).2
                  have hap_h5d_g27 := ap_new h5d (hVg27.bl_ge _ rfl).2
                  have hap_h5d_g61 := ap_new h5d (hVg61.bl_ge _ rfl).2
                  have h5n := h5n.low (b' := w.heap.size) hB.size
                  have h5d := h5d.low (b' := w.heap.size) hB.size
                  have hB := ext_trans hB hGw152
                  have h5n_l := h5n.rd.ulen
                  have h5d_l := h5d.rd.ulen
                  exact WL.done ⟨_, rfl, hGw152, ⟨A153, m154, c155, A156, m157, c158, rfl, h5n, h5d, h5m, hap_h5n_g11, hap_h5n_g13, hap_h5n_g27, hap_h5n_g61, hap_h5d_g11, hap_h5d_g13, hap_h5d_g27, hap_h5d_g61⟩⟩
                · intro w159 hE
                  have hE := hE rfl
                  have hB := ext_trans hB hE
                  rintro _ rfl
                  rintro _ ⟨A144, m145, c146, A147, m148, c149, rfl, h4n, h4d, h4m, hap_h4n_g11, hap_h4n_g13, hap_h4n_g27, hap_h4n_g61, hap_h4d_g11, hap_h4d_g13, hap_h4d_g27, hap_h4d_g61⟩
                  rintro _ ⟨A153, m154, c155, A156, m157, c158, rfl, h5n, h5d, h5m, hap_h5n_g11, hap_h5n_g13, hap_h5n_g27, hap_h5n_g61, hap_h5d_g11, hap_h5d_g13, hap_h5d_g27, hap_h5d_g61⟩
                  intro R
                  refine WL.take rfl ?_
                  refine WL.call Try.func18 rfl Try.nm18 rfl rfl (qsame_t h4n.rd h4d.rd h5n.rd h5d.rd (can_eq (div_mul_q hz))) ?_
                  rintro _ w160 ⟨rfl, hGw160⟩
                  have hB := ext_trans hB hGw160
                  exact WL.done ⟨_, rfl, hGw160, rfl⟩
                · intro w161 hE
                  rintro _ rfl
                  rintro _ rfl
                  intro R
                  refine WL.pick rfl rfl rfl ?_
                  exact WL.done ⟨_, rfl, rfl, rfl⟩
                · intro w162 hE
                  rintro _ rfl
                  intro R
                  refine WL.move rfl rfl ?_
                  exact WL.done ⟨_, rfl, rfl, rfl⟩
                · intro w163 hE
                  have hE := hE rfl
                  have hB := ext_trans hB hE
                  have hVg61 := hVg61.ext hE
                  rintro _ rfl
                  intro R
                  refine WL.take rfl ?_
                  refine WL.loadV (cs := [.bool (qneg ((qa * qb) * qb⁻¹)), .slice A51_6_7 m52_6_7 c53_6_7, .slice A54_6_7 m55_6_7 c56_6_7]) Try.el31 Try.agg31 rfl rfl hVg61.vcells rfl ?_
                  exact WL.done ⟨_, rfl, ext_refl _, rfl⟩
                · intro w164 hE
                  have hE := hE rfl
                  have hB := ext_trans hB hE
                  have hVg11 := hVg11.ext hE
                  rintro _ rfl
                  intro R
                  refine WL.take rfl ?_
                  refine WL.loadV (cs := [.bool na, .slice Aan man can, .slice Aad mad cad]) Try.el31 Try.agg31 rfl rfl hVg11.vcells rfl ?_
                  exact WL.done ⟨_, rfl, ext_refl _, rfl⟩
                · intro w165 hE
                  have hE := hE rfl
                  have hB := ext_trans hB hE
                  have han := han0.ext hB
                  have had := had0.ext hB
                  have hVg11 := hVg11.ext hE
                  have hVg13 := hVg13.ext hE
                  have hVg27 := hVg27.ext hE
                  have hVg61 := hVg61.ext hE
                  rintro _ rfl
                  rintro _ rfl
                  intro R
                  refine WL.take rfl ?_
                  refine WL.call Try.func19 rfl Try.nm19 rfl rfl (qTrim_c han had hLan hLad qa hqa (by omega)) ?_
                  rintro _ w166 ⟨A167, m168, c169, A170, m171, c172, rfl, hGw166, h6n, h6d, h6m⟩
                  have hap_h6n_g11 := ap_new h6n (hVg11.bl_ge _ rfl).2
                  have hap_h6n_g13 := ap_new h6n (hVg13.bl_ge _ rfl).2
                  have hap_h6n_g27 := ap_new h6n (hVg27.bl_ge _ rfl).2
                  have hap_h6n_g61 := ap_new h6n (hVg61.bl_ge _ rfl).2
                  have hap_h6d_g11 := ap_new h6d (hVg11.bl_ge _ rfl).2
                  have hap_h6d_g13 := ap_new h6d (hVg13.bl_ge _ rfl).2
                  have hap_h6d_g27 := ap_new h6d (hVg27.bl_ge _ rfl).2
                  have hap_h6d_g61 := ap_new h6d (hVg61.bl_ge _ rfl).2
                  have h6n := h6n.low (b' := w.heap.size) hB.size
                  have h6d := h6d.low (b' := w.heap.size) hB.size
                  have hB := ext_trans hB hGw166
                  have h6n_l := h6n.rd.ulen
                  have h6d_l := h6d.rd.ulen
                  exact WL.done ⟨_, rfl, hGw166, ⟨A167, m168, c169, A170, m171, c172, rfl, h6n, h6d, h6m, hap_h6n_g11, hap_h6n_g13, hap_h6n_g27, hap_h6n_g61, hap_h6d_g11, hap_h6d_g13, hap_h6d_g27, hap_h6d_g61⟩⟩
                · intro w173 hE
                  have hE := hE rfl
                  have hB := ext_trans hB hE
                  have h3n_6_7 := h3n_6_7.ext hE
                  have h3d_6_7 := h3d_6_7.ext hE
                  rintro _ rfl
                  rintro _ rfl
                  rintro _ ⟨A167, m168, c169, A170, m171, c172, rfl, h6n, h6d, h6m, hap_h6n_g11, hap_h6n_g13, hap_h6n_g27, hap_h6n_g61, hap_h6d_g11, hap_h6d_g13, hap_h6d_g27, hap_h6d_g61⟩
                  intro R
                  refine WL.take rfl ?_
                  refine WL.call Try.func18 rfl Try.nm18 rfl rfl (qsame_t h3n_6_7.rd h3d_6_7.rd h6n.rd h6d.rd (can_eq (mul_div_q hz))) ?_
                  rintro _ w174 ⟨rfl, hGw174⟩
                  have hB := ext_trans hB hGw174
                  exact WL.done ⟨_, rfl, hGw174, rfl⟩
                · intro w175 hE
                  rintro _ rfl
                  rintro _ rfl
                  intro R
                  refine WL.pick rfl rfl rfl ?_
                  exact WL.done ⟨_, rfl, rfl, rfl⟩
              · intro vals w176 hT hVs
                have hB := ext_trans hB hT
                have hv0 : vals 0 = _ := hVs 0 (by decide)
                have hv1 : vals 1 = _ := hVs 1 (by decide)
                have hv2 : vals 2 = _ := hVs 2 (by decide)
                have hv3 : vals 3 = _ := hVs 3 (by decide)
                have hv4 : vals 4 = _ := hVs 4 (by decide)
                have hv5 : vals 5 = _ := hVs 5 (by decide)
                have hv6 : vals 6 = _ := hVs 6 (by decide)
                have hv7 : vals 7 = _ := hVs 7 (by decide)
                have hv8 : vals 8 = _ := hVs 8 (by decide)
                have hv9 : vals 9 = _ := hVs 9 (by decide)
                have hv10 : vals 10 = _ := hVs 10 (by decide)
                have hv11 : vals 11 = _ := hVs 11 (by decide)
                have hv12 : vals 12 = _ := hVs 12 (by decide)
                obtain ⟨A138, hv13, hO140, hN141, hap_hO140_g11, hap_hO140_g13, hap_hO140_g27, hap_hO140_g61⟩ := hVs 13 (by decide)
                obtain ⟨A144, m145, c146, A147, m148, c149, hv14, h4n, h4d, h4m, hap_h4n_g11, hap_h4n_g13, hap_h4n_g27, hap_h4n_g61, hap_h4d_g11, hap_h4d_g13, hap_h4d_g27, hap_h4d_g61⟩ := hVs 14 (by decide)
                have hv15 : vals 15 = _ := hVs 15 (by decide)
                obtain ⟨A153, m154, c155, A156, m157, c158, hv16, h5n, h5d, h5m, hap_h5n_g11, hap_h5n_g13, hap_h5n_g27, hap_h5n_g61, hap_h5d_g11, hap_h5d_g13, hap_h5d_g27, hap_h5d_g61⟩ := hVs 16 (by decide)
                have hv17 : vals 17 = _ := hVs 17 (by decide)
                have hv18 : vals 18 = _ := hVs 18 (by decide)
                have hv19 : vals 19 = _ := hVs 19 (by decide)
                have hv20 : vals 20 = _ := hVs 20 (by decide)
                have hv21 : vals 21 = _ := hVs 21 (by decide)
                obtain ⟨A167, m168, c169, A170, m171, c172, hv22, h6n, h6d, h6m, hap_h6n_g11, hap_h6n_g13, hap_h6n_g27, hap_h6n_g61, hap_h6d_g11, hap_h6d_g13, hap_h6d_g27, hap_h6d_g61⟩ := hVs 22 (by decide)
                have hv23 : vals 23 = _ := hVs 23 (by decide)
                have hv24 : vals 24 = _ := hVs 24 (by decide)
                rw [show (List.filterMap (fun i => Option.map (fun t => (t, vals i)) (dstAt _ i)) (List.range _)) = [(37, .int .i64 (0 : Int)), (38, .bool true), (39, .bool true), (40, .int .i64 (0 : Int)), (41, .bool true), (42, .bool true), (43, .bool true), (44, .agg #[.bool (qneg (qa * qb⁻¹)), .slice A21 m22 c23, .slice A24 m25 c26]), (45, .bool true), (46, .bool true), (47, .bool true), (48, .agg #[.bool (qneg (qa * qb⁻¹)), .slice A21 m22 c23, .slice A24 m25 c26]), (49, .agg #[.bool nb, .slice Abn mbn cbn, .slice Abd mbd cbd]), (50, .slice A138 2 2), (51, .agg #[.bool (qneg ((qa * qb⁻¹) * qb)), .slice A144 m145 c146, .slice A147 m148 c149]), (52, .agg #[.bool na, .slice Aan man can, .slice Aad mad cad]), (53, .agg #[.bool (qneg (qa)), .slice A153 m154 c155, .slice A156 m157 c158]), (54, .bool true), (55, .bool true), (56, .bool true), (57, .agg #[.bool (qneg ((qa * qb) * qb⁻¹)), .slice A51_6_7 m52_6_7 c53_6_7, .slice A54_6_7 m55_6_7 c56_6_7]), (58, .agg #[.bool na, .slice Aan man can, .slice Aad mad cad]), (59, .agg #[.bool (qneg (qa)), .slice A167 m168 c169, .slice A170 m171 c172]), (60, .bool true), (61, .bool true)] from by
                  show [(37, vals 0), (38, vals 1), (39, vals 2), (40, vals 3), (41, vals 4), (42, vals 5), (43, vals 6), (44, vals 7), (45, vals 8), (46, vals 9), (47, vals 10), (48, vals 11), (49, vals 12), (50, vals 13), (51, vals 14), (52, vals 15), (53, vals 16), (54, vals 17), (55, vals 18), (56, vals 19), (57, vals 20), (58, vals 21), (59, vals 22), (60, vals 23), (61, vals 24)] = _
                  rw [hv0, hv1, hv2, hv3, hv4, hv5, hv6, hv7, hv8, hv9, hv10, hv11, hv12, hv13, hv14, hv15, hv16, hv17, hv18, hv19, hv20, hv21, hv22, hv23, hv24]]
                refine WA.step [25] (by decide +kernel) rfl ?_
                intro iQ hQ
                simp only [List.mem_cons, List.not_mem_nil, or_false] at hQ
                obtain rfl := hQ
                · refine ⟨_, rfl, ?_⟩
                  refine WL.assign rfl rfl ?_
                  refine WL.done ?_
                  refine WA.done (by decide +kernel) ?_
                  refine W.ret ?_
                  refine ⟨_, rfl, ?_⟩
                  exact ⟨rfl, hB⟩
        · refine ⟨_, rfl, ?_⟩
          refine WL.storeV Try.el31 rfl rfl rfl rfl hVg61 ?_
          have hOld178 := hVg61
          intro w177 hVg61 hGw177
          change Own _ _ _ _ _ _ _ [.bool (qneg ((qa * qb) * qb⁻¹)), .slice A51_6_7 m52_6_7 c53_6_7, .slice A54_6_7 m55_6_7 c56_6_7] at hVg61
          have hB := ext_own hB hGw177 (fun g hg => (hOld178.bl_ge g hg).1)
          have han := han0.ext hB
          have had := had0.ext hB
          have hbn := hbn0.ext hB
          have hbd := hbd0.ext hB
          have hVg11 := hVg11.grown hGw177 (apart (by omega))
          have hVg13 := hVg13.grown hGw177 (apart (by omega))
          have h1n := h1n.grown hGw177 (ap_row hap_h1n_g61)
          have h1d := h1d.grown hGw177 (ap_row hap_h1d_g61)
          have hVg27 := hVg27.grown hGw177 (apart (by omega))
          have h3n_6_7 := h3n_6_7.grown hGw177 (ap_row hap_h3n_6_7_g61)
          have h3d_6_7 := h3d_6_7.grown hGw177 (ap_row hap_h3d_6_7_g61)
          refine WL.done ?_
          refine WA.step [8] (by decide +kernel) rfl ?_
          intro iQ hQ
          simp only [List.mem_cons, List.not_mem_nil, or_false] at hQ
          obtain rfl := hQ
          · refine ⟨_, rfl, ?_⟩
            refine WL.extract rfl rfl rfl ?_
            refine WL.done ?_
            refine WA.step [11] (by decide +kernel) rfl ?_
            intro iQ hQ
            simp only [List.mem_cons, List.not_mem_nil, or_false] at hQ
            obtain rfl := hQ
            · refine ⟨_, rfl, ?_⟩
              refine WL.assign rfl rfl ?_
              refine WL.done ?_
              refine WA.done (by decide +kernel) ?_
              refine W.seq ?_
              refine W.drawT 25 [⟨[], [6], true⟩, ⟨[0], [], true⟩, ⟨[1], [], true⟩, ⟨[2], [8], true⟩, ⟨[2, 3], [], true⟩, ⟨[2, 4], [], true⟩, ⟨[5], [], true⟩, ⟨[6], [5], false⟩, ⟨[6, 7], [], false⟩, ⟨[6, 8], [], true⟩, ⟨[9], [], true⟩, ⟨[10], [5], false⟩, ⟨[10], [3], false⟩, ⟨[10, 11, 12], [], false⟩, ⟨[10, 13], [], false⟩, ⟨[10], [2], false⟩, ⟨[10, 15], [], false⟩, ⟨[10, 14, 16], [], false⟩, ⟨[10, 17], [], true⟩, ⟨[18], [], true⟩, ⟨[19], [7], false⟩, ⟨[19], [2], false⟩, ⟨[19, 21], [], false⟩, ⟨[19, 20, 22], [], false⟩, ⟨[19, 23], [], true⟩] [[(6, .int .i64 (0 : Int))], [], [], [(8, .int .i64 (0 : Int))], [], [], [], [(5, .pointer (some ⟨g27, 0, none⟩))], [], [], [], [(5, .pointer (some ⟨g27, 0, none⟩))], [(3, .pointer (some ⟨g13, 0, none⟩))], [], [], [(2, .pointer (some ⟨g11, 0, none⟩))], [], [], [], [], [(7, .pointer (some ⟨g61, 0, none⟩))], [(2, .pointer (some ⟨g11, 0, none⟩))], [], [], []] (fun iQ => [fun v wQ => v = .int .i64 (0 : Int), fun v wQ => v = .bool true, fun v wQ => v = .bool true, fun v wQ => v = .int .i64 (0 : Int), fun v wQ => v = .bool true, fun v wQ => v = .bool true, fun v wQ => v = .bool true, fun v wQ => v = .agg #[.bool (qneg (qa * qb⁻¹)), .slice A21 m22 c23, .slice A24 m25 c26], fun v wQ => v = .bool true, fun v wQ => v = .bool true, fun v wQ => v = .bool true, fun v wQ => v = .agg #[.bool (qneg (qa * qb⁻¹)), .slice A21 m22 c23, .slice A24 m25 c26], fun v wQ => v = .agg #[.bool nb, .slice Abn mbn cbn, .slice Abd mbd cbd], fun v wQ => ∃ A194, v = .slice A194 2 2 ∧ (Own w.heap.size wQ 31 3 A194 2 2 [.bool (qneg (qa * qb⁻¹)), .slice A21 m22 c23, .slice A24 m25 c26, .bool nb, .slice Abn mbn cbn, .slice Abd mbd cbd]) ∧ (RatsR wQ.heap.size wQ [.bool (qneg (qa * qb⁻¹)), .slice A21 m22 c23, .slice A24 m25 c26, .bool nb, .slice Abn mbn cbn, .slice Abd mbd cbd] [((qneg (qa * qb⁻¹)), digs (qnum (qa * qb⁻¹)), digs (Rat.den (qa * qb⁻¹))), (nb, xbn, xbd)]) ∧ (∀ k, bl A194 = some k → k ≠ g11) ∧ (∀ k, bl A194 = some k → k ≠ g13) ∧ (∀ k, bl A194 = some k → k ≠ g27) ∧ (∀ k, bl A194 = some k → k ≠ g61), fun v wQ => ∃ A200 m201 c202 A203 m204 c205, v = .agg #[.bool (qneg ((qa * qb⁻¹) * qb)), .slice A200 m201 c202, .slice A203 m204 c205] ∧ (Own w.heap.size wQ 43 1 A200 m201 c202 (us (digs (qnum ((qa * qb⁻¹) * qb))))) ∧ (Own w.heap.size wQ 43 1 A203 m204 c205 (us (digs (Rat.den ((qa * qb⁻¹) * qb))))) ∧ (m201 ≤ 405 ∧ m204 ≤ 405) ∧ (∀ k, bl A200 = some k → k ≠ g11) ∧ (∀ k, bl A200 = some k → k ≠ g13) ∧ (∀ k, bl A200 = some k → k ≠ g27) ∧ (∀ k, bl A200 = some k → k ≠ g61) ∧ (∀ k, bl A203 = some k → k ≠ g11) ∧ (∀ k, bl A203 = some k → k ≠ g13) ∧ (∀ k, bl A203 = some k → k ≠ g27) ∧ (∀ k, bl A203 = some k → k ≠ g61), fun v wQ => v = .agg #[.bool na, .slice Aan man can, .slice Aad mad cad], fun v wQ => ∃ A209 m210 c211 A212 m213 c214, v = .agg #[.bool (qneg (qa)), .slice A209 m210 c211, .slice A212 m213 c214] ∧ (Own w.heap.size wQ 43 1 A209 m210 c211 (us (digs (qnum (qa))))) ∧ (Own w.heap.size wQ 43 1 A212 m213 c214 (us (digs (Rat.den (qa))))) ∧ (m210 ≤ man ∧ m213 ≤ mad + 1) ∧ (∀ k, bl A209 = some k → k ≠ g11) ∧ (∀ k, bl A209 = some k → k ≠ g13) ∧ (∀ k, bl A209 = some k → k ≠ g27) ∧ (∀ k, bl A209 = some k → k ≠ g61) ∧ (∀ k, bl A212 = some k → k ≠ g11) ∧ (∀ k, bl A212 = some k → k ≠ g13) ∧ (∀ k, bl A212 = some k → k ≠ g27) ∧ (∀ k, bl A212 = some k → k ≠ g61), fun v wQ => v = .bool true, fun v wQ => v = .bool true, fun v wQ => v = .bool true, fun v wQ => v = .agg #[.bool (qneg ((qa * qb) * qb⁻¹)), .slice A51_6_7 m52_6_7 c53_6_7, .slice A54_6_7 m55_6_7 c56_6_7], fun v wQ => v = .agg #[.bool na, .slice Aan man can, .slice Aad mad cad], fun v wQ => ∃ A223 m224 c225 A226 m227 c228, v = .agg #[.bool (qneg (qa)), .slice A223 m224 c225, .slice A226 m227 c228] ∧ (Own w.heap.size wQ 43 1 A223 m224 c225 (us (digs (qnum (qa))))) ∧ (Own w.heap.size wQ 43 1 A226 m227 c228 (us (digs (Rat.den (qa))))) ∧ (m224 ≤ man ∧ m227 ≤ mad + 1) ∧ (∀ k, bl A223 = some k → k ≠ g11) ∧ (∀ k, bl A223 = some k → k ≠ g13) ∧ (∀ k, bl A223 = some k → k ≠ g27) ∧ (∀ k, bl A223 = some k → k ≠ g61) ∧ (∀ k, bl A226 = some k → k ≠ g11) ∧ (∀ k, bl A226 = some k → k ≠ g13) ∧ (∀ k, bl A226 = some k → k ≠ g27) ∧ (∀ k, bl A226 = some k → k ≠ g61), fun v wQ => v = .bool true, fun v wQ => v = .bool true].getD iQ (fun _ _ => True)) Try.mixed (by kernel_rfl) ?_ ?_ ?_
              · refine Vs_monoT _ ?_
                intro VQ hVQ vQ wQ1 wQ2 hQ1 hQ2
                simp only [List.mem_cons, List.not_mem_nil, or_false] at hVQ
                rcases hVQ with rfl | rfl | rfl | rfl | rfl | rfl | rfl | rfl | rfl | rfl | rfl | rfl | rfl | rfl | rfl | rfl | rfl | rfl | rfl | rfl | rfl | rfl | rfl | rfl | rfl
                · exact hQ1
                · exact hQ1
                · exact hQ1
                · exact hQ1
                · exact hQ1
                · exact hQ1
                · exact hQ1
                · exact hQ1
                · exact hQ1
                · exact hQ1
                · exact hQ1
                · exact hQ1
                · exact hQ1
                · obtain ⟨A194, hQe, hO196, hN197, hap_hO196_g11, hap_hO196_g13, hap_hO196_g27, hap_hO196_g61⟩ := hQ1
                  exact ⟨A194, hQe, hO196.ext hQ2, (hN197.ext hQ2).norm, hap_hO196_g11, hap_hO196_g13, hap_hO196_g27, hap_hO196_g61⟩
                · obtain ⟨A200, m201, c202, A203, m204, c205, hQe, h4n, h4d, h4m, hap_h4n_g11, hap_h4n_g13, hap_h4n_g27, hap_h4n_g61, hap_h4d_g11, hap_h4d_g13, hap_h4d_g27, hap_h4d_g61⟩ := hQ1
                  exact ⟨A200, m201, c202, A203, m204, c205, hQe, h4n.ext hQ2, h4d.ext hQ2, h4m, hap_h4n_g11, hap_h4n_g13, hap_h4n_g27, hap_h4n_g61, hap_h4d_g11, hap_h4d_g13, hap_h4d_g27, hap_h4d_g61⟩
                · exact hQ1
                · obtain ⟨A209, m210, c211, A212, m213, c214, hQe, h5n, h5d, h5m, hap_h5n_g11, hap_h5n_g13, hap_h5n_g27, hap_h5n_g61, hap_h5d_g11, hap_h5d_g13, hap_h5d_g27, hap_h5d_g61⟩ := hQ1
                  exact ⟨A209, m210, c211, A212, m213, c214, hQe, h5n.ext hQ2, h5d.ext hQ2, h5m, hap_h5n_g11, hap_h5n_g13, hap_h5n_g27, hap_h5n_g61, hap_h5d_g11, hap_h5d_g13, hap_h5d_g27, hap_h5d_g61⟩
                · exact hQ1
                · exact hQ1
                · exact hQ1
                · exact hQ1
                · exact hQ1
                · obtain ⟨A223, m224, c225, A226, m227, c228, hQe, h6n, h6d, h6m, hap_h6n_g11, hap_h6n_g13, hap_h6n_g27, hap_h6n_g61, hap_h6d_g11, hap_h6d_g13, hap_h6d_g27, hap_h6d_g61⟩ := hQ1
                  exact ⟨A223, m224, c225, A226, m227, c228, hQe, h6n.ext hQ2, h6d.ext hQ2, h6m, hap_h6n_g11, hap_h6n_g13, hap_h6n_g27, hap_h6n_g61, hap_h6d_g11, hap_h6d_g13, hap_h6d_g27, hap_h6d_g61⟩
                · exact hQ1
                · exact hQ1
              · refine ⟨⟨rfl, ⟨rfl, trivial⟩, ?_⟩, ⟨rfl, trivial, ?_⟩, ⟨rfl, trivial, ?_⟩, ⟨rfl, ⟨rfl, trivial⟩, ?_⟩, ⟨rfl, trivial, ?_⟩, ⟨rfl, trivial, ?_⟩, ⟨rfl, trivial, ?_⟩, ⟨rfl, ⟨rfl, trivial⟩, ?_⟩, ⟨rfl, trivial, ?_⟩, ⟨rfl, trivial, ?_⟩, ⟨rfl, trivial, ?_⟩, ⟨rfl, ⟨rfl, trivial⟩, ?_⟩, ⟨rfl, ⟨rfl, trivial⟩, ?_⟩, ⟨rfl, trivial, ?_⟩, ⟨rfl, trivial, ?_⟩, ⟨rfl, ⟨rfl, trivial⟩, ?_⟩, ⟨rfl, trivial, ?_⟩, ⟨rfl, trivial, ?_⟩, ⟨rfl, trivial, ?_⟩, ⟨rfl, trivial, ?_⟩, ⟨rfl, ⟨rfl, trivial⟩, ?_⟩, ⟨rfl, ⟨rfl, trivial⟩, ?_⟩, ⟨rfl, trivial, ?_⟩, ⟨rfl, trivial, ?_⟩, ⟨rfl, trivial, ?_⟩, trivial⟩
                · intro w179 hE
                  intro R
                  refine WL.move rfl rfl ?_
                  exact WL.done ⟨_, rfl, rfl, rfl⟩
                · intro w180 hE
                  rintro _ rfl
                  intro R
                  refine WL.eqlD rfl rfl rfl ?_
                  exact WL.done ⟨_, rfl, rfl, rfl⟩
                · intro w181 hE
                  rintro _ rfl
                  intro R
                  refine WL.move rfl rfl ?_
                  exact WL.done ⟨_, rfl, rfl, rfl⟩
                · intro w182 hE
                  rintro _ rfl
                  intro R
                  refine WL.take rfl ?_
                  refine WL.move rfl rfl ?_
                  exact WL.done ⟨_, rfl, rfl, rfl⟩
                · intro w183 hE
                  rintro _ rfl
                  rintro _ rfl
                  intro R
                  refine WL.take rfl ?_
                  refine WL.eqlD rfl rfl rfl ?_
                  exact WL.done ⟨_, rfl, rfl, rfl⟩
                · intro w184 hE
                  rintro _ rfl
                  rintro _ rfl
                  intro R
                  refine WL.pick rfl rfl rfl ?_
                  exact WL.done ⟨_, rfl, rfl, rfl⟩
                · intro w185 hE
                  rintro _ rfl
                  intro R
                  refine WL.move rfl rfl ?_
                  exact WL.done ⟨_, rfl, rfl, rfl⟩
                · intro w186 hE
                  have hE := hE rfl
                  have hB := ext_trans hB hE
                  have hVg27 := hVg27.ext hE
                  rintro _ rfl
                  intro R
                  refine WL.take rfl ?_
                  refine WL.loadV (cs := [.bool (qneg (qa * qb⁻¹)), .slice A21 m22 c23, .slice A24 m25 c26]) Try.el31 Try.agg31 rfl rfl hVg27.vcells rfl ?_
                  exact WL.done ⟨_, rfl, ext_refl _, rfl⟩
                · intro w187 hE
                  have hE := hE rfl
                  have hB := ext_trans hB hE
                  have h1n := h1n.ext hE
                  have h1d := h1d.ext hE
                  rintro _ rfl
                  rintro _ rfl
                  intro R
                  refine WL.take rfl ?_
                  refine WL.call Try.func21 rfl Try.nm21 rfl rfl (qIs_t h1n.rd h1d.rd (digs_lim _) (digs_lim _) (qa * qb⁻¹) (val_canon _) (by omega)) ?_
                  rintro _ w188 ⟨rfl, hGw188⟩
                  have hB := ext_trans hB hGw188
                  exact WL.done ⟨_, rfl, hGw188, rfl⟩
                · intro w189 hE
                  rintro _ rfl
                  rintro _ rfl
                  intro R
                  refine WL.pick rfl rfl rfl ?_
                  exact WL.done ⟨_, rfl, rfl, rfl⟩
                · intro w190 hE
                  rintro _ rfl
                  intro R
                  refine WL.move rfl rfl ?_
                  exact WL.done ⟨_, rfl, rfl, rfl⟩
                · intro w191 hE
                  have hE := hE rfl
                  have hB := ext_trans hB hE
                  have hVg27 := hVg27.ext hE
                  rintro _ rfl
                  intro R
                  refine WL.take rfl ?_
                  refine WL.loadV (cs := [.bool (qneg (qa * qb⁻¹)), .slice A21 m22 c23, .slice A24 m25 c26]) Try.el31 Try.agg31 rfl rfl hVg27.vcells rfl ?_
                  exact WL.done ⟨_, rfl, ext_refl _, rfl⟩
                · intro w192 hE
                  have hE := hE rfl
                  have hB := ext_trans hB hE
                  have hVg13 := hVg13.ext hE
                  rintro _ rfl
                  intro R
                  refine WL.take rfl ?_
                  refine WL.loadV (cs := [.bool nb, .slice Abn mbn cbn, .slice Abd mbd cbd]) Try.el31 Try.agg31 rfl rfl hVg13.vcells rfl ?_
                  exact WL.done ⟨_, rfl, ext_refl _, rfl⟩
                · intro w193 hE
                  have hE := hE rfl
                  have hB := ext_trans hB hE
                  have hbn := hbn0.ext hB
                  have hbd := hbd0.ext hB
                  have hVg11 := hVg11.ext hE
                  have hVg13 := hVg13.ext hE
                  have h1n := h1n.ext hE
                  have h1d := h1d.ext hE
                  have hVg27 := hVg27.ext hE
                  have hVg61 := hVg61.ext hE
                  rintro _ rfl
                  rintro _ rfl
                  rintro _ rfl
                  intro R
                  refine WL.take rfl ?_
                  refine WL.lit (b := w193.heap.size) (cells := [.bool (qneg (qa * qb⁻¹)), .slice A21 m22 c23, .slice A24 m25 c26, .bool nb, .slice Abn mbn cbn, .slice Abd mbd cbd]) Try.underlying44 Try.el31 (by decide) ⟨_, rfl, by kernel_rfl⟩ rfl (Nat.le_refl _) rfl ?_
                  rintro A194 w195 - hO196 hGw195
                  have hap_hO196_g11 := ap_new hO196 (hVg11.bl_ge _ rfl).2
                  have hap_hO196_g13 := ap_new hO196 (hVg13.bl_ge _ rfl).2
                  have hap_hO196_g27 := ap_new hO196 (hVg27.bl_ge _ rfl).2
                  have hap_hO196_g61 := ap_new hO196 (hVg61.bl_ge _ rfl).2
                  have hO196 := hO196.low (b' := w.heap.size) hB.size
                  have hB := ext_trans hB hGw195
                  have hbn := hbn0.ext hB
                  have hbd := hbd0.ext hB
                  have h1n := h1n.ext hGw195
                  have h1d := h1d.ext hGw195
                  have hN197 : RatsR w195.heap.size w195 [.bool (qneg (qa * qb⁻¹)), .slice A21 m22 c23, .slice A24 m25 c26, .bool nb, .slice Abn mbn cbn, .slice Abd mbd cbd] [((qneg (qa * qb⁻¹)), digs (qnum (qa * qb⁻¹)), digs (Rat.den (qa * qb⁻¹))), (nb, xbn, xbd)] := (RatsR.cons h1n.rd.norm h1d.rd.norm (RatsR.cons hbn.norm hbd.norm (RatsR.nil _ _)))
                  exact WL.done ⟨_, rfl, hGw195, ⟨A194, rfl, hO196, hN197, hap_hO196_g11, hap_hO196_g13, hap_hO196_g27, hap_hO196_g61⟩⟩
                · intro w198 hE
                  have hE := hE rfl
                  have hB := ext_trans hB hE
                  have hVg11 := hVg11.ext hE
                  have hVg13 := hVg13.ext hE
                  have hVg27 := hVg27.ext hE
                  have hVg61 := hVg61.ext hE
                  rintro _ rfl
                  rintro _ ⟨A194, rfl, hO196, hN197, hap_hO196_g11, hap_hO196_g13, hap_hO196_g27, hap_hO196_g61⟩
                  intro R
                  refine WL.take rfl ?_
                  refine WL.call Try.func34 rfl Try.nm34 rfl rfl (qMul2_c hO196.rd hN197 (digs_lim _) (digs_lim _) hLbn hLbd (qa * qb⁻¹) (val_canon _) qb hqb 100 (by omega) (by omega)) ?_
                  rintro _ w199 ⟨A200, m201, c202, A203, m204, c205, rfl, hGw199, h4n, h4d, h4m⟩
                  have hap_h4n_g11 := ap_new h4n (hVg11.bl_ge _ rfl).2
                  have hap_h4n_g13 := ap_new h4n (hVg13.bl_ge _ rfl).2
                  have hap_h4n_g27 := ap_new h4n (hVg27.bl_ge _ rfl).2
                  have hap_h4n_g61 := ap_new h4n (hVg61.bl_ge _ rfl).2
                  have hap_h4d_g11 := ap_new h4d (hVg11.bl_ge _ rfl).2
                  have hap_h4d_g13 := ap_new h4d (hVg13.bl_ge _ rfl).2
                  have hap_h4d_g27 := ap_new h4d (hVg27.bl_ge _ rfl).2
                  have hap_h4d_g61 := ap_new h4d (hVg61.bl_ge _ rfl).2
                  have h4n := h4n.low (b' := w.heap.size) hB.size
                  have h4d := h4d.low (b' := w.heap.size) hB.size
                  have hB := ext_trans hB hGw199
                  have h4n_l := h4n.rd.ulen
                  have h4d_l := h4d.rd.ulen
                  exact WL.done ⟨_, rfl, hGw199, ⟨A200, m201, c202, A203, m204, c205, rfl, h4n, h4d, h4m, hap_h4n_g11, hap_h4n_g13, hap_h4n_g27, hap_h4n_g61, hap_h4d_g11, hap_h4d_g13, hap_h4d_g27, hap_h4d_g61⟩⟩
                · intro w206 hE
                  have hE := hE rfl
                  have hB := ext_trans hB hE
                  have hVg11 := hVg11.ext hE
                  rintro _ rfl
                  intro R
                  refine WL.take rfl ?_
                  refine WL.loadV (cs := [.bool na, .slice Aan man can, .slice Aad mad cad]) Try.el31 Try.agg31 rfl rfl hVg11.vcells rfl ?_
                  exact WL.done ⟨_, rfl, ext_refl _, rfl⟩
                · intro w207 hE
                  have hE := hE rfl
                  have hB := ext_trans hB hE
                  have han := han0.ext hB
                  have had := had0.ext hB
                  have hVg11 := hVg11.ext hE
                  have hVg13 := hVg13.ext hE
                  have hVg27 := hVg27.ext hE
                  have hVg61 := hVg61.ext hE
                  rintro _ rfl
                  rintro _ rfl
                  intro R
                  refine WL.take rfl ?_
                  refine WL.call Try.func19 rfl Try.nm19 rfl rfl (qTrim_c han had hLan hLad qa hqa (by omega)) ?_
                  rintro _ w208 ⟨A209, m210, c211, A212, m213, c214, rfl, hGw208, h5n, h5d, h5m⟩
                  have hap_h5n_g11 := ap_new h5n (hVg11.bl_ge _ rfl).2
                  have hap_h5n_g13 := ap_new h5n (hVg13.bl_ge _ rfl).2
                  have hap_h5n_g27 := ap_new h5n (hVg27.bl_ge _ rfl).2
                  have hap_h5n_g61 := ap_new h5n (hVg61.bl_ge _ rfl).2
                  have hap_h5d_g11 := ap_new h5d (hVg11.bl_ge _ rfl).2
                  have hap_h5d_g13 := ap_new h5d (hVg13.bl_ge _ rfl).2
                  have hap_h5d_g27 := ap_new h5d (hVg27.bl_ge _ rfl).2
                  have hap_h5d_g61 := ap_new h5d (hVg61.bl_ge _ rfl).2
                  have h5n := h5n.low (b' := w.heap.size) hB.size
                  have h5d := h5d.low (b' := w.heap.size) hB.size
                  have hB := ext_trans hB hGw208
                  have h5n_l := h5n.rd.ulen
                  have h5d_l := h5d.rd.ulen
                  exact WL.done ⟨_, rfl, hGw208, ⟨A209, m210, c211, A212, m213, c214, rfl, h5n, h5d, h5m, hap_h5n_g11, hap_h5n_g13, hap_h5n_g27, hap_h5n_g61, hap_h5d_g11, hap_h5d_g13, hap_h5d_g27, hap_h5d_g61⟩⟩
                · intro w215 hE
                  have hE := hE rfl
                  have hB := ext_trans hB hE
                  rintro _ rfl
                  rintro _ ⟨A200, m201, c202, A203, m204, c205, rfl, h4n, h4d, h4m, hap_h4n_g11, hap_h4n_g13, hap_h4n_g27, hap_h4n_g61, hap_h4d_g11, hap_h4d_g13, hap_h4d_g27, hap_h4d_g61⟩
                  rintro _ ⟨A209, m210, c211, A212, m213, c214, rfl, h5n, h5d, h5m, hap_h5n_g11, hap_h5n_g13, hap_h5n_g27, hap_h5n_g61, hap_h5d_g11, hap_h5d_g13, hap_h5d_g27, hap_h5d_g61⟩
                  intro R
                  refine WL.take rfl ?_
                  refine WL.call Try.func18 rfl Try.nm18 rfl rfl (qsame_t h4n.rd h4d.rd h5n.rd h5d.rd (can_eq (div_mul_q hz))) ?_
                  rintro _ w216 ⟨rfl, hGw216⟩
                  have hB := ext_trans hB hGw216
                  exact WL.done ⟨_, rfl, hGw216, rfl⟩
                · intro w217 hE
                  rintro _ rfl
                  rintro _ rfl
                  intro R
                  refine WL.pick rfl rfl rfl ?_
                  exact WL.done ⟨_, rfl, rfl, rfl⟩
                · intro w218 hE
                  rintro _ rfl
                  intro R
                  refine WL.move rfl rfl ?_
                  exact WL.done ⟨_, rfl, rfl, rfl⟩
                · intro w219 hE
                  have hE := hE rfl
                  have hB := ext_trans hB hE
                  have hVg61 := hVg61.ext hE
                  rintro _ rfl
                  intro R
                  refine WL.take rfl ?_
                  refine WL.loadV (cs := [.bool (qneg ((qa * qb) * qb⁻¹)), .slice A51_6_7 m52_6_7 c53_6_7, .slice A54_6_7 m55_6_7 c56_6_7]) Try.el31 Try.agg31 rfl rfl hVg61.vcells rfl ?_
                  exact WL.done ⟨_, rfl, ext_refl _, rfl⟩
                · intro w220 hE
                  have hE := hE rfl
                  have hB := ext_trans hB hE
                  have hVg11 := hVg11.ext hE
                  rintro _ rfl
                  intro R
                  refine WL.take rfl ?_
                  refine WL.loadV (cs := [.bool na, .slice Aan man can, .slice Aad mad cad]) Try.el31 Try.agg31 rfl rfl hVg11.vcells rfl ?_
                  exact WL.done ⟨_, rfl, ext_refl _, rfl⟩
                · intro w221 hE
                  have hE := hE rfl
                  have hB := ext_trans hB hE
                  have han := han0.ext hB
                  have had := had0.ext hB
                  have hVg11 := hVg11.ext hE
                  have hVg13 := hVg13.ext hE
                  have hVg27 := hVg27.ext hE
                  have hVg61 := hVg61.ext hE
                  rintro _ rfl
                  rintro _ rfl
                  intro R
                  refine WL.take rfl ?_
                  refine WL.call Try.func19 rfl Try.nm19 rfl rfl (qTrim_c han had hLan hLad qa hqa (by omega)) ?_
                  rintro _ w222 ⟨A223, m224, c225, A226, m227, c228, rfl, hGw222, h6n, h6d, h6m⟩
                  have hap_h6n_g11 := ap_new h6n (hVg11.bl_ge _ rfl).2
                  have hap_h6n_g13 := ap_new h6n (hVg13.bl_ge _ rfl).2
                  have hap_h6n_g27 := ap_new h6n (hVg27.bl_ge _ rfl).2
                  have hap_h6n_g61 := ap_new h6n (hVg61.bl_ge _ rfl).2
                  have hap_h6d_g11 := ap_new h6d (hVg11.bl_ge _ rfl).2
                  have hap_h6d_g13 := ap_new h6d (hVg13.bl_ge _ rfl).2
                  have hap_h6d_g27 := ap_new h6d (hVg27.bl_ge _ rfl).2
                  have hap_h6d_g61 := ap_new h6d (hVg61.bl_ge _ rfl).2
                  have h6n := h6n.low (b' := w.heap.size) hB.size
                  have h6d := h6d.low (b' := w.heap.size) hB.size
                  have hB := ext_trans hB hGw222
                  have h6n_l := h6n.rd.ulen
                  have h6d_l := h6d.rd.ulen
                  exact WL.done ⟨_, rfl, hGw222, ⟨A223, m224, c225, A226, m227, c228, rfl, h6n, h6d, h6m, hap_h6n_g11, hap_h6n_g13, hap_h6n_g27, hap_h6n_g61, hap_h6d_g11, hap_h6d_g13, hap_h6d_g27, hap_h6d_g61⟩⟩
                · intro w229 hE
                  have hE := hE rfl
                  have hB := ext_trans hB hE
                  have h3n_6_7 := h3n_6_7.ext hE
                  have h3d_6_7 := h3d_6_7.ext hE
                  rintro _ rfl
                  rintro _ rfl
                  rintro _ ⟨A223, m224, c225, A226, m227, c228, rfl, h6n, h6d, h6m, hap_h6n_g11, hap_h6n_g13, hap_h6n_g27, hap_h6n_g61, hap_h6d_g11, hap_h6d_g13, hap_h6d_g27, hap_h6d_g61⟩
                  intro R
                  refine WL.take rfl ?_
                  refine WL.call Try.func18 rfl Try.nm18 rfl rfl (qsame_t h3n_6_7.rd h3d_6_7.rd h6n.rd h6d.rd (can_eq (mul_div_q hz))) ?_
                  rintro _ w230 ⟨rfl, hGw230⟩
                  have hB := ext_trans hB hGw230
                  exact WL.done ⟨_, rfl, hGw230, rfl⟩
                · intro w231 hE
                  rintro _ rfl
                  rintro _ rfl
                  intro R
                  refine WL.pick rfl rfl rfl ?_
                  exact WL.done ⟨_, rfl, rfl, rfl⟩
              · intro vals w232 hT hVs
                have hB := ext_trans hB hT
                have hv0 : vals 0 = _ := hVs 0 (by decide)
                have hv1 : vals 1 = _ := hVs 1 (by decide)
                have hv2 : vals 2 = _ := hVs 2 (by decide)
                have hv3 : vals 3 = _ := hVs 3 (by decide)
                have hv4 : vals 4 = _ := hVs 4 (by decide)
                have hv5 : vals 5 = _ := hVs 5 (by decide)
                have hv6 : vals 6 = _ := hVs 6 (by decide)
                have hv7 : vals 7 = _ := hVs 7 (by decide)
                have hv8 : vals 8 = _ := hVs 8 (by decide)
                have hv9 : vals 9 = _ := hVs 9 (by decide)
                have hv10 : vals 10 = _ := hVs 10 (by decide)
                have hv11 : vals 11 = _ := hVs 11 (by decide)
                have hv12 : vals 12 = _ := hVs 12 (by decide)
                obtain ⟨A194, hv13, hO196, hN197, hap_hO196_g11, hap_hO196_g13, hap_hO196_g27, hap_hO196_g61⟩ := hVs 13 (by decide)
                obtain ⟨A200, m201, c202, A203, m204, c205, hv14, h4n, h4d, h4m, hap_h4n_g11, hap_h4n_g13, hap_h4n_g27, hap_h4n_g61, hap_h4d_g11, hap_h4d_g13, hap_h4d_g27, hap_h4d_g61⟩ := hVs 14 (by decide)
                have hv15 : vals 15 = _ := hVs 15 (by decide)
                obtain ⟨A209, m210, c211, A212, m213, c214, hv16, h5n, h5d, h5m, hap_h5n_g11, hap_h5n_g13, hap_h5n_g27, hap_h5n_g61, hap_h5d_g11, hap_h5d_g13, hap_h5d_g27, hap_h5d_g61⟩ := hVs 16 (by decide)
                have hv17 : vals 17 = _ := hVs 17 (by decide)
                have hv18 : vals 18 = _ := hVs 18 (by decide)
                have hv19 : vals 19 = _ := hVs 19 (by decide)
                have hv20 : vals 20 = _ := hVs 20 (by decide)
                have hv21 : vals 21 = _ := hVs 21 (by decide)
                obtain ⟨A223, m224, c225, A226, m227, c228, hv22, h6n, h6d, h6m, hap_h6n_g11, hap_h6n_g13, hap_h6n_g27, hap_h6n_g61, hap_h6d_g11, hap_h6d_g13, hap_h6d_g27, hap_h6d_g61⟩ := hVs 22 (by decide)
                have hv23 : vals 23 = _ := hVs 23 (by decide)
                have hv24 : vals 24 = _ := hVs 24 (by decide)
                rw [show (List.filterMap (fun i => Option.map (fun t => (t, vals i)) (dstAt _ i)) (List.range _)) = [(37, .int .i64 (0 : Int)), (38, .bool true), (39, .bool true), (40, .int .i64 (0 : Int)), (41, .bool true), (42, .bool true), (43, .bool true), (44, .agg #[.bool (qneg (qa * qb⁻¹)), .slice A21 m22 c23, .slice A24 m25 c26]), (45, .bool true), (46, .bool true), (47, .bool true), (48, .agg #[.bool (qneg (qa * qb⁻¹)), .slice A21 m22 c23, .slice A24 m25 c26]), (49, .agg #[.bool nb, .slice Abn mbn cbn, .slice Abd mbd cbd]), (50, .slice A194 2 2), (51, .agg #[.bool (qneg ((qa * qb⁻¹) * qb)), .slice A200 m201 c202, .slice A203 m204 c205]), (52, .agg #[.bool na, .slice Aan man can, .slice Aad mad cad]), (53, .agg #[.bool (qneg (qa)), .slice A209 m210 c211, .slice A212 m213 c214]), (54, .bool true), (55, .bool true), (56, .bool true), (57, .agg #[.bool (qneg ((qa * qb) * qb⁻¹)), .slice A51_6_7 m52_6_7 c53_6_7, .slice A54_6_7 m55_6_7 c56_6_7]), (58, .agg #[.bool na, .slice Aan man can, .slice Aad mad cad]), (59, .agg #[.bool (qneg (qa)), .slice A223 m224 c225, .slice A226 m227 c228]), (60, .bool true), (61, .bool true)] from by
                  show [(37, vals 0), (38, vals 1), (39, vals 2), (40, vals 3), (41, vals 4), (42, vals 5), (43, vals 6), (44, vals 7), (45, vals 8), (46, vals 9), (47, vals 10), (48, vals 11), (49, vals 12), (50, vals 13), (51, vals 14), (52, vals 15), (53, vals 16), (54, vals 17), (55, vals 18), (56, vals 19), (57, vals 20), (58, vals 21), (59, vals 22), (60, vals 23), (61, vals 24)] = _
                  rw [hv0, hv1, hv2, hv3, hv4, hv5, hv6, hv7, hv8, hv9, hv10, hv11, hv12, hv13, hv14, hv15, hv16, hv17, hv18, hv19, hv20, hv21, hv22, hv23, hv24]]
                refine WA.step [25] (by decide +kernel) rfl ?_
                intro iQ hQ
                simp only [List.mem_cons, List.not_mem_nil, or_false] at hQ
                obtain rfl := hQ
                · refine ⟨_, rfl, ?_⟩
                  refine WL.assign rfl rfl ?_
                  refine WL.done ?_
                  refine WA.done (by decide +kernel) ?_
                  refine W.ret ?_
                  refine ⟨_, rfl, ?_⟩
                  exact ⟨rfl, hB⟩
  · have hlo := hlo_t rfl
    refine WL.done ?_
    refine W.condT rfl ?_
    refine W.seq ?_
    refine W.region ?_
    refine WL.assign rfl rfl ?_
    refine WL.done ?_
    refine W.ret ?_
    refine ⟨_, rfl, ?_⟩
    exact ⟨rfl, hB⟩

theorem RationalDivides_c {w : World} {Ban : Nat} {Aan : Option Addr} {man can : Nat} {xan : List Nat} (han : Rd Ban w 1 Aan man can (us xan)) {Bad : Nat} {Aad : Option Addr} {mad cad : Nat} {xad : List Nat} (had : Rd Bad w 1 Aad mad cad (us xad)) {Bbn : Nat} {Abn : Option Addr} {mbn cbn : Nat} {xbn : List Nat} (hbn : Rd Bbn w 1 Abn mbn cbn (us xbn)) {Bbd : Nat} {Abd : Option Addr} {mbd cbd : Nat} {xbd : List Nat} (hbd : Rd Bbd w 1 Abd mbd cbd (us xbd)) {na : Bool} (hLan : Lim xan) (hLad : Lim xad) (hza : man * 4 ≤ 140737488351232 ∧ mad * 4 ≤ 140737488351232) {nb : Bool} (hLbn : Lim xbn) (hLbd : Lim xbd) (hzb : mbn * 4 ≤ 140737488351232 ∧ mbd * 4 ≤ 140737488351232) : Calls Try.prog 9 #[.agg #[.bool na, .slice Aan man can, .slice Aad mad cad], .agg #[.bool nb, .slice Abn mbn cbn, .slice Abd mbd cbd]] w fun e w2 => ∃ v, e = .returned v ∧ (fun v w2 => v = .bool true ∧ w.grownBy w2 none) v w2 := by
  by_cases h : val nb (nv xbn) (nv xbd) = 0
  · exact RationalDivides_z han had hbn hbd hLan hLad hza hLbn hLbd hzb _ rfl h
  · exact RationalDivides_ok han had hbn hbd hLan hLad hza hLbn hLbd hzb _ rfl h
end Go.Proofs.Ythfpcebcfjlkmab
