/- Contracts of functions of the program, and what they lean on. -/
import Derived.Test.YthfpcebcfjlkmabW21
set_option linter.unusedSimpArgs false
set_option linter.unusedVariables false
namespace Go.Proofs.Ythfpcebcfjlkmab
open Go.RowKit
theorem qAdd_c {w : World} {Bl BNl : Nat} {Al : Option Addr} {ml cl : Nat} {cel : List Value} {rl : List Fr3} (hl : Rd Bl w 3 Al ml cl cel) (hNl : RatsR BNl w cel rl) (hLl : RLim rl) (K : Nat) (hK : RLen K rl) (hfb : fb K ml ≤ 4194304) :
    Calls Try.prog 32 #[.slice Al ml cl] w fun e w2 => ∃ v, e = .returned v ∧ (fun v w2 => ∃ A2 m2 c2 A3 m3 c3, v = .agg #[.bool (qneg (qsum rl)), .slice A2 m2 c2, .slice A3 m3 c3] ∧ w.grownBy w2 none ∧ Own w.heap.size w2 43 1 A2 m2 c2 (us (digs (qnum (qsum rl)))) ∧ Own w.heap.size w2 43 1 A3 m3 c3 (us (digs (Rat.den (qsum rl)))) ∧ m2 ≤ fb K ml ∧ m3 ≤ fb K ml) v w2 := by
  have hl := hl.norm
  have hNl := hNl.norm
  have hl_n := hl.len
  have hl_nn := hNl.len
  have hl_l : rl.length = ml := by omega
  have hl_x := hl.max
  simp only [maxLen] at hl_x
  have hl_c := hl.cap
  have hl0 := hl
  have hNl0 := hNl
  have hB := ext_refl w
  refine calls_of_Wc (vs := [.slice Al ml cl]) [.cell 2 31] Try.func32 rfl rfl rfl rfl ?_
  refine W.seq ?_
  refine W.region ?_
  refine WL.alloc Try.el31 rfl ?_
  intro g11 w12 hg_g11 hVg11 hGw12
  change Own _ _ _ _ _ _ _ [.bool false, .slice none 0 0, .slice none 0 0] at hVg11
  have hVg11 := hVg11.low (b' := w.heap.size) hB.size
  have hB := ext_trans hB hGw12
  have hl := hl0.ext hB
  have hNl := hNl0.ext hB
  refine WL.done ?_
  refine W.seq ?_
  rcases Nat.eq_zero_or_pos ml with hm | hm
  · refine W.region ?_
    refine WL.move rfl rfl ?_
    refine WL.call Try.func51 rfl Try.nm51 rfl rfl (zero_c) ?_
    rintro _ w13 ⟨A14, m15, c16, A17, m18, c19, rfl, hGw13, hzn, hzd, hzm⟩
    have hap_hzn_g11 := ap_new hzn (hVg11.bl_ge _ rfl).2
    have hap_hzd_g11 := ap_new hzd (hVg11.bl_ge _ rfl).2
    have hzn := hzn.low (b' := w.heap.size) hB.size
    have hzd := hzd.low (b' := w.heap.size) hB.size
    have hB := ext_trans hB hGw13
    have hl := hl0.ext hB
    have hNl := hNl0.ext hB
    have hVg11 := hVg11.ext hGw13
    have hzn_l := hzn.rd.ulen
    have hzd_l := hzd.rd.ulen
    refine WL.call Try.func64 rfl Try.nm64 rfl rfl (fold_sum_z hl hNl hm) ?_
    rintro _ w20 ⟨rfl, hGw20⟩
    have hB := ext_trans hB hGw20
    have hVg11 := hVg11.ext hGw20
    have hzn := hzn.ext hGw20
    have hzd := hzd.ext hGw20
    refine WL.storeV Try.el31 rfl rfl rfl rfl hVg11 ?_
    have hOld22 := hVg11
    intro w21 hVg11 hGw21
    change Own _ _ _ _ _ _ _ [.bool (qneg ((0 : Rat))), .slice A14 m15 c16, .slice A17 m18 c19] at hVg11
    have hB := ext_own hB hGw21 (fun g hg => (hOld22.bl_ge g hg).1)
    have hzn := hzn.grown hGw21 (ap_row hap_hzn_g11)
    have hzd := hzd.grown hGw21 (ap_row hap_hzd_g11)
    refine WL.done ?_
    refine W.ret ?_
    refine ⟨[.agg #[.bool (qneg ((0 : Rat))), .slice A14 m15 c16, .slice A17 m18 c19]], ⟨_, _, _, rfl, rfl, run_loadV (cs := [.bool (qneg ((0 : Rat))), .slice A14 m15 c16, .slice A17 m18 c19]) Try.el31 Try.agg31 rfl hVg11.vcells, rfl⟩, ?_⟩
    have e0 : qsum rl = 0 := by rw [List.eq_nil_of_length_eq_zero (show rl.length = 0 by omega)]; rfl
    rw [e0]
    have hf0 := fb_zero K
    have hfm := fb_mono (K := K) (Nat.zero_le ml)
    exact ⟨_, _, _, _, _, _, rfl, hB, hzn, hzd, by omega⟩
  · refine W.region ?_
    refine WL.move rfl rfl ?_
    refine WL.call Try.func51 rfl Try.nm51 rfl rfl (zero_c) ?_
    rintro _ w23 ⟨A24, m25, c26, A27, m28, c29, rfl, hGw23, hzn, hzd, hzm⟩
    have hzn := hzn.low (b' := w.heap.size) hB.size
    have hzd := hzd.low (b' := w.heap.size) hB.size
    have hB := ext_trans hB hGw23
    have hl := hl0.ext hB
    have hNl := hNl0.ext hB
    have hVg11 := hVg11.ext hGw23
    have hzn_l := hzn.rd.ulen
    have hzd_l := hzd.rd.ulen
    refine WL.call Try.func64 rfl Try.nm64 rfl rfl (fold_sum hl hNl hLl K hK hfb hm) ?_
    rintro _ w30 ⟨A31, m32, c33, A34, m35, c36, rfl, hGw30, hrn, hrd, hrm⟩
    have hap_hrn_g11 := ap_new hrn (hVg11.bl_ge _ rfl).2
    have hap_hrd_g11 := ap_new hrd (hVg11.bl_ge _ rfl).2
    have hrn := hrn.low (b' := w.heap.size) hB.size
    have hrd := hrd.low (b' := w.heap.size) hB.size
    have hB := ext_trans hB hGw30
    have hVg11 := hVg11.ext hGw30
    have hrn_l := hrn.rd.ulen
    have hrd_l := hrd.rd.ulen
    refine WL.storeV Try.el31 rfl rfl rfl rfl hVg11 ?_
    have hOld38 := hVg11
    intro w37 hVg11 hGw37
    change Own _ _ _ _ _ _ _ [.bool (qneg (qsum rl)), .slice A31 m32 c33, .slice A34 m35 c36] at hVg11
    have hB := ext_own hB hGw37 (fun g hg => (hOld38.bl_ge g hg).1)
    have hrn := hrn.grown hGw37 (ap_row hap_hrn_g11)
    have hrd := hrd.grown hGw37 (ap_row hap_hrd_g11)
    refine WL.done ?_
    refine W.ret ?_
    refine ⟨[.agg #[.bool (qneg (qsum rl)), .slice A31 m32 c33, .slice A34 m35 c36]], ⟨_, _, _, rfl, rfl, run_loadV (cs := [.bool (qneg (qsum rl)), .slice A31 m32 c33, .slice A34 m35 c36]) Try.el31 Try.agg31 rfl hVg11.vcells, rfl⟩, ?_⟩
    exact ⟨_, _, _, _, _, _, rfl, hB, hrn, hrd, by omega⟩

theorem qAdd2_c {w : World} {B BN : Nat} {A : Option Addr} {c : Nat} {na nb : Bool} {Aan Aad Abn Abd : Option Addr} {man can mad cad mbn cbn mbd cbd : Nat} {xan xad xbn xbd : List Nat}
    (hT : Rd B w 3 A 2 c [.bool na, .slice Aan man can, .slice Aad mad cad, .bool nb, .slice Abn mbn cbn, .slice Abd mbd cbd]) (hN : RatsR BN w [.bool na, .slice Aan man can, .slice Aad mad cad, .bool nb, .slice Abn mbn cbn, .slice Abd mbd cbd] [(na, xan, xad), (nb, xbn, xbd)])
    (hLan : Lim xan) (hLad : Lim xad) (hLbn : Lim xbn) (hLbd : Lim xbd) (qa : Rat) (hqa : val na (nv xan) (nv xad) = qa) (qb : Rat) (hqb : val nb (nv xbn) (nv xbd) = qb) (K : Nat) (hs : man ≤ K ∧ mad ≤ K ∧ mbn ≤ K ∧ mbd ≤ K) (hK : 4 * (K + 1) + 1 ≤ 4194304) :
    Calls Try.prog 32 #[.slice A 2 c] w fun e w2 => ∃ v, e = .returned v ∧ (fun v w2 => ∃ A2 m2 c2 A3 m3 c3, v = .agg #[.bool (qneg (qa + qb)), .slice A2 m2 c2, .slice A3 m3 c3] ∧ w.grownBy w2 none ∧ Own w.heap.size w2 43 1 A2 m2 c2 (us (digs (qnum (qa + qb)))) ∧ Own w.heap.size w2 43 1 A3 m3 c3 (us (digs (Rat.den (qa + qb)))) ∧ m2 ≤ 4 * (K + 1) + 1 ∧ m3 ≤ 4 * (K + 1) + 1) v w2 := by
  have h1 : xan.length = man := (hN.rd1 0 (by simp)).ulen
  have h2 : xad.length = mad := (hN.rd2 0 (by simp)).ulen
  have h3 : xbn.length = mbn := (hN.rd1 1 (by simp)).ulen
  have h4 : xbd.length = mbd := (hN.rd2 1 (by simp)).ulen
  have e : qsum [(na, xan, xad), (nb, xbn, xbd)] = qa + qb := by simp only [qsum, qv, Rat.add_zero]; rw [hqa, hqb]
  have hf : fb K 2 = 4 * (K + 1) + 1 := rfl
  refine (qAdd_c hT hN (RLim.cons hLan hLad (RLim.cons hLbn hLbd RLim.nil)) K (RLen.cons (by omega) (by omega) (RLen.cons (by omega) (by omega) (RLen.nil _))) (by omega)).mono fun e w2 h => ?_
  rw [hf] at h
  rwa [‹qsum _ = _›] at h

theorem qMul_c {w : World} {Bl BNl : Nat} {Al : Option Addr} {ml cl : Nat} {cel : List Value} {rl : List Fr3} (hl : Rd Bl w 3 Al ml cl cel) (hNl : RatsR BNl w cel rl) (hLl : RLim rl) (K : Nat) (hK : RLen K rl) (hfb : fb K ml ≤ 4194304) :
    Calls Try.prog 34 #[.slice Al ml cl] w fun e w2 => ∃ v, e = .returned v ∧ (fun v w2 => ∃ A2 m2 c2 A3 m3 c3, v = .agg #[.bool (qneg (qprod rl)), .slice A2 m2 c2, .slice A3 m3 c3] ∧ w.grownBy w2 none ∧ Own w.heap.size w2 43 1 A2 m2 c2 (us (digs (qnum (qprod rl)))) ∧ Own w.heap.size w2 43 1 A3 m3 c3 (us (digs (Rat.den (qprod rl)))) ∧ m2 ≤ fb K ml ∧ m3 ≤ fb K ml) v w2 := by
  have hl := hl.norm
  have hNl := hNl.norm
  have hl_n := hl.len
  have hl_nn := hNl.len
  have hl_l : rl.length = ml := by omega
  have hl_x := hl.max
  simp only [maxLen] at hl_x
  have hl_c := hl.cap
  have hl0 := hl
  have hNl0 := hNl
  have hB := ext_refl w
  refine calls_of_Wc (vs := [.slice Al ml cl]) [.cell 2 31] Try.func34 rfl rfl rfl rfl ?_
  refine W.seq ?_
  refine W.region ?_
  refine WL.alloc Try.el31 rfl ?_
  intro g11 w12 hg_g11 hVg11 hGw12
  change Own _ _ _ _ _ _ _ [.bool false, .slice none 0 0, .slice none 0 0] at hVg11
  have hVg11 := hVg11.low (b' := w.heap.size) hB.size
  have hB := ext_trans hB hGw12
  have hl := hl0.ext hB
  have hNl := hNl0.ext hB
  refine WL.done ?_
  refine W.seq ?_
  rcases Nat.eq_zero_or_pos ml with hm | hm
  · refine W.region ?_
    refine WL.move rfl rfl ?_
    refine WL.call Try.func66 rfl Try.nm66 rfl rfl (one_c) ?_
    rintro _ w13 ⟨A14, m15, c16, rfl, hGw13, hp, hpm⟩
    have hap_hp_g11 := ap_new hp (hVg11.bl_ge _ rfl).2
    have hp := hp.low (b' := w.heap.size) hB.size
    have hB := ext_trans hB hGw13
    have hl := hl0.ext hB
    have hNl := hNl0.ext hB
    have hVg11 := hVg11.ext hGw13
    have hp_l := hp.rd.ulen
    refine WL.call Try.func66 rfl Try.nm66 rfl rfl (one_c) ?_
    rintro _ w17 ⟨A18, m19, c20, rfl, hGw17, hq, hqm⟩
    have hap_hq_g11 := ap_new hq (hVg11.bl_ge _ rfl).2
    have hq := hq.low (b' := w.heap.size) hB.size
    have hB := ext_trans hB hGw17
    have hl := hl0.ext hB
    have hNl := hNl0.ext hB
    have hVg11 := hVg11.ext hGw17
    have hp := hp.ext hGw17
    have hq_l := hq.rd.ulen
    refine WL.build (cells := #[.bool false, .slice A14 m15 c16, .slice A18 m19 c20]) Try.bld31 rfl rfl rfl ?_
    refine WL.call Try.func64 rfl Try.nm64 rfl rfl (fold_prod_z hl hNl hm) ?_
    rintro _ w21 ⟨rfl, hGw21⟩
    have hB := ext_trans hB hGw21
    have hVg11 := hVg11.ext hGw21
    have hp := hp.ext hGw21
    have hq := hq.ext hGw21
    refine WL.storeV Try.el31 rfl rfl rfl rfl hVg11 ?_
    have hOld23 := hVg11
    intro w22 hVg11 hGw22
    change Own _ _ _ _ _ _ _ [.bool false, .slice A14 m15 c16, .slice A18 m19 c20] at hVg11
    have hB := ext_own hB hGw22 (fun g hg => (hOld23.bl_ge g hg).1)
    have hp := hp.grown hGw22 (ap_row hap_hp_g11)
    have hq := hq.grown hGw22 (ap_row hap_hq_g11)
    refine WL.done ?_
    refine W.ret ?_
    refine ⟨[.agg #[.bool false, .slice A14 m15 c16, .slice A18 m19 c20]], ⟨_, _, _, rfl, rfl, run_loadV (cs := [.bool false, .slice A14 m15 c16, .slice A18 m19 c20]) Try.el31 Try.agg31 rfl hVg11.vcells, rfl⟩, ?_⟩
    have e0 : qprod rl = 1 := by rw [List.eq_nil_of_length_eq_zero (show rl.length = 0 by omega)]; rfl
    rw [e0]
    have hf0 := fb_zero K
    have hfm := fb_mono (K := K) (Nat.zero_le ml)
    exact ⟨_, _, _, _, _, _, rfl, hB, hp, hq, by omega⟩
  · refine W.region ?_
    refine WL.move rfl rfl ?_
    refine WL.call Try.func66 rfl Try.nm66 rfl rfl (one_c) ?_
    rintro _ w24 ⟨A25, m26, c27, rfl, hGw24, hp, hpm⟩
    have hp := hp.low (b' := w.heap.size) hB.size
    have hB := ext_trans hB hGw24
    have hl := hl0.ext hB
    have hNl := hNl0.ext hB
    have hVg11 := hVg11.ext hGw24
    have hp_l := hp.rd.ulen
    refine WL.call Try.func66 rfl Try.nm66 rfl rfl (one_c) ?_
    rintro _ w28 ⟨A29, m30, c31, rfl, hGw28, hq, hqm⟩
    have hq := hq.low (b' := w.heap.size) hB.size
    have hB := ext_trans hB hGw28
    have hl := hl0.ext hB
    have hNl := hNl0.ext hB
    have hVg11 := hVg11.ext hGw28
    have hq_l := hq.rd.ulen
    refine WL.build (cells := #[.bool false, .slice A25 m26 c27, .slice A29 m30 c31]) Try.bld31 rfl rfl rfl ?_
    refine WL.call Try.func64 rfl Try.nm64 rfl rfl (fold_prod hl hNl hLl K hK hfb hm) ?_
    rintro _ w32 ⟨A33, m34, c35, A36, m37, c38, rfl, hGw32, hrn, hrd, hrm⟩
    have hap_hrn_g11 := ap_new hrn (hVg11.bl_ge _ rfl).2
    have hap_hrd_g11 := ap_new hrd (hVg11.bl_ge _ rfl).2
    have hrn := hrn.low (b' := w.heap.size) hB.size
    have hrd := hrd.low (b' := w.heap.size) hB.size
    have hB := ext_trans hB hGw32
    have hVg11 := hVg11.ext hGw32
    have hrn_l := hrn.rd.ulen
    have hrd_l := hrd.rd.ulen
    refine WL.storeV Try.el31 rfl rfl rfl rfl hVg11 ?_
    have hOld40 := hVg11
    intro w39 hVg11 hGw39
    change Own _ _ _ _ _ _ _ [.bool (qneg (qprod rl)), .slice A33 m34 c35, .slice A36 m37 c38] at hVg11
    have hB := ext_own hB hGw39 (fun g hg => (hOld40.bl_ge g hg).1)
    have hrn := hrn.grown hGw39 (ap_row hap_hrn_g11)
    have hrd := hrd.grown hGw39 (ap_row hap_hrd_g11)
    refine WL.done ?_
    refine W.ret ?_
    refine ⟨[.agg #[.bool (qneg (qprod rl)), .slice A33 m34 c35, .slice A36 m37 c38]], ⟨_, _, _, rfl, rfl, run_loadV (cs := [.bool (qneg (qprod rl)), .slice A33 m34 c35, .slice A36 m37 c38]) Try.el31 Try.agg31 rfl hVg11.vcells, rfl⟩, ?_⟩
    exact ⟨_, _, _, _, _, _, rfl, hB, hrn, hrd, by omega⟩

theorem qMul2_c {w : World} {B BN : Nat} {A : Option Addr} {c : Nat} {na nb : Bool} {Aan Aad Abn Abd : Option Addr} {man can mad cad mbn cbn mbd cbd : Nat} {xan xad xbn xbd : List Nat}
    (hT : Rd B w 3 A 2 c [.bool na, .slice Aan man can, .slice Aad mad cad, .bool nb, .slice Abn mbn cbn, .slice Abd mbd cbd]) (hN : RatsR BN w [.bool na, .slice Aan man can, .slice Aad mad cad, .bool nb, .slice Abn mbn cbn, .slice Abd mbd cbd] [(na, xan, xad), (nb, xbn, xbd)])
    (hLan : Lim xan) (hLad : Lim xad) (hLbn : Lim xbn) (hLbd : Lim xbd) (qa : Rat) (hqa : val na (nv xan) (nv xad) = qa) (qb : Rat) (hqb : val nb (nv xbn) (nv xbd) = qb) (K : Nat) (hs : man ≤ K ∧ mad ≤ K ∧ mbn ≤ K ∧ mbd ≤ K) (hK : 4 * (K + 1) + 1 ≤ 4194304) :
    Calls Try.prog 34 #[.slice A 2 c] w fun e w2 => ∃ v, e = .returned v ∧ (fun v w2 => ∃ A2 m2 c2 A3 m3 c3, v = .agg #[.bool (qneg (qa * qb)), .slice A2 m2 c2, .slice A3 m3 c3] ∧ w.grownBy w2 none ∧ Own w.heap.size w2 43 1 A2 m2 c2 (us (digs (qnum (qa * qb)))) ∧ Own w.heap.size w2 43 1 A3 m3 c3 (us (digs (Rat.den (qa * qb)))) ∧ m2 ≤ 4 * (K + 1) + 1 ∧ m3 ≤ 4 * (K + 1) + 1) v w2 := by
  have h1 : xan.length = man := (hN.rd1 0 (by simp)).ulen
  have h2 : xad.length = mad := (hN.rd2 0 (by simp)).ulen
  have h3 : xbn.length = mbn := (hN.rd1 1 (by simp)).ulen
  have h4 : xbd.length = mbd := (hN.rd2 1 (by simp)).ulen
  have e : qprod [(na, xan, xad), (nb, xbn, xbd)] = qa * qb := by simp only [qprod, qv, Rat.mul_one]; rw [hqa, hqb]
  have hf : fb K 2 = 4 * (K + 1) + 1 := rfl
  refine (qMul_c hT hN (RLim.cons hLan hLad (RLim.cons hLbn hLbd RLim.nil)) K (RLen.cons (by omega) (by omega) (RLen.cons (by omega) (by omega) (RLen.nil _))) (by omega)).mono fun e w2 h => ?_
  rw [hf] at h
  rwa [‹qprod _ = _›] at h

theorem half_one : val false (nv [1]) (nv [2]) + val false (nv [1]) (nv [2]) = 1 := by decide +kernel
theorem can_one : qneg 1 = false ∧ digs (qnum 1) = [1] ∧ digs (Rat.den 1) = [1] := ⟨rfl, by decide, by decide⟩
theorem dec_t {p : Prop} [Decidable p] (h : p) : Value.bool (decide p) = .bool true := congrArg Value.bool (decide_eq_true h)
theorem dec_f {p : Prop} [Decidable p] (h : ¬ p) : Value.bool (decide p) = .bool false := congrArg Value.bool (decide_eq_false h)
end Go.Proofs.Ythfpcebcfjlkmab
