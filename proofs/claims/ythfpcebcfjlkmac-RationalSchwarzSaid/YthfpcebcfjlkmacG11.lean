/- Contracts of functions of the program, and what they lean on: W28. -/
import Derived.Test.YthfpcebcfjlkmacG10
set_option linter.unusedSimpArgs false
set_option linter.unusedVariables false
namespace Go.Proofs.Ythfpcebcfjlkmac
open Go.RowKit
theorem qDot_ne {w : World} {Bl BNl : Nat} {Al : Option Addr} {ml cl : Nat} {cel : List Value} {rl : List Fr3} (hl : Rd Bl w 3 Al ml cl cel) (hNl : RatsR BNl w cel rl) {Bm BNm : Nat} {Am : Option Addr} {mm cm : Nat} {cem : List Value} {rm : List Fr3} (hm : Rd Bm w 3 Am mm cm cem) (hNm : RatsR BNm w cem rm) (hne : ml ≠ mm) :
    Calls Try.prog 16 #[.slice Al ml cl, .slice Am mm cm] w fun e w2 => ∃ v, e = .returned v ∧ (fun v w2 => v = .tuple #[.agg #[.bool false, .slice none 0 0, .slice none 0 0], .int .i64 3] ∧ w.grownBy w2 none) v w2 := by
  have hl := hl.norm
  have hNl := hNl.norm
  have hl_n := hl.len
  have hl_nn := hNl.len
  have hl_l : rl.length = ml := by omega
  have hl_x := hl.max
  simp only [maxLen] at hl_x
  have hl_c := hl.cap
  have hl0 := hl
  have hNl0 := hNl
  have hm := hm.norm
  have hNm := hNm.norm
  have hm_n := hm.len
  have hm_nn := hNm.len
  have hm_l : rm.length = mm := by omega
  have hm_x := hm.max
  simp only [maxLen] at hm_x
  have hm_c := hm.cap
  have hm0 := hm
  have hNm0 := hNm
  have hB := ext_refl w
  refine calls_of_Wc (vs := [.slice Al ml cl, .slice Am mm cm]) [.cell 4 25, .tmp 5] Try.func16 rfl rfl rfl rfl ?_
  refine W.seq ?_
  refine W.region ?_
  refine WL.alloc Try.el25 rfl ?_
  intro g11 w12 hg_g11 hVg11 hGw12
  change Own _ _ _ _ _ _ _ [.bool false, .slice none 0 0, .slice none 0 0] at hVg11
  have hVg11 := hVg11.low (b' := w.heap.size) hB.size
  have hB := ext_trans hB hGw12
  refine WL.assign rfl rfl ?_
  refine WL.done ?_
  refine W.seq ?_
  refine W.seq ?_
  refine W.region ?_
  refine WL.move rfl rfl ?_
  refine WL.len Try.underlying35 rfl rfl ?_
  refine WL.move rfl rfl ?_
  refine WL.len Try.underlying35 rfl rfl ?_
  refine WL.neq rfl rfl rfl (fun c13 => ?_) (fun c13 => ?_)
  · refine WL.done ?_
    refine W.condT rfl ?_
    refine W.seq ?_
    refine W.region ?_
    refine WL.build (cells := #[.bool false, .slice none 0 0, .slice none 0 0]) Try.bld25 rfl rfl rfl ?_
    refine WL.storeV Try.el25 rfl rfl rfl rfl hVg11 ?_
    have hOld15 := hVg11
    intro w14 hVg11 hGw14
    change Own _ _ _ _ _ _ _ [.bool false, .slice none 0 0, .slice none 0 0] at hVg11
    have hB := ext_own hB hGw14 (fun g hg => (hOld15.bl_ge g hg).1)
    refine WL.assign rfl rfl ?_
    refine WL.done ?_
    refine W.ret ?_
    refine ⟨[.agg #[.bool false, .slice none 0 0, .slice none 0 0], .int .i64 (3 : Int)], ⟨_, _, _, rfl, rfl, run_loadV (cs := [.bool false, .slice none 0 0, .slice none 0 0]) Try.el25 Try.agg25 rfl hVg11.vcells, ⟨_, _, rfl, rfl, rfl⟩⟩, ?_⟩
    exact ⟨rfl, hB⟩
  · exfalso
    omega

theorem qDot_ok {w : World} {Bl BNl : Nat} {Al : Option Addr} {ml cl : Nat} {cel : List Value} {rl : List Fr3} (hl : Rd Bl w 3 Al ml cl cel) (hNl : RatsR BNl w cel rl) {Bm BNm : Nat} {Am : Option Addr} {mm cm : Nat} {cem : List Value} {rm : List Fr3} (hm : Rd Bm w 3 Am mm cm cem) (hNm : RatsR BNm w cem rm) (hLl : RLim rl) (hLm : RLim rm) (hKl : RLen 4 rl) (hKm : RLen 4 rm) (h16 : ml ≤ 16) (heq : ml = mm) :
    Calls Try.prog 16 #[.slice Al ml cl, .slice Am mm cm] w fun e w2 => ∃ v, e = .returned v ∧ (fun v w2 => ∃ A2 m2 c2 A3 m3 c3, v = .tuple #[.agg #[.bool (qneg (dsum rl rm ml)), .slice A2 m2 c2, .slice A3 m3 c3], .int .i64 0] ∧ w.grownBy w2 none ∧ Own w.heap.size w2 48 1 A2 m2 c2 (us (digs (qnum (dsum rl rm ml)))) ∧ Own w.heap.size w2 48 1 A3 m3 c3 (us (digs (Rat.den (dsum rl rm ml)))) ∧ m2 ≤ 195 ∧ m3 ≤ 195) v w2 := by
  have hl := hl.norm
  have hNl := hNl.norm
  have hl_n := hl.len
  have hl_nn := hNl.len
  have hl_l : rl.length = ml := by omega
  have hl_x := hl.max
  simp only [maxLen] at hl_x
  have hl_c := hl.cap
  have hl0 := hl
  have hNl0 := hNl
  have hm := hm.norm
  have hNm := hNm.norm
  have hm_n := hm.len
  have hm_nn := hNm.len
  have hm_l : rm.length = mm := by omega
  have hm_x := hm.max
  simp only [maxLen] at hm_x
  have hm_c := hm.cap
  have hm0 := hm
  have hNm0 := hNm
  have hB := ext_refl w
  refine calls_of_Wc (vs := [.slice Al ml cl, .slice Am mm cm]) [.cell 4 25, .tmp 5] Try.func16 rfl rfl rfl rfl ?_
  refine W.seq ?_
  refine W.region ?_
  refine WL.alloc Try.el25 rfl ?_
  intro go w11 hg_go hVgo hGw11
  change Own _ _ _ _ _ _ _ [.bool false, .slice none 0 0, .slice none 0 0] at hVgo
  have hVgo := hVgo.low (b' := w.heap.size) hB.size
  have hB := ext_trans hB hGw11
  have hl := hl0.ext hB
  have hNl := hNl0.ext hB
  have hm := hm0.ext hB
  have hNm := hNm0.ext hB
  refine WL.assign rfl rfl ?_
  refine WL.done ?_
  refine W.seq ?_
  refine W.seq ?_
  refine W.region ?_
  refine WL.move rfl rfl ?_
  refine WL.len Try.underlying35 rfl rfl ?_
  refine WL.move rfl rfl ?_
  refine WL.len Try.underlying35 rfl rfl ?_
  refine WL.neq rfl rfl rfl (fun c12 => ?_) (fun c12 => ?_)
  · exfalso
    omega
  · refine WL.done ?_
    refine W.condF rfl ?_
    refine W.skip ?_
    refine W.seq ?_
    refine W.region ?_
    refine WL.call Try.func22 rfl Try.nm22 rfl rfl (zero_c) ?_
    rintro _ w13 ⟨A14, m15, c16, A17, m18, c19, rfl, hGw13, hzn, hzd, hzm⟩
    have hzn := hzn.low (b' := w.heap.size) hB.size
    have hzd := hzd.low (b' := w.heap.size) hB.size
    have hB := ext_trans hB hGw13
    have hl := hl0.ext hB
    have hNl := hNl0.ext hB
    have hm := hm0.ext hB
    have hNm := hNm0.ext hB
    have hVgo := hVgo.ext hGw13
    have hzn_l := hzn.rd.ulen
    have hzd_l := hzd.rd.ulen
    refine WL.alloc Try.el25 rfl ?_
    intro gt w20 hg_gt hVgt hGw20
    change Own _ _ _ _ _ _ _ [.bool false, .slice none 0 0, .slice none 0 0] at hVgt
    have hlt_go_gt : go < gt := by rw [hg_gt]; exact (hVgo.bl_ge _ rfl).2
    have hap_hzn_gt := ap_old hzn hg_gt
    have hap_hzd_gt := ap_old hzd hg_gt
    have hVgt := hVgt.low (b' := w.heap.size) hB.size
    have hB := ext_trans hB hGw20
    have hl := hl0.ext hB
    have hNl := hNl0.ext hB
    have hm := hm0.ext hB
    have hNm := hNm0.ext hB
    have hVgo := hVgo.ext hGw20
    have hzn := hzn.ext hGw20
    have hzd := hzd.ext hGw20
    refine WL.storeV Try.el25 rfl rfl rfl rfl hVgt ?_
    have hOld22 := hVgt
    intro w21 hVgt hGw21
    change Own _ _ _ _ _ _ _ [.bool (qneg ((0 : Rat))), .slice A14 m15 c16, .slice A17 m18 c19] at hVgt
    have hB := ext_own hB hGw21 (fun g hg => (hOld22.bl_ge g hg).1)
    have hl := hl0.ext hB
    have hNl := hNl0.ext hB
    have hm := hm0.ext hB
    have hNm := hNm0.ext hB
    have hVgo := hVgo.grown hGw21 (apart (by omega))
    have hzn := hzn.grown hGw21 (ap_row hap_hzn_gt)
    have hzd := hzd.grown hGw21 (ap_row hap_hzd_gt)
    refine WL.done ?_
    refine W.seq ?_
    refine W.seq ?_
    refine W.region ?_
    refine WL.move rfl rfl ?_
    refine WL.len Try.underlying35 rfl rfl ?_
    refine WL.move rfl rfl ?_
    refine WL.done ?_
    refine W.block ?_
    refine W.loop (σ := Nat × Option Addr × Nat × Nat × Option Addr × Nat × Nat × Nat) (fun s w1 => match s with | (j, Aj, mj, cj, Ak, mk, ck, gx) => w.grownBy w1 none ∧ j ≤ ml ∧ Own w.heap.size w1 48 1 Aj mj cj (us (digs (qnum (dsum rl rm j)))) ∧ Own w.heap.size w1 48 1 Ak mk ck (us (digs (Rat.den (dsum rl rm j)))) ∧ mj ≤ 12 * j + 3 ∧ mk ≤ 12 * j + 3 ∧ gx = 0 ∧ Own w.heap.size w1 25 3 (some ⟨gt, 0, none⟩) 1 1 [.bool (qneg (dsum rl rm j)), .slice Aj mj cj, .slice Ak mk ck] ∧ Own w.heap.size w1 25 3 (some ⟨go, 0, none⟩) 1 1 [.bool false, .slice none 0 0, .slice none 0 0]) (fun s => match s with | (j, Aj, mj, cj, Ak, mk, ck, gx) => [(0, .slice Al ml cl), (1, .slice Am mm cm), (4, .pointer (some ⟨go, 0, none⟩)), (6, .pointer (some ⟨gt, 0, none⟩)), (16, .int .i64 ((ml : Nat) : Int)), (17, .int .i64 ((j : Nat) : Int))]) (fun s => match s with | (j, Aj, mj, cj, Ak, mk, ck, gx) => ml - j) (0, A14, m15, c16, A17, m18, c19, 0) ?_ ?_ ?_
    · exact ⟨hB, by omega, hzn, hzd, by omega, by omega, rfl, hVgt, hVgo⟩
    · exact ⟨rfl, rfl, rfl, rfl, iv (by omega), iv (by omega), trivial⟩
    · rintro ⟨j, Aj, mj, cj, Ak, mk, ck, gx⟩ w23 ⟨hB, hj, hjn, hjd, hbj, hbk, hgx, hVgt, hVgo⟩
      have hl := hl0.ext hB
      have hNl := hNl0.ext hB
      have hm := hm0.ext hB
      have hNm := hNm0.ext hB
      have hjn_l := hjn.rd.ulen
      have hjd_l := hjd.rd.ulen
      have hap_hjn_go := ap_type hjn hVgo (by decide)
      have hap_hjd_go := ap_type hjd hVgo (by decide)
      refine W.seq ?_
      refine W.region ?_
      refine WL.lss rfl rfl rfl (fun c24 => ?_) (fun c24 => ?_)
      · refine WL.done ?_
        refine W.seq ?_
        refine W.condT rfl ?_
        refine W.skip ?_
        refine W.seq ?_
        refine W.block ?_
        refine W.seq ?_
        refine W.region ?_
        refine WL.move rfl rfl ?_
        refine WL.assign rfl rfl ?_
        refine WL.done ?_
        have hkl := hKl j (by omega); have hkm := hKm j (by omega); have hu1 := (hNl0.rd1 j (by omega)).ulen; have hu2 := (hNl0.rd2 j (by omega)).ulen; have hu3 := (hNm0.rd1 j (by omega)).ulen; have hu4 := (hNm0.rd2 j (by omega)).ulen
        · refine W.drawT 10 [⟨[], [6], false⟩, ⟨[], [0], true⟩, ⟨[], [7], true⟩, ⟨[1, 2], [], true⟩, ⟨[3], [], false⟩, ⟨[], [1], true⟩, ⟨[], [7], true⟩, ⟨[5, 6], [], true⟩, ⟨[7], [], false⟩, ⟨[4, 8], [], false⟩] [[(6, .pointer (some ⟨gt, 0, none⟩))], [(0, .slice Al ml cl)], [(7, .int .i64 ((j : Nat) : Int))], [], [], [(1, .slice Am mm cm)], [(7, .int .i64 ((j : Nat) : Int))], [], [], []] (fun iQ => [fun v wQ => v = .agg #[.bool (qneg (dsum rl rm j)), .slice Aj mj cj, .slice Ak mk ck], fun v wQ => v = .slice Al ml cl, fun v wQ => v = .int .i64 ((j : Nat) : Int), fun v wQ => v = .pointer (some ((adOf Al).add (j * 3))), fun v wQ => v = .agg #[.bool (rl.getD j fr0).1, .slice (sA (cel.getD (j * 3 + 1) undef)) (sM (cel.getD (j * 3 + 1) undef)) (sC (cel.getD (j * 3 + 1) undef)), .slice (sA (cel.getD (j * 3 + 2) undef)) (sM (cel.getD (j * 3 + 2) undef)) (sC (cel.getD (j * 3 + 2) undef))], fun v wQ => v = .slice Am mm cm, fun v wQ => v = .int .i64 ((j : Nat) : Int), fun v wQ => v = .pointer (some ((adOf Am).add (j * 3))), fun v wQ => v = .agg #[.bool (rm.getD j fr0).1, .slice (sA (cem.getD (j * 3 + 1) undef)) (sM (cem.getD (j * 3 + 1) undef)) (sC (cem.getD (j * 3 + 1) undef)), .slice (sA (cem.getD (j * 3 + 2) undef)) (sM (cem.getD (j * 3 + 2) undef)) (sC (cem.getD (j * 3 + 2) undef))], fun v wQ => ∃ A36 m37 c38 A39 m40 c41, v = .agg #[.bool (qneg ((qv (rl.getD j fr0)) * (qv (rm.getD j fr0)))), .slice A36 m37 c38, .slice A39 m40 c41] ∧ (Own w.heap.size wQ 48 1 A36 m37 c38 (us (digs (qnum ((qv (rl.getD j fr0)) * (qv (rm.getD j fr0))))))) ∧ (Own w.heap.size wQ 48 1 A39 m40 c41 (us (digs (Rat.den ((qv (rl.getD j fr0)) * (qv (rm.getD j fr0))))))) ∧ (m37 ≤ (sM (cel.getD (j * 3 + 1) undef)) + (sM (cem.getD (j * 3 + 1) undef)) ∧ m40 ≤ (sM (cel.getD (j * 3 + 2) undef)) + (sM (cem.getD (j * 3 + 2) undef)) + 1) ∧ (∀ k, bl A36 = some k → k ≠ go) ∧ (∀ k, bl A36 = some k → k ≠ gt) ∧ (∀ k, bl A39 = some k → k ≠ go) ∧ (∀ k, bl A39 = some k → k ≠ gt)].getD iQ (fun _ _ => True)) Try.mixed (by kernel_rfl) ?_ ?_ ?_
          · refine Vs_monoT _ ?_
            intro VQ hVQ vQ wQ1 wQ2 hQ1 hQ2
            simp only [List.mem_cons, List.not_mem_nil, or_false] at hVQ
            rcases hVQ with rfl | rfl | rfl | rfl | rfl | rfl | rfl | rfl | rfl | rfl
            · exact hQ1
            · exact hQ1
            · exact hQ1
            · exact hQ1
            · exact hQ1
            · exact hQ1
            · exact hQ1
            · exact hQ1
            · exact hQ1
            · obtain ⟨A36, m37, c38, A39, m40, c41, hQe, hpn, hpd, hpm, hap_hpn_go, hap_hpn_gt, hap_hpd_go, hap_hpd_gt⟩ := hQ1
              exact ⟨A36, m37, c38, A39, m40, c41, hQe, hpn.ext hQ2, hpd.ext hQ2, hpm, hap_hpn_go, hap_hpn_gt, hap_hpd_go, hap_hpd_gt⟩
          · refine ⟨⟨rfl, ⟨rfl, trivial⟩, ?_⟩, ⟨rfl, ⟨rfl, trivial⟩, ?_⟩, ⟨rfl, ⟨rfl, trivial⟩, ?_⟩, ⟨rfl, trivial, ?_⟩, ⟨rfl, trivial, ?_⟩, ⟨rfl, ⟨rfl, trivial⟩, ?_⟩, ⟨rfl, ⟨rfl, trivial⟩, ?_⟩, ⟨rfl, trivial, ?_⟩, ⟨rfl, trivial, ?_⟩, ⟨rfl, trivial, ?_⟩, trivial⟩
            · intro w25 hE
              have hE := hE rfl
              have hB := ext_trans hB hE
              have hVgt := hVgt.ext hE
              intro R
              refine WL.loadV (cs := [.bool (qneg (dsum rl rm j)), .slice Aj mj cj, .slice Ak mk ck]) Try.el25 Try.agg25 rfl rfl hVgt.vcells rfl ?_
              exact WL.done ⟨_, rfl, ext_refl _, rfl⟩
            · intro w26 hE
              intro R
              refine WL.move rfl rfl ?_
              exact WL.done ⟨_, rfl, rfl, rfl⟩
            · intro w27 hE
              intro R
              refine WL.move rfl rfl ?_
              exact WL.done ⟨_, rfl, rfl, rfl⟩
            · intro w28 hE
              rintro _ rfl
              rintro _ rfl
              intro R
              refine WL.index (j) Try.underlying35 Try.el25 rfl rfl (by omega) (by omega) hl rfl ?_
              exact WL.done ⟨_, rfl, rfl, rfl⟩
            · intro w29 hE
              have hE := hE rfl
              have hB := ext_trans hB hE
              have hl := hl0.ext hB
              have hNl := hNl0.ext hB
              rintro _ rfl
              intro R
              refine WL.loadV (cs := [.bool (rl.getD j fr0).1, .slice (sA (cel.getD (j * 3 + 1) undef)) (sM (cel.getD (j * 3 + 1) undef)) (sC (cel.getD (j * 3 + 1) undef)), .slice (sA (cel.getD (j * 3 + 2) undef)) (sM (cel.getD (j * 3 + 2) undef)) (sC (cel.getD (j * 3 + 2) undef))]) Try.el25 Try.agg25 rfl rfl (hNl.load hl j (by omega)) rfl ?_
              exact WL.done ⟨_, rfl, ext_refl _, rfl⟩
            · intro w30 hE
              intro R
              refine WL.move rfl rfl ?_
              exact WL.done ⟨_, rfl, rfl, rfl⟩
            · intro w31 hE
              intro R
              refine WL.move rfl rfl ?_
              exact WL.done ⟨_, rfl, rfl, rfl⟩
            · intro w32 hE
              rintro _ rfl
              rintro _ rfl
              intro R
              refine WL.index (j) Try.underlying35 Try.el25 rfl rfl (by omega) (by omega) hm rfl ?_
              exact WL.done ⟨_, rfl, rfl, rfl⟩
            · intro w33 hE
              have hE := hE rfl
              have hB := ext_trans hB hE
              have hm := hm0.ext hB
              have hNm := hNm0.ext hB
              rintro _ rfl
              intro R
              refine WL.loadV (cs := [.bool (rm.getD j fr0).1, .slice (sA (cem.getD (j * 3 + 1) undef)) (sM (cem.getD (j * 3 + 1) undef)) (sC (cem.getD (j * 3 + 1) undef)), .slice (sA (cem.getD (j * 3 + 2) undef)) (sM (cem.getD (j * 3 + 2) undef)) (sC (cem.getD (j * 3 + 2) undef))]) Try.el25 Try.agg25 rfl rfl (hNm.load hm j (by omega)) rfl ?_
              exact WL.done ⟨_, rfl, ext_refl _, rfl⟩
            · intro w34 hE
              have hE := hE rfl
              have hB := ext_trans hB hE
              have hNl := hNl0.ext hB
              have hNm := hNm0.ext hB
              have hVgt := hVgt.ext hE
              have hVgo := hVgo.ext hE
              rintro _ rfl
              rintro _ rfl
              intro R
              refine WL.call Try.func40 rfl Try.nm40 rfl rfl (prod_c (hNl.rd1 j (by omega)) (hNl.rd2 j (by omega)) (hNm.rd1 j (by omega)) (hNm.rd2 j (by omega)) (hLl j (by omega)).1 (hLl j (by omega)).2 (qv (rl.getD j fr0)) rfl (hLm j (by omega)).1 (hLm j (by omega)).2 (qv (rm.getD j fr0)) rfl (by omega) (by omega)) ?_
              rintro _ w35 ⟨A36, m37, c38, A39, m40, c41, rfl, hGw35, hpn, hpd, hpm⟩
              have hap_hpn_go := ap_new hpn (hVgo.bl_ge _ rfl).2
              have hap_hpn_gt := ap_new hpn (hVgt.bl_ge _ rfl).2
              have hap_hpd_go := ap_new hpd (hVgo.bl_ge _ rfl).2
              have hap_hpd_gt := ap_new hpd (hVgt.bl_ge _ rfl).2
              have hpn := hpn.low (b' := w.heap.size) hB.size
              have hpd := hpd.low (b' := w.heap.size) hB.size
              have hB := ext_trans hB hGw35
              have hpn_l := hpn.rd.ulen
              have hpd_l := hpd.rd.ulen
              exact WL.done ⟨_, rfl, hGw35, ⟨A36, m37, c38, A39, m40, c41, rfl, hpn, hpd, hpm, hap_hpn_go, hap_hpn_gt, hap_hpd_go, hap_hpd_gt⟩⟩
          · intro vals w42 hT hVs
            have hB := ext_trans hB hT
            have hjn := hjn.ext hT
            have hjd := hjd.ext hT
            have hVgt := hVgt.ext hT
            have hVgo := hVgo.ext hT
            have hv0 : vals 0 = _ := hVs 0 (by decide)
            have hv1 : vals 1 = _ := hVs 1 (by decide)
            have hv2 : vals 2 = _ := hVs 2 (by decide)
            have hv3 : vals 3 = _ := hVs 3 (by decide)
            have hv4 : vals 4 = _ := hVs 4 (by decide)
            have hv5 : vals 5 = _ := hVs 5 (by decide)
            have hv6 : vals 6 = _ := hVs 6 (by decide)
            have hv7 : vals 7 = _ := hVs 7 (by decide)
            have hv8 : vals 8 = _ := hVs 8 (by decide)
            obtain ⟨A36, m37, c38, A39, m40, c41, hv9, hpn, hpd, hpm, hap_hpn_go, hap_hpn_gt, hap_hpd_go, hap_hpd_gt⟩ := hVs 9 (by decide)
            rw [show (List.filterMap (fun i => Option.map (fun t => (t, vals i)) (dstAt _ i)) (List.range _)) = [(20, .agg #[.bool (qneg (dsum rl rm j)), .slice Aj mj cj, .slice Ak mk ck]), (21, .slice Al ml cl), (22, .int .i64 ((j : Nat) : Int)), (23, .pointer (some ((adOf Al).add (j * 3)))), (24, .agg #[.bool (rl.getD j fr0).1, .slice (sA (cel.getD (j * 3 + 1) undef)) (sM (cel.getD (j * 3 + 1) undef)) (sC (cel.getD (j * 3 + 1) undef)), .slice (sA (cel.getD (j * 3 + 2) undef)) (sM (cel.getD (j * 3 + 2) undef)) (sC (cel.getD (j * 3 + 2) undef))]), (25, .slice Am mm cm), (26, .int .i64 ((j : Nat) : Int)), (27, .pointer (some ((adOf Am).add (j * 3)))), (28, .agg #[.bool (rm.getD j fr0).1, .slice (sA (cem.getD (j * 3 + 1) undef)) (sM (cem.getD (j * 3 + 1) undef)) (sC (cem.getD (j * 3 + 1) undef)), .slice (sA (cem.getD (j * 3 + 2) undef)) (sM (cem.getD (j * 3 + 2) undef)) (sC (cem.getD (j * 3 + 2) undef))]), (29, .agg #[.bool (qneg ((qv (rl.getD j fr0)) * (qv (rm.getD j fr0)))), .slice A36 m37 c38, .slice A39 m40 c41])] from by
              show [(20, vals 0), (21, vals 1), (22, vals 2), (23, vals 3), (24, vals 4), (25, vals 5), (26, vals 6), (27, vals 7), (28, vals 8), (29, vals 9)] = _
              rw [hv0, hv1, hv2, hv3, hv4, hv5, hv6, hv7, hv8, hv9]]
            refine WA.step [10] (by decide +kernel) rfl ?_
            intro iQ hQ
            simp only [List.mem_cons, List.not_mem_nil, or_false] at hQ
            obtain rfl := hQ
            · refine ⟨_, rfl, ?_⟩
              refine WL.call Try.func38 rfl Try.nm38 rfl rfl (sum_c hjn.rd hjd.rd hpn.rd hpd.rd (digs_lim _) (digs_lim _) (dsum rl rm j) (val_canon _) (digs_lim _) (digs_lim _) ((qv (rl.getD j fr0)) * (qv (rm.getD j fr0))) (val_canon _) (by omega) (by omega)) ?_
              rintro _ w43 ⟨A44, m45, c46, A47, m48, c49, rfl, hGw43, hrn, hrd, hrm⟩
              have hap_hrn_gt := ap_new hrn (hVgt.bl_ge _ rfl).2
              have hap_hrd_gt := ap_new hrd (hVgt.bl_ge _ rfl).2
              have hrn := hrn.low (b' := w.heap.size) hB.size
              have hrd := hrd.low (b' := w.heap.size) hB.size
              have hB := ext_trans hB hGw43
              have hjn := hjn.ext hGw43
              have hjd := hjd.ext hGw43
              have hVgt := hVgt.ext hGw43
              have hVgo := hVgo.ext hGw43
              have hrn_l := hrn.rd.ulen
              have hrd_l := hrd.rd.ulen
              refine WL.done ?_
              refine WA.step [11] (by decide +kernel) rfl ?_
              intro iQ hQ
              simp only [List.mem_cons, List.not_mem_nil, or_false] at hQ
              obtain rfl := hQ
              · refine ⟨_, rfl, ?_⟩
                refine WL.storeV Try.el25 rfl rfl rfl rfl hVgt ?_
                have hOld51 := hVgt
                intro w50 hVgt hGw50
                change Own _ _ _ _ _ _ _ [.bool (qneg ((dsum rl rm j) + ((qv (rl.getD j fr0)) * (qv (rm.getD j fr0))))), .slice A44 m45 c46, .slice A47 m48 c49] at hVgt
                have hB := ext_own hB hGw50 (fun g hg => (hOld51.bl_ge g hg).1)
                have hVgo := hVgo.grown hGw50 (apart (by omega))
                have hrn := hrn.grown hGw50 (ap_row hap_hrn_gt)
                have hrd := hrd.grown hGw50 (ap_row hap_hrd_gt)
                refine WL.done ?_
                refine WA.done (by decide +kernel) ?_
                refine W.region ?_
                refine WL.add (r := ((j + 1 : Nat) : Int)) rfl rfl (wi64 (by omega) (by omega) (by omega)) rfl ?_
                refine WL.move rfl rfl ?_
                refine WL.done ?_
                refine ⟨(j + 1, A44, m45, c46, A47, m48, c49, 0), ⟨rfl, rfl, rfl, rfl, iv (by omega), iv (by omega), trivial⟩, by (dsimp only; omega), ?_⟩
                clear hjn hjd
                exact ⟨hB, by omega, hrn, hrd, by omega, by omega, rfl, hVgt, hVgo⟩
      · refine WL.done ?_
        refine W.seq ?_
        refine W.condF rfl ?_
        refine W.exit ?_
        refine W.seq ?_
        refine W.region ?_
        refine WL.loadV (cs := [.bool (qneg (dsum rl rm j)), .slice Aj mj cj, .slice Ak mk ck]) Try.el25 Try.agg25 rfl rfl hVgt.vcells rfl ?_
        refine WL.storeV Try.el25 rfl rfl rfl rfl hVgo ?_
        have hOld53 := hVgo
        intro w52 hVgo hGw52
        change Own _ _ _ _ _ _ _ [.bool (qneg (dsum rl rm j)), .slice Aj mj cj, .slice Ak mk ck] at hVgo
        have hB := ext_own hB hGw52 (fun g hg => (hOld53.bl_ge g hg).1)
        have hjn := hjn.grown hGw52 (ap_row hap_hjn_go)
        have hjd := hjd.grown hGw52 (ap_row hap_hjd_go)
        refine WL.assign rfl rfl ?_
        refine WL.done ?_
        refine W.ret ?_
        refine ⟨[.agg #[.bool (qneg (dsum rl rm j)), .slice Aj mj cj, .slice Ak mk ck], .int .i64 (0 : Int)], ⟨_, _, _, rfl, rfl, run_loadV (cs := [.bool (qneg (dsum rl rm j)), .slice Aj mj cj, .slice Ak mk ck]) Try.el25 Try.agg25 rfl hVgo.vcells, ⟨_, _, rfl, rfl, rfl⟩⟩, ?_⟩
        have e0 : j = ml := by omega
        subst e0
        exact ⟨_, _, _, _, _, _, rfl, hB, hjn, hjd, by omega⟩

theorem rqDot_c {w : World} {Bl BNl : Nat} {Al : Option Addr} {ml cl : Nat} {cel : List Value} {rl : List Fr3} (hl : Rd Bl w 3 Al ml cl cel) (hNl : RatsR BNl w cel rl) {Bm BNm : Nat} {Am : Option Addr} {mm cm : Nat} {cem : List Value} {rm : List Fr3} (hm : Rd Bm w 3 Am mm cm cem) (hNm : RatsR BNm w cem rm) (hLl : RLim rl) (hLm : RLim rm) (hKl : RLen 4 rl) (hKm : RLen 4 rm) (h16 : ml ≤ 16) (heq : ml = mm) :
    Calls Try.prog 18 #[.slice Al ml cl, .slice Am mm cm] w fun e w2 => ∃ v, e = .returned v ∧ (fun v w2 => ∃ A2 m2 c2 A3 m3 c3, v = .agg #[.bool (qneg (dsum rl rm ml)), .slice A2 m2 c2, .slice A3 m3 c3] ∧ w.grownBy w2 none ∧ Own w.heap.size w2 48 1 A2 m2 c2 (us (digs (qnum (dsum rl rm ml)))) ∧ Own w.heap.size w2 48 1 A3 m3 c3 (us (digs (Rat.den (dsum rl rm ml)))) ∧ m2 ≤ 259 ∧ m3 ≤ 259) v w2 := by
  have hl := hl.norm
  have hNl := hNl.norm
  have hl_n := hl.len
  have hl_nn := hNl.len
  have hl_l : rl.length = ml := by omega
  have hl_x := hl.max
  simp only [maxLen] at hl_x
  have hl_c := hl.cap
  have hl0 := hl
  have hNl0 := hNl
  have hm := hm.norm
  have hNm := hNm.norm
  have hm_n := hm.len
  have hm_nn := hNm.len
  have hm_l : rm.length = mm := by omega
  have hm_x := hm.max
  simp only [maxLen] at hm_x
  have hm_c := hm.cap
  have hm0 := hm
  have hNm0 := hNm
  have hB := ext_refl w
  refine calls_of_Wc (vs := [.slice Al ml cl, .slice Am mm cm]) [.cell 4 25] Try.func18 rfl rfl rfl rfl ?_
  refine W.seq ?_
  refine W.region ?_
  refine WL.alloc Try.el25 rfl ?_
  intro go w11 hg_go hVgo hGw11
  change Own _ _ _ _ _ _ _ [.bool false, .slice none 0 0, .slice none 0 0] at hVgo
  have hVgo := hVgo.low (b' := w.heap.size) hB.size
  have hB := ext_trans hB hGw11
  have hl := hl0.ext hB
  have hNl := hNl0.ext hB
  have hm := hm0.ext hB
  have hNm := hNm0.ext hB
  refine WL.done ?_
  refine W.seq ?_
  refine W.region ?_
  refine WL.call Try.func10 rfl Try.nm10 rfl rfl (rqInt_c (by omega)) ?_
  rintro _ w12 ⟨A13, m14, c15, A16, m17, c18, rfl, hGw12, hzn, hzd, hzm⟩
  have hzn := hzn.low (b' := w.heap.size) hB.size
  have hzd := hzd.low (b' := w.heap.size) hB.size
  have hB := ext_trans hB hGw12
  have hl := hl0.ext hB
  have hNl := hNl0.ext hB
  have hm := hm0.ext hB
  have hNm := hNm0.ext hB
  have hVgo := hVgo.ext hGw12
  have hzn_l := hzn.rd.ulen
  have hzd_l := hzd.rd.ulen
  refine WL.alloc Try.el25 rfl ?_
  intro gt w19 hg_gt hVgt hGw19
  change Own _ _ _ _ _ _ _ [.bool false, .slice none 0 0, .slice none 0 0] at hVgt
  have hlt_go_gt : go < gt := by rw [hg_gt]; exact (hVgo.bl_ge _ rfl).2
  have hap_hzn_gt := ap_old hzn hg_gt
  have hap_hzd_gt := ap_old hzd hg_gt
  have hVgt := hVgt.low (b' := w.heap.size) hB.size
  have hB := ext_trans hB hGw19
  have hl := hl0.ext hB
  have hNl := hNl0.ext hB
  have hm := hm0.ext hB
  have hNm := hNm0.ext hB
  have hVgo := hVgo.ext hGw19
  have hzn := hzn.ext hGw19
  have hzd := hzd.ext hGw19
  refine WL.storeV Try.el25 rfl rfl rfl rfl hVgt ?_
  have hOld21 := hVgt
  intro w20 hVgt hGw20
  change Own _ _ _ _ _ _ _ [.bool (qneg (qOf (0 : Int) 1)), .slice A13 m14 c15, .slice A16 m17 c18] at hVgt
  have hB := ext_own hB hGw20 (fun g hg => (hOld21.bl_ge g hg).1)
  have hl := hl0.ext hB
  have hNl := hNl0.ext hB
  have hm := hm0.ext hB
  have hNm := hNm0.ext hB
  have hVgo := hVgo.grown hGw20 (apart (by omega))
  have hzn := hzn.grown hGw20 (ap_row hap_hzn_gt)
  have hzd := hzd.grown hGw20 (ap_row hap_hzd_gt)
  refine WL.done ?_
  refine W.seq ?_
  refine W.seq ?_
  refine W.region ?_
  refine WL.assign rfl rfl ?_
  refine WL.done ?_
  refine W.block ?_
  refine W.loop (σ := Nat × Option Addr × Nat × Nat × Option Addr × Nat × Nat × Nat) (fun s w1 => match s with | (j, Aj, mj, cj, Ak, mk, ck, gx) => w.grownBy w1 none ∧ j ≤ ml ∧ Own w.heap.size w1 48 1 Aj mj cj (us (digs (qnum (dsum rl rm j)))) ∧ Own w.heap.size w1 48 1 Ak mk ck (us (digs (Rat.den (dsum rl rm j)))) ∧ mj ≤ 16 * j + 3 ∧ mk ≤ 16 * j + 3 ∧ gx = 0 ∧ Own w.heap.size w1 25 3 (some ⟨gt, 0, none⟩) 1 1 [.bool (qneg (dsum rl rm j)), .slice Aj mj cj, .slice Ak mk ck] ∧ Own w.heap.size w1 25 3 (some ⟨go, 0, none⟩) 1 1 [.bool false, .slice none 0 0, .slice none 0 0]) (fun s => match s with | (j, Aj, mj, cj, Ak, mk, ck, gx) => [(0, .slice Al ml cl), (1, .slice Am mm cm), (4, .pointer (some ⟨go, 0, none⟩)), (5, .pointer (some ⟨gt, 0, none⟩)), (6, .int .i64 ((j : Nat) : Int))]) (fun s => match s with | (j, Aj, mj, cj, Ak, mk, ck, gx) => ml - j) (0, A13, m14, c15, A16, m17, c18, 0) ?_ ?_ ?_
  · have e0 : qOf 0 1 = dsum rl rm 0 := (by decide +kernel : qOf 0 1 = (0 : Rat))
    rw [e0] at hzn hzd hVgt
    exact ⟨hB, by omega, hzn, hzd, by omega, by omega, rfl, hVgt, hVgo⟩
  · exact ⟨rfl, rfl, rfl, rfl, iv (by omega), trivial⟩
  · rintro ⟨j, Aj, mj, cj, Ak, mk, ck, gx⟩ w22 ⟨hB, hj, hjn, hjd, hbj, hbk, hgx, hVgt, hVgo⟩
    have hl := hl0.ext hB
    have hNl := hNl0.ext hB
    have hm := hm0.ext hB
    have hNm := hNm0.ext hB
    have hjn_l := hjn.rd.ulen
    have hjd_l := hjd.rd.ulen
    have hap_hjn_go := ap_type hjn hVgo (by decide)
    have hap_hjd_go := ap_type hjd hVgo (by decide)
    refine W.seq ?_
    refine W.seq ?_
    refine W.region ?_
    refine WL.move rfl rfl ?_
    refine WL.move rfl rfl ?_
    refine WL.len Try.underlying35 rfl rfl ?_
    refine WL.lss rfl rfl rfl (fun hlt => ?_) (fun hlt => ?_)
    · refine WL.move rfl rfl ?_
      refine WL.take rfl ?_
      refine WL.move rfl rfl ?_
      refine WL.take rfl ?_
      refine WL.move rfl rfl ?_
      refine WL.take rfl ?_
      refine WL.len Try.underlying35 rfl rfl ?_
      refine WL.take rfl ?_
      refine WL.lss rfl rfl rfl (fun c24 => ?_) (fun c24 => ?_)
      · refine WL.pick rfl rfl rfl ?_
        refine WL.done ?_
        refine W.condT rfl ?_
        refine W.skip ?_
        refine W.seq ?_
        refine W.block ?_
        have hkl := hKl j (by omega); have hkm := hKm j (by omega); have hu1 := (hNl0.rd1 j (by omega)).ulen; have hu2 := (hNl0.rd2 j (by omega)).ulen; have hu3 := (hNm0.rd1 j (by omega)).ulen; have hu4 := (hNm0.rd2 j (by omega)).ulen
        · refine W.drawT 10 [⟨[], [5], false⟩, ⟨[], [0], true⟩, ⟨[], [6], true⟩, ⟨[1, 2], [], true⟩, ⟨[3], [], false⟩, ⟨[], [1], true⟩, ⟨[], [6], true⟩, ⟨[5, 6], [], true⟩, ⟨[7], [], false⟩, ⟨[4, 8], [], false⟩] [[(5, .pointer (some ⟨gt, 0, none⟩))], [(0, .slice Al ml cl)], [(6, .int .i64 ((j : Nat) : Int))], [], [], [(1, .slice Am mm cm)], [(6, .int .i64 ((j : Nat) : Int))], [], [], []] (fun iQ => [fun v wQ => v = .agg #[.bool (qneg (dsum rl rm j)), .slice Aj mj cj, .slice Ak mk ck], fun v wQ => v = .slice Al ml cl, fun v wQ => v = .int .i64 ((j : Nat) : Int), fun v wQ => v = .pointer (some ((adOf Al).add (j * 3))), fun v wQ => v = .agg #[.bool (rl.getD j fr0).1, .slice (sA (cel.getD (j * 3 + 1) undef)) (sM (cel.getD (j * 3 + 1) undef)) (sC (cel.getD (j * 3 + 1) undef)), .slice (sA (cel.getD (j * 3 + 2) undef)) (sM (cel.getD (j * 3 + 2) undef)) (sC (cel.getD (j * 3 + 2) undef))], fun v wQ => v = .slice Am mm cm, fun v wQ => v = .int .i64 ((j : Nat) : Int), fun v wQ => v = .pointer (some ((adOf Am).add (j * 3))), fun v wQ => v = .agg #[.bool (rm.getD j fr0).1, .slice (sA (cem.getD (j * 3 + 1) undef)) (sM (cem.getD (j * 3 + 1) undef)) (sC (cem.getD (j * 3 + 1) undef)), .slice (sA (cem.getD (j * 3 + 2) undef)) (sM (cem.getD (j * 3 + 2) undef)) (sC (cem.getD (j * 3 + 2) undef))], fun v wQ => ∃ A36 m37 c38 A39 m40 c41, v = .agg #[.bool (qneg ((qv (rl.getD j fr0)) * (qv (rm.getD j fr0)))), .slice A36 m37 c38, .slice A39 m40 c41] ∧ (Own w.heap.size wQ 48 1 A36 m37 c38 (us (digs (qnum ((qv (rl.getD j fr0)) * (qv (rm.getD j fr0))))))) ∧ (Own w.heap.size wQ 48 1 A39 m40 c41 (us (digs (Rat.den ((qv (rl.getD j fr0)) * (qv (rm.getD j fr0))))))) ∧ (m37 ≤ (sM (cel.getD (j * 3 + 1) undef)) + (sM (cem.getD (j * 3 + 1) undef)) ∧ m40 ≤ (sM (cel.getD (j * 3 + 2) undef)) + (sM (cem.getD (j * 3 + 2) undef)) + 3) ∧ (∀ k, bl A36 = some k → k ≠ go) ∧ (∀ k, bl A36 = some k → k ≠ gt) ∧ (∀ k, bl A39 = some k → k ≠ go) ∧ (∀ k, bl A39 = some k → k ≠ gt)].getD iQ (fun _ _ => True)) Try.mixed (by kernel_rfl) ?_ ?_ ?_
          · refine Vs_monoT _ ?_
            intro VQ hVQ vQ wQ1 wQ2 hQ1 hQ2
            simp only [List.mem_cons, List.not_mem_nil, or_false] at hVQ
            rcases hVQ with rfl | rfl | rfl | rfl | rfl | rfl | rfl | rfl | rfl | rfl
            · exact hQ1
            · exact hQ1
            · exact hQ1
            · exact hQ1
            · exact hQ1
            · exact hQ1
            · exact hQ1
            · exact hQ1
            · exact hQ1
            · obtain ⟨A36, m37, c38, A39, m40, c41, hQe, hpn, hpd, hpm, hap_hpn_go, hap_hpn_gt, hap_hpd_go, hap_hpd_gt⟩ := hQ1
              exact ⟨A36, m37, c38, A39, m40, c41, hQe, hpn.ext hQ2, hpd.ext hQ2, hpm, hap_hpn_go, hap_hpn_gt, hap_hpd_go, hap_hpd_gt⟩
          · refine ⟨⟨rfl, ⟨rfl, trivial⟩, ?_⟩, ⟨rfl, ⟨rfl, trivial⟩, ?_⟩, ⟨rfl, ⟨rfl, trivial⟩, ?_⟩, ⟨rfl, trivial, ?_⟩, ⟨rfl, trivial, ?_⟩, ⟨rfl, ⟨rfl, trivial⟩, ?_⟩, ⟨rfl, ⟨rfl, trivial⟩, ?_⟩, ⟨rfl, trivial, ?_⟩, ⟨rfl, trivial, ?_⟩, ⟨rfl, trivial, ?_⟩, trivial⟩
            · intro w25 hE
              have hE := hE rfl
              have hB := ext_trans hB hE
              have hVgt := hVgt.ext hE
              intro R
              refine WL.loadV (cs := [.bool (qneg (dsum rl rm j)), .slice Aj mj cj, .slice Ak mk ck]) Try.el25 Try.agg25 rfl rfl hVgt.vcells rfl ?_
              exact WL.done ⟨_, rfl, ext_refl _, rfl⟩
            · intro w26 hE
              intro R
              refine WL.move rfl rfl ?_
              exact WL.done ⟨_, rfl, rfl, rfl⟩
            · intro w27 hE
              intro R
              refine WL.move rfl rfl ?_
              exact WL.done ⟨_, rfl, rfl, rfl⟩
            · intro w28 hE
              rintro _ rfl
              rintro _ rfl
              intro R
              refine WL.index (j) Try.underlying35 Try.el25 rfl rfl (by omega) (by omega) hl rfl ?_
              exact WL.done ⟨_, rfl, rfl, rfl⟩
            · intro w29 hE
              have hE := hE rfl
              have hB := ext_trans hB hE
              have hl := hl0.ext hB
              have hNl := hNl0.ext hB
              rintro _ rfl
              intro R
              refine WL.loadV (cs := [.bool (rl.getD j fr0).1, .slice (sA (cel.getD (j * 3 + 1) undef)) (sM (cel.getD (j * 3 + 1) undef)) (sC (cel.getD (j * 3 + 1) undef)), .slice (sA (cel.getD (j * 3 + 2) undef)) (sM (cel.getD (j * 3 + 2) undef)) (sC (cel.getD (j * 3 + 2) undef))]) Try.el25 Try.agg25 rfl rfl (hNl.load hl j (by omega)) rfl ?_
              exact WL.done ⟨_, rfl, ext_refl _, rfl⟩
            · intro w30 hE
              intro R
              refine WL.move rfl rfl ?_
              exact WL.done ⟨_, rfl, rfl, rfl⟩
            · intro w31 hE
              intro R
              refine WL.move rfl rfl ?_
              exact WL.done ⟨_, rfl, rfl, rfl⟩
            · intro w32 hE
              rintro _ rfl
              rintro _ rfl
              intro R
              refine WL.index (j) Try.underlying35 Try.el25 rfl rfl (by omega) (by omega) hm rfl ?_
              exact WL.done ⟨_, rfl, rfl, rfl⟩
            · intro w33 hE
              have hE := hE rfl
              have hB := ext_trans hB hE
              have hm := hm0.ext hB
              have hNm := hNm0.ext hB
              rintro _ rfl
              intro R
              refine WL.loadV (cs := [.bool (rm.getD j fr0).1, .slice (sA (cem.getD (j * 3 + 1) undef)) (sM (cem.getD (j * 3 + 1) undef)) (sC (cem.getD (j * 3 + 1) undef)), .slice (sA (cem.getD (j * 3 + 2) undef)) (sM (cem.getD (j * 3 + 2) undef)) (sC (cem.getD (j * 3 + 2) undef))]) Try.el25 Try.agg25 rfl rfl (hNm.load hm j (by omega)) rfl ?_
              exact WL.done ⟨_, rfl, ext_refl _, rfl⟩
            · intro w34 hE
              have hE := hE rfl
              have hB := ext_trans hB hE
              have hNl := hNl0.ext hB
              have hNm := hNm0.ext hB
              have hVgt := hVgt.ext hE
              have hVgo := hVgo.ext hE
              rintro _ rfl
              rintro _ rfl
              intro R
              refine WL.call Try.func42 rfl Try.nm42 rfl rfl (rqMul_c (hNl.rd1 j (by omega)) (hNl.rd2 j (by omega)) (hNm.rd1 j (by omega)) (hNm.rd2 j (by omega)) (hLl j (by omega)).1 (hLl j (by omega)).2 (qv (rl.getD j fr0)) rfl (hLm j (by omega)).1 (hLm j (by omega)).2 (qv (rm.getD j fr0)) rfl (by omega) (by omega)) ?_
              rintro _ w35 ⟨A36, m37, c38, A39, m40, c41, rfl, hGw35, hpn, hpd, hpm⟩
              have hap_hpn_go := ap_new hpn (hVgo.bl_ge _ rfl).2
              have hap_hpn_gt := ap_new hpn (hVgt.bl_ge _ rfl).2
              have hap_hpd_go := ap_new hpd (hVgo.bl_ge _ rfl).2
              have hap_hpd_gt := ap_new hpd (hVgt.bl_ge _ rfl).2
              have hpn := hpn.low (b' := w.heap.size) hB.size
              have hpd := hpd.low (b' := w.heap.size) hB.size
              have hB := ext_trans hB hGw35
              have hpn_l := hpn.rd.ulen
              have hpd_l := hpd.rd.ulen
              exact WL.done ⟨_, rfl, hGw35, ⟨A36, m37, c38, A39, m40, c41, rfl, hpn, hpd, hpm, hap_hpn_go, hap_hpn_gt, hap_hpd_go, hap_hpd_gt⟩⟩
          · intro vals w42 hT hVs
            have hB := ext_trans hB hT
            have hjn := hjn.ext hT
            have hjd := hjd.ext hT
            have hVgt := hVgt.ext hT
            have hVgo := hVgo.ext hT
            have hv0 : vals 0 = _ := hVs 0 (by decide)
            have hv1 : vals 1 = _ := hVs 1 (by decide)
            have hv2 : vals 2 = _ := hVs 2 (by decide)
            have hv3 : vals 3 = _ := hVs 3 (by decide)
            have hv4 : vals 4 = _ := hVs 4 (by decide)
            have hv5 : vals 5 = _ := hVs 5 (by decide)
            have hv6 : vals 6 = _ := hVs 6 (by decide)
            have hv7 : vals 7 = _ := hVs 7 (by decide)
            have hv8 : vals 8 = _ := hVs 8 (by decide)
            obtain ⟨A36, m37, c38, A39, m40, c41, hv9, hpn, hpd, hpm, hap_hpn_go, hap_hpn_gt, hap_hpd_go, hap_hpd_gt⟩ := hVs 9 (by decide)
            rw [show (List.filterMap (fun i => Option.map (fun t => (t, vals i)) (dstAt _ i)) (List.range _)) = [(20, .agg #[.bool (qneg (dsum rl rm j)), .slice Aj mj cj, .slice Ak mk ck]), (21, .slice Al ml cl), (22, .int .i64 ((j : Nat) : Int)), (23, .pointer (some ((adOf Al).add (j * 3)))), (24, .agg #[.bool (rl.getD j fr0).1, .slice (sA (cel.getD (j * 3 + 1) undef)) (sM (cel.getD (j * 3 + 1) undef)) (sC (cel.getD (j * 3 + 1) undef)), .slice (sA (cel.getD (j * 3 + 2) undef)) (sM (cel.getD (j * 3 + 2) undef)) (sC (cel.getD (j * 3 + 2) undef))]), (25, .slice Am mm cm), (26, .int .i64 ((j : Nat) : Int)), (27, .pointer (some ((adOf Am).add (j * 3)))), (28, .agg #[.bool (rm.getD j fr0).1, .slice (sA (cem.getD (j * 3 + 1) undef)) (sM (cem.getD (j * 3 + 1) undef)) (sC (cem.getD (j * 3 + 1) undef)), .slice (sA (cem.getD (j * 3 + 2) undef)) (sM (cem.getD (j * 3 + 2) undef)) (sC (cem.getD (j * 3 + 2) undef))]), (29, .agg #[.bool (qneg ((qv (rl.getD j fr0)) * (qv (rm.getD j fr0)))), .slice A36 m37 c38, .slice A39 m40 c41])] from by
              show [(20, vals 0), (21, vals 1), (22, vals 2), (23, vals 3), (24, vals 4), (25, vals 5), (26, vals 6), (27, vals 7), (28, vals 8), (29, vals 9)] = _
              rw [hv0, hv1, hv2, hv3, hv4, hv5, hv6, hv7, hv8, hv9]]
            refine WA.step [10] (by decide +kernel) rfl ?_
            intro iQ hQ
            simp only [List.mem_cons, List.not_mem_nil, or_false] at hQ
            obtain rfl := hQ
            · refine ⟨_, rfl, ?_⟩
              refine WL.call Try.func41 rfl Try.nm41 rfl rfl (rqAdd_c hjn.rd hjd.rd hpn.rd hpd.rd (digs_lim _) (digs_lim _) (dsum rl rm j) (val_canon _) (digs_lim _) (digs_lim _) ((qv (rl.getD j fr0)) * (qv (rm.getD j fr0))) (val_canon _) (by omega) (by omega)) ?_
              rintro _ w43 ⟨A44, m45, c46, A47, m48, c49, rfl, hGw43, hrn, hrd, hrm⟩
              have hap_hrn_gt := ap_new hrn (hVgt.bl_ge _ rfl).2
              have hap_hrd_gt := ap_new hrd (hVgt.bl_ge _ rfl).2
              have hrn := hrn.low (b' := w.heap.size) hB.size
              have hrd := hrd.low (b' := w.heap.size) hB.size
              have hB := ext_trans hB hGw43
              have hjn := hjn.ext hGw43
              have hjd := hjd.ext hGw43
              have hVgt := hVgt.ext hGw43
              have hVgo := hVgo.ext hGw43
              have hrn_l := hrn.rd.ulen
              have hrd_l := hrd.rd.ulen
              refine WL.done ?_
              refine WA.step [11] (by decide +kernel) rfl ?_
              intro iQ hQ
              simp only [List.mem_cons, List.not_mem_nil, or_false] at hQ
              obtain rfl := hQ
              · refine ⟨_, rfl, ?_⟩
                refine WL.storeV Try.el25 rfl rfl rfl rfl hVgt ?_
                have hOld51 := hVgt
                intro w50 hVgt hGw50
                change Own _ _ _ _ _ _ _ [.bool (qneg ((dsum rl rm j) + ((qv (rl.getD j fr0)) * (qv (rm.getD j fr0))))), .slice A44 m45 c46, .slice A47 m48 c49] at hVgt
                have hB := ext_own hB hGw50 (fun g hg => (hOld51.bl_ge g hg).1)
                have hVgo := hVgo.grown hGw50 (apart (by omega))
                have hrn := hrn.grown hGw50 (ap_row hap_hrn_gt)
                have hrd := hrd.grown hGw50 (ap_row hap_hrd_gt)
                refine WL.done ?_
                refine WA.done (by decide +kernel) ?_
                refine W.region ?_
                refine WL.move rfl rfl ?_
                refine WL.add (r := ((j + 1 : Nat) : Int)) rfl rfl (wi64 (by omega) (by omega) (by omega)) rfl ?_
                refine WL.assign rfl rfl ?_
                refine WL.done ?_
                refine ⟨(j + 1, A44, m45, c46, A47, m48, c49, 0), ⟨rfl, rfl, rfl, rfl, iv (by omega), trivial⟩, by (dsimp only; omega), ?_⟩
                clear hjn hjd
                exact ⟨hB, by omega, hrn, hrd, by omega, by omega, rfl, hVgt, hVgo⟩
      · exfalso
        omega
    · refine WL.move rfl rfl ?_
      refine WL.pass rfl rfl rfl ?_
      refine WL.pass rfl rfl rfl ?_
      refine WL.pass rfl rfl rfl ?_
      refine WL.pass rfl rfl rfl ?_
      refine WL.pick rfl rfl rfl ?_
      refine WL.done ?_
      refine W.condF rfl ?_
      refine W.exit ?_
      refine W.seq ?_
      refine W.region ?_
      refine WL.loadV (cs := [.bool (qneg (dsum rl rm j)), .slice Aj mj cj, .slice Ak mk ck]) Try.el25 Try.agg25 rfl rfl hVgt.vcells rfl ?_
      refine WL.storeV Try.el25 rfl rfl rfl rfl hVgo ?_
      have hOld53 := hVgo
      intro w52 hVgo hGw52
      change Own _ _ _ _ _ _ _ [.bool (qneg (dsum rl rm j)), .slice Aj mj cj, .slice Ak mk ck] at hVgo
      have hB := ext_own hB hGw52 (fun g hg => (hOld53.bl_ge g hg).1)
      have hjn := hjn.grown hGw52 (ap_row hap_hjn_go)
      have hjd := hjd.grown hGw52 (ap_row hap_hjd_go)
      refine WL.done ?_
      refine W.ret ?_
      refine ⟨[.agg #[.bool (qneg (dsum rl rm j)), .slice Aj mj cj, .slice Ak mk ck]], ⟨_, _, _, rfl, rfl, run_loadV (cs := [.bool (qneg (dsum rl rm j)), .slice Aj mj cj, .slice Ak mk ck]) Try.el25 Try.agg25 rfl hVgo.vcells, rfl⟩, ?_⟩
      have e0 : j = ml := by omega
      subst e0
      exact ⟨_, _, _, _, _, _, rfl, hB, hjn, hjd, by omega⟩

set_option maxHeartbeats 4000000 in
theorem RationalFloors_t {w : World} {Ban : Nat} {Aan : Option Addr} {man can : Nat} {xan : List Nat} (han : Rd Ban w 1 Aan man can (us xan)) {Bad : Nat} {Aad : Option Addr} {mad cad : Nat} {xad : List Nat} (had : Rd Bad w 1 Aad mad cad (us xad)) {na : Bool} (hLan : Lim xan) (hLad : Lim xad) (hza : man * 4 ≤ 140737488351232 ∧ mad * 4 ≤ 140737488351232) (q0 : Rat) (hq0 : val na (nv xan) (nv xad) = q0) (hw0 : whole q0) :
    Calls Try.prog 3 #[.agg #[.bool na, .slice Aan man can, .slice Aad mad cad]] w fun e w2 => ∃ v, e = .returned v ∧ (fun v w2 => v = .bool true ∧ w.grownBy w2 none) v w2 := by
  have han := han.norm
  have han_l := han.ulen
  have han_x := han.max
  simp only [maxLen] at han_x
  have han_c := han.cap
  have had := had.norm
  have had_l := had.ulen
  have had_x := had.max
  simp only [maxLen] at had_x
  have had_c := had.cap
  have han0 := han
  have had0 := had
  obtain ⟨qa, hqa⟩ : ∃ q, val na (nv xan) (nv xad) = q := ⟨_, rfl⟩
  have h : whole qa := by rw [← hqa, hq0]; exact hw0
  have hB := ext_refl w
  refine calls_of_W (vs := [.agg #[.bool na, .slice Aan man can, .slice Aad mad cad]]) [2] Try.func3 rfl rfl rfl rfl ?_
  refine W.seq ?_
  refine W.region ?_
  refine WL.box Try.el25 rfl rfl rfl ?_
  intro g11 w12 hg_g11 hVg11 hGw12
  change Own _ _ _ _ _ _ _ [.bool na, .slice Aan man can, .slice Aad mad cad] at hVg11
  have hVg11 := hVg11.low (b' := w.heap.size) hB.size
  have hB := ext_trans hB hGw12
  have han := han0.ext hB
  have had := had0.ext hB
  refine WL.assign rfl rfl ?_
  refine WL.done ?_
  refine W.seq ?_
  refine W.seq ?_
  refine W.region ?_
  refine WL.loadV (cs := [.bool na, .slice Aan man can, .slice Aad mad cad]) Try.el25 Try.agg25 rfl rfl hVg11.vcells rfl ?_
  refine WL.lit (b := w12.heap.size) (cells := [.bool na, .slice Aan man can, .slice Aad mad cad]) Try.underlying35 Try.el25 (by decide) ⟨_, rfl, by kernel_rfl⟩ rfl (Nat.le_refl _) rfl ?_
  rintro A13 w14 - hO15 hGw14
  have hO15 := hO15.low (b' := w.heap.size) hB.size
  have hB := ext_trans hB hGw14
  have han := han0.ext hB
  have had := had0.ext hB
  have hVg11 := hVg11.ext hGw14
  have hN16 : RatsR w14.heap.size w14 [.bool na, .slice Aan man can, .slice Aad mad cad] [(na, xan, xad)] := (RatsR.cons han.norm had.norm (RatsR.nil _ _))
  refine WL.call Try.func6 rfl Try.nm6 rfl rfl (long_c hO15.rd hN16 rfl (RLen.cons (by first | omega | (simp; done) | (simp; omega)) (by first | omega | (simp; done) | (simp; omega)) (RLen.nil _))) ?_
  rintro _ w17 ⟨bhlo, rfl, hGw17, hlo_t, hlo_f⟩
  have hB := ext_trans hB hGw17
  have han := han0.ext hB
  have had := had0.ext hB
  have hVg11 := hVg11.ext hGw17
  rcases bhlo with _ | _
  · have hlo := hlo_f rfl
    have hla : xan.length + xad.length ≤ 30 := hlo 0 (by simp)
    refine WL.done ?_
    refine W.condF rfl ?_
    refine W.skip ?_
    refine W.seq ?_
    refine W.region ?_
    refine WL.loadV (cs := [.bool na, .slice Aan man can, .slice Aad mad cad]) Try.el25 Try.agg25 rfl rfl hVg11.vcells rfl ?_
    refine WL.call Try.func7 rfl Try.nm7 rfl rfl (qFloor_c han had hLan hLad qa hqa (by omega)) ?_
    rintro _ w18 ⟨A19, m20, c21, A22, m23, c24, rfl, hGw18, f1n, f1d, f1m⟩
    have f1n := f1n.low (b' := w.heap.size) hB.size
    have f1d := f1d.low (b' := w.heap.size) hB.size
    have hB := ext_trans hB hGw18
    have han := han0.ext hB
    have had := had0.ext hB
    have hVg11 := hVg11.ext hGw18
    have f1n_l := f1n.rd.ulen
    have f1d_l := f1d.rd.ulen
    refine WL.alloc Try.el25 rfl ?_
    intro g25 w26 hg_g25 hVg25 hGw26
    change Own _ _ _ _ _ _ _ [.bool false, .slice none 0 0, .slice none 0 0] at hVg25
    have hlt_g11_g25 : g11 < g25 := by rw [hg_g25]; exact (hVg11.bl_ge _ rfl).2
    have hap_f1n_g25 := ap_old f1n hg_g25
    have hap_f1d_g25 := ap_old f1d hg_g25
    have hVg25 := hVg25.low (b' := w.heap.size) hB.size
    have hB := ext_trans hB hGw26
    have han := han0.ext hB
    have had := had0.ext hB
    have hVg11 := hVg11.ext hGw26
    have f1n := f1n.ext hGw26
    have f1d := f1d.ext hGw26
    refine WL.storeV Try.el25 rfl rfl rfl rfl hVg25 ?_
    have hOld28 := hVg25
    intro w27 hVg25 hGw27
    change Own _ _ _ _ _ _ _ [.bool (qneg (((fl (qa) : Int) : Rat))), .slice A19 m20 c21, .slice A22 m23 c24] at hVg25
    have hB := ext_own hB hGw27 (fun g hg => (hOld28.bl_ge g hg).1)
    have han := han0.ext hB
    have had := had0.ext hB
    have hVg11 := hVg11.grown hGw27 (apart (by omega))
    have f1n := f1n.grown hGw27 (ap_row hap_f1n_g25)
    have f1d := f1d.grown hGw27 (ap_row hap_f1d_g25)
    refine WL.done ?_
    refine W.seq ?_
    refine W.region ?_
    refine WL.loadV (cs := [.bool na, .slice Aan man can, .slice Aad mad cad]) Try.el25 Try.agg25 rfl rfl hVg11.vcells rfl ?_
    refine WL.call Try.func8 rfl Try.nm8 rfl rfl (qWhole_t han had hLan hLad qa hqa (by omega) (by assumption)) ?_
    rintro _ w29 ⟨A30, m31, c32, rfl, hGw29, f2, f2m⟩
    have f2 := f2.low (b' := w.heap.size) hB.size
    have hB := ext_trans hB hGw29
    have han := han0.ext hB
    have had := had0.ext hB
    have hVg11 := hVg11.ext hGw29
    have f1n := f1n.ext hGw29
    have f1d := f1d.ext hGw29
    have hVg25 := hVg25.ext hGw29
    have f2_l := f2.rd.ulen
    refine WL.move rfl rfl ?_
    refine WL.extract rfl rfl rfl ?_
    refine WL.extract rfl rfl rfl ?_
    refine WL.assign rfl rfl ?_
    refine WL.assign rfl rfl ?_
    refine WL.done ?_
    refine W.seq ?_
    refine W.region ?_
    refine WL.loadV (cs := [.bool na, .slice Aan man can, .slice Aad mad cad]) Try.el25 Try.agg25 rfl rfl hVg11.vcells rfl ?_
    refine WL.call Try.func9 rfl Try.nm9 rfl rfl (rqWhole_t han had hLan hLad qa hqa (by omega) (by assumption)) ?_
    rintro _ w33 ⟨A34, m35, c36, rfl, hGw33, f3, f3m⟩
    have f3 := f3.low (b' := w.heap.size) hB.size
    have hB := ext_trans hB hGw33
    have han := han0.ext hB
    have had := had0.ext hB
    have hVg11 := hVg11.ext hGw33
    have f1n := f1n.ext hGw33
    have f1d := f1d.ext hGw33
    have hVg25 := hVg25.ext hGw33
    have f2 := f2.ext hGw33
    have f3_l := f3.rd.ulen
    refine WL.move rfl rfl ?_
    refine WL.extract rfl rfl rfl ?_
    refine WL.extract rfl rfl rfl ?_
    refine WL.assign rfl rfl ?_
    refine WL.assign rfl rfl ?_
    refine WL.done ?_
    refine W.seq ?_
    refine W.region ?_
    refine WL.call Try.func10 rfl Try.nm10 rfl rfl (rqInt_c (by omega)) ?_
    rintro _ w37 ⟨A38, m39, c40, A41, m42, c43, rfl, hGw37, f4n, f4d, f4m⟩
    have f4n := f4n.low (b' := w.heap.size) hB.size
    have f4d := f4d.low (b' := w.heap.size) hB.size
    have hB := ext_trans hB hGw37
    have han := han0.ext hB
    have had := had0.ext hB
    have hVg11 := hVg11.ext hGw37
    have f1n := f1n.ext hGw37
    have f1d := f1d.ext hGw37
    have hVg25 := hVg25.ext hGw37
    have f2 := f2.ext hGw37
    have f3 := f3.ext hGw37
    have f4n_l := f4n.rd.ulen
    have f4d_l := f4d.rd.ulen
    refine WL.alloc Try.el25 rfl ?_
    intro g44 w45 hg_g44 hVg44 hGw45
    change Own _ _ _ _ _ _ _ [.bool false, .slice none 0 0, .slice none 0 0] at hVg44
    have hlt_g11_g44 : g11 < g44 := by rw [hg_g44]; exact (hVg11.bl_ge _ rfl).2
    have hlt_g25_g44 : g25 < g44 := by rw [hg_g44]; exact (hVg25.bl_ge _ rfl).2
    have hap_f1n_g44 := ap_old f1n hg_g44
    have hap_f1d_g44 := ap_old f1d hg_g44
    have hap_f2_g44 := ap_old f2 hg_g44
    have hap_f3_g44 := ap_old f3 hg_g44
    have hap_f4n_g44 := ap_old f4n hg_g44
    have hap_f4d_g44 := ap_old f4d hg_g44
    have hVg44 := hVg44.low (b' := w.heap.size) hB.size
    have hB := ext_trans hB hGw45
    have han := han0.ext hB
    have had := had0.ext hB
    have hVg11 := hVg11.ext hGw45
    have f1n := f1n.ext hGw45
    have f1d := f1d.ext hGw45
    have hVg25 := hVg25.ext hGw45
    have f2 := f2.ext hGw45
    have f3 := f3.ext hGw45
    have f4n := f4n.ext hGw45
    have f4d := f4d.ext hGw45
    refine WL.storeV Try.el25 rfl rfl rfl rfl hVg44 ?_
    have hOld47 := hVg44
    intro w46 hVg44 hGw46
    change Own _ _ _ _ _ _ _ [.bool (qneg (qOf (1 : Int) 1)), .slice A38 m39 c40, .slice A41 m42 c43] at hVg44
    have hB := ext_own hB hGw46 (fun g hg => (hOld47.bl_ge g hg).1)
    have han := han0.ext hB
    have had := had0.ext hB
    have hVg11 := hVg11.grown hGw46 (apart (by omega))
    have f1n := f1n.grown hGw46 (ap_row hap_f1n_g44)
    have f1d := f1d.grown hGw46 (ap_row hap_f1d_g44)
    have hVg25 := hVg25.grown hGw46 (apart (by omega))
    have f2 := f2.grown hGw46 (ap_row hap_f2_g44)
    have f3 := f3.grown hGw46 (ap_row hap_f3_g44)
    have f4n := f4n.grown hGw46 (ap_row hap_f4n_g44)
    have f4d := f4d.grown hGw46 (ap_row hap_f4d_g44)
    refine WL.done ?_
    refine W.seq ?_
    refine W.seq ?_
    refine W.draw [⟨[], [3], false⟩, ⟨[], [1], false⟩, ⟨[1], [], false⟩, ⟨[0, 2], [], false⟩, ⟨[3], [], true⟩, ⟨[4], [], true⟩, ⟨[5], [3], false⟩, ⟨[5], [1], false⟩, ⟨[5, 6, 7], [], false⟩, ⟨[5, 8], [], true⟩, ⟨[5, 9], [], true⟩, ⟨[10], [], true⟩, ⟨[11], [3], false⟩, ⟨[11], [8], false⟩, ⟨[11, 12, 13], [], false⟩, ⟨[11, 14], [], false⟩, ⟨[11], [1], false⟩, ⟨[11, 15, 16], [], false⟩, ⟨[11, 17], [], true⟩, ⟨[11, 18], [], true⟩] [[(3, .pointer (some ⟨g25, 0, none⟩))], [(1, .pointer (some ⟨g11, 0, none⟩))], [], [], [], [], [(3, .pointer (some ⟨g25, 0, none⟩))], [(1, .pointer (some ⟨g11, 0, none⟩))], [], [], [], [], [(3, .pointer (some ⟨g25, 0, none⟩))], [(8, .pointer (some ⟨g44, 0, none⟩))], [], [], [(1, .pointer (some ⟨g11, 0, none⟩))], [], [], []] (fun iQ => [fun v wQ => v = .agg #[.bool (qneg (((fl (qa) : Int) : Rat))), .slice A19 m20 c21, .slice A22 m23 c24], fun v wQ => v = .agg #[.bool na, .slice Aan man can, .slice Aad mad cad], fun v wQ => ∃ A52 m53 c54 A55 m56 c57, v = .agg #[.bool (qneg (((fl (qa) : Int) : Rat))), .slice A52 m53 c54, .slice A55 m56 c57] ∧ (Own w.heap.size wQ 48 1 A52 m53 c54 (us (digs (qnum (((fl (qa) : Int) : Rat)))))) ∧ (Own w.heap.size wQ 48 1 A55 m56 c57 (us (digs (Rat.den (((fl (qa) : Int) : Rat)))))) ∧ (m53 ≤ man + 2 ∧ m56 ≤ 2) ∧ (∀ k, bl A52 = some k → k ≠ g11) ∧ (∀ k, bl A52 = some k → k ≠ g25) ∧ (∀ k, bl A52 = some k → k ≠ g44) ∧ (∀ k, bl A55 = some k → k ≠ g11) ∧ (∀ k, bl A55 = some k → k ≠ g25) ∧ (∀ k, bl A55 = some k → k ≠ g44), fun v wQ => v = .bool true, fun v wQ => v = .bool false, fun v wQ => v = .bool false, fun v wQ => v = .agg #[.bool (qneg (((fl (qa) : Int) : Rat))), .slice A19 m20 c21, .slice A22 m23 c24], fun v wQ => v = .agg #[.bool na, .slice Aan man can, .slice Aad mad cad], fun v wQ => v = .int .i64 (sg (((fl (qa) : Int) : Rat) - qa)), fun v _ => v = .bool false, fun v wQ => v = .bool false, fun v wQ => v = .bool false, fun v wQ => v = .agg #[.bool (qneg (((fl (qa) : Int) : Rat))), .slice A19 m20 c21, .slice A22 m23 c24], fun v wQ => v = .agg #[.bool (qneg (qOf (1 : Int) 1)), .slice A38 m39 c40, .slice A41 m42 c43], fun v wQ => ∃ A72, v = .slice A72 2 2 ∧ (Own w.heap.size wQ 25 3 A72 2 2 [.bool (qneg (((fl (qa) : Int) : Rat))), .slice A19 m20 c21, .slice A22 m23 c24, .bool (qneg (qOf (1 : Int) 1)), .slice A38 m39 c40, .slice A41 m42 c43]) ∧ (RatsR wQ.heap.size wQ [.bool (qneg (((fl (qa) : Int) : Rat))), .slice A19 m20 c21, .slice A22 m23 c24, .bool (qneg (qOf (1 : Int) 1)), .slice A38 m39 c40, .slice A41 m42 c43] [((qneg (((fl (qa) : Int) : Rat))), digs (qnum (((fl (qa) : Int) : Rat))), digs (Rat.den (((fl (qa) : Int) : Rat)))), ((qneg (qOf (1 : Int) 1)), digs (qnum (qOf (1 : Int) 1)), digs (Rat.den (qOf (1 : Int) 1)))]) ∧ (∀ k, bl A72 = some k → k ≠ g11) ∧ (∀ k, bl A72 = some k → k ≠ g25) ∧ (∀ k, bl A72 = some k → k ≠ g44), fun v wQ => ∃ A78 m79 c80 A81 m82 c83, v = .agg #[.bool (qneg (((fl (qa) : Int) : Rat) + (qOf (1 : Int) 1))), .slice A78 m79 c80, .slice A81 m82 c83] ∧ (Own w.heap.size wQ 48 1 A78 m79 c80 (us (digs (qnum (((fl (qa) : Int) : Rat) + (qOf (1 : Int) 1)))))) ∧ (Own w.heap.size wQ 48 1 A81 m82 c83 (us (digs (Rat.den (((fl (qa) : Int) : Rat) + (qOf (1 : Int) 1)))))) ∧ (m79 ≤ 165 ∧ m82 ≤ 165) ∧ (∀ k, bl A78 = some k → k ≠ g11) ∧ (∀ k, bl A78 = some k → k ≠ g25) ∧ (∀ k, bl A78 = some k → k ≠ g44) ∧ (∀ k, bl A81 = some k → k ≠ g11) ∧ (∀ k, bl A81 = some k → k ≠ g25) ∧ (∀ k, bl A81 = some k → k ≠ g44), fun v wQ => v = .agg #[.bool na, .slice Aan man can, .slice Aad mad cad], fun v wQ => v = .int .i64 (sg ((((fl (qa) : Int) : Rat) + (qOf (1 : Int) 1)) - qa)), fun v _ => v = .bool false, fun v wQ => v = .bool false].getD iQ (fun _ _ => True)) (fun _ => True) 20 Try.mixed (by kernel_rfl) ?_ ?_ ?_
    · refine Vs_mono _ ?_
      intro VQ hVQ vQ wQ1 wQ2 hQ1 hQ2
      have hQ2 := hQ2.resolve_right (by decide)
      simp only [List.mem_cons, List.not_mem_nil, or_false] at hVQ
      rcases hVQ with rfl | rfl | rfl | rfl | rfl | rfl | rfl | rfl | rfl | rfl | rfl | rfl | rfl | rfl | rfl | rfl | rfl | rfl | rfl | rfl
      · exact hQ1
      · exact hQ1
      · obtain ⟨A52, m53, c54, A55, m56, c57, hQe, f5n, f5d, f5m, hap_f5n_g11, hap_f5n_g25, hap_f5n_g44, hap_f5d_g11, hap_f5d_g25, hap_f5d_g44⟩ := hQ1
        exact ⟨A52, m53, c54, A55, m56, c57, hQe, f5n.ext hQ2, f5d.ext hQ2, f5m, hap_f5n_g11, hap_f5n_g25, hap_f5n_g44, hap_f5d_g11, hap_f5d_g25, hap_f5d_g44⟩
      · exact hQ1
      · exact hQ1
      · exact hQ1
      · exact hQ1
      · exact hQ1
      · exact hQ1
      · exact hQ1
      · exact hQ1
      · exact hQ1
      · exact hQ1
      · exact hQ1
      · obtain ⟨A72, hQe, hO74, hN75, hap_hO74_g11, hap_hO74_g25, hap_hO74_g44⟩ := hQ1
        exact ⟨A72, hQe, hO74.ext hQ2, (hN75.ext hQ2).norm, hap_hO74_g11, hap_hO74_g25, hap_hO74_g44⟩
      · obtain ⟨A78, m79, c80, A81, m82, c83, hQe, f6n, f6d, f6m, hap_f6n_g11, hap_f6n_g25, hap_f6n_g44, hap_f6d_g11, hap_f6d_g25, hap_f6d_g44⟩ := hQ1
        exact ⟨A78, m79, c80, A81, m82, c83, hQe, f6n.ext hQ2, f6d.ext hQ2, f6m, hap_f6n_g11, hap_f6n_g25, hap_f6n_g44, hap_f6d_g11, hap_f6d_g25, hap_f6d_g44⟩
      · exact hQ1
      · exact hQ1
      · exact hQ1
      · exact hQ1
    · refine ⟨⟨rfl, ⟨rfl, trivial⟩, ?_⟩, ⟨rfl, ⟨rfl, trivial⟩, ?_⟩, ⟨rfl, trivial, ?_⟩, ⟨rfl, trivial, ?_⟩, ⟨rfl, trivial, ?_⟩, ⟨rfl, trivial, ?_⟩, ⟨rfl, ⟨rfl, trivial⟩, ?_⟩, ⟨rfl, ⟨rfl, trivial⟩, ?_⟩, ⟨rfl, trivial, ?_⟩, ⟨rfl, trivial, ?_⟩, ⟨rfl, trivial, ?_⟩, ⟨rfl, trivial, ?_⟩, ⟨rfl, ⟨rfl, trivial⟩, ?_⟩, ⟨rfl, ⟨rfl, trivial⟩, ?_⟩, ⟨rfl, trivial, ?_⟩, ⟨rfl, trivial, ?_⟩, ⟨rfl, ⟨rfl, trivial⟩, ?_⟩, ⟨rfl, trivial, ?_⟩, ⟨rfl, trivial, ?_⟩, ⟨rfl, trivial, ?_⟩, trivial⟩
      · intro w48 hE
        have hE := hE rfl
        have hB := ext_trans hB hE
        have hVg25 := hVg25.ext hE
        intro R
        refine WL.loadV (cs := [.bool (qneg (((fl (qa) : Int) : Rat))), .slice A19 m20 c21, .slice A22 m23 c24]) Try.el25 Try.agg25 rfl rfl hVg25.vcells rfl ?_
        exact WL.done ⟨_, rfl, ext_refl _, rfl⟩
      · intro w49 hE
        have hE := hE rfl
        have hB := ext_trans hB hE
        have hVg11 := hVg11.ext hE
        intro R
        refine WL.loadV (cs := [.bool na, .slice Aan man can, .slice Aad mad cad]) Try.el25 Try.agg25 rfl rfl hVg11.vcells rfl ?_
        exact WL.done ⟨_, rfl, ext_refl _, rfl⟩
      · intro w50 hE
        have hE := hE rfl
        have hB := ext_trans hB hE
        have han := han0.ext hB
        have had := had0.ext hB
        have hVg11 := hVg11.ext hE
        have hVg25 := hVg25.ext hE
        have hVg44 := hVg44.ext hE
        rintro _ rfl
        intro R
        refine WL.call Try.func12 rfl Try.nm12 rfl rfl (rqFloor_c han had hLan hLad qa hqa (by omega)) ?_
        rintro _ w51 ⟨A52, m53, c54, A55, m56, c57, rfl, hGw51, f5n, f5d, f5m⟩
        have hap_f5n_g11 := ap_new f5n (hVg11.bl_ge _ rfl).2
        have hap_f5n_g25 := ap_new f5n (hVg25.bl_ge _ rfl).2
        have hap_f5n_g44 := ap_new f5n (hVg44.bl_ge _ rfl).2
        have hap_f5d_g11 := ap_new f5d (hVg11.bl_ge _ rfl).2
        have hap_f5d_g25 := ap_new f5d (hVg25.bl_ge _ rfl).2
        have hap_f5d_g44 := ap_new f5d (hVg44.bl_ge _ rfl).2
        have f5n := f5n.low (b' := w.heap.size) hB.size
        have f5d := f5d.low (b' := w.heap.size) hB.size
        have hB := ext_trans hB hGw51
        have f5n_l := f5n.rd.ulen
        have f5d_l := f5d.rd.ulen
        exact WL.done ⟨_, rfl, hGw51, ⟨A52, m53, c54, A55, m56, c57, rfl, f5n, f5d, f5m, hap_f5n_g11, hap_f5n_g25, hap_f5n_g44, hap_f5d_g11, hap_f5d_g25, hap_f5d_g44⟩⟩
      · intro w58 hE
        have hE := hE rfl
        have hB := ext_trans hB hE
        have f1n := f1n.ext hE
        have f1d := f1d.ext hE
        rintro _ rfl
        rintro _ ⟨A52, m53, c54, A55, m56, c57, rfl, f5n, f5d, f5m, hap_f5n_g11, hap_f5n_g25, hap_f5n_g44, hap_f5d_g11, hap_f5d_g25, hap_f5d_g44⟩
        intro R
        refine WL.call Try.func11 rfl Try.nm11 rfl rfl (qsame_t f1n.rd f1d.rd f5n.rd f5d.rd ⟨rfl, rfl, rfl⟩) ?_
        rintro _ w59 ⟨rfl, hGw59⟩
        have hB := ext_trans hB hGw59
        exact WL.done ⟨_, rfl, hGw59, rfl⟩
      · intro w60 hE
        rintro _ rfl
        intro R
        refine WL.not rfl rfl ?_
        exact WL.done ⟨_, rfl, rfl, rfl⟩
      · intro w61 hE
        rintro _ rfl
        intro R
        refine WL.move rfl rfl ?_
        exact WL.done ⟨_, rfl, rfl, rfl⟩
      · intro w62 hE
        have hE := hE rfl
        have hB := ext_trans hB hE
        have hVg25 := hVg25.ext hE
        rintro _ rfl
        intro R
        refine WL.take rfl ?_
        refine WL.loadV (cs := [.bool (qneg (((fl (qa) : Int) : Rat))), .slice A19 m20 c21, .slice A22 m23 c24]) Try.el25 Try.agg25 rfl rfl hVg25.vcells rfl ?_
        exact WL.done ⟨_, rfl, ext_refl _, rfl⟩
      · intro w63 hE
        have hE := hE rfl
        have hB := ext_trans hB hE
        have hVg11 := hVg11.ext hE
        rintro _ rfl
        intro R
        refine WL.take rfl ?_
        refine WL.loadV (cs := [.bool na, .slice Aan man can, .slice Aad mad cad]) Try.el25 Try.agg25 rfl rfl hVg11.vcells rfl ?_
        exact WL.done ⟨_, rfl, ext_refl _, rfl⟩
      · intro w64 hE
        have hE := hE rfl
        have hB := ext_trans hB hE
        have han := han0.ext hB
        have had := had0.ext hB
        have f1n := f1n.ext hE
        have f1d := f1d.ext hE
        rintro _ rfl
        rintro _ rfl
        rintro _ rfl
        intro R
        refine WL.take rfl ?_
        refine WL.call Try.func13 rfl Try.nm13 rfl rfl (qCmp_c f1n.rd f1d.rd han had (digs_lim _) (digs_lim _) ((fl (qa) : Int) : Rat) (val_canon _) hLan hLad qa hqa (by omega) (by omega)) ?_
        rintro _ w65 ⟨rfl, hGw65⟩
        have hB := ext_trans hB hGw65
        exact WL.done ⟨_, rfl, hGw65, rfl⟩
      · intro w66 hE
        rintro _ rfl
        rintro _ rfl
        intro R
        refine WL.take rfl ?_
        refine WL.gtrD rfl rfl rfl ?_
        exact WL.done ⟨_, rfl, rfl, (dec_f (by have := fl_le qa; omega))⟩
      · intro w67 hE
        rintro _ rfl
        rintro _ rfl
        intro R
        refine WL.pick rfl rfl rfl ?_
        exact WL.done ⟨_, rfl, rfl, rfl⟩
      · intro w68 hE
        rintro _ rfl
        intro R
        refine WL.move rfl rfl ?_
        exact WL.done ⟨_, rfl, rfl, rfl⟩
      · intro w69 hE
        have hE := hE rfl
        have hB := ext_trans hB hE
        have hVg25 := hVg25.ext hE
        rintro _ rfl
        intro R
        refine WL.take rfl ?_
        refine WL.loadV (cs := [.bool (qneg (((fl (qa) : Int) : Rat))), .slice A19 m20 c21, .slice A22 m23 c24]) Try.el25 Try.agg25 rfl rfl hVg25.vcells rfl ?_
        exact WL.done ⟨_, rfl, ext_refl _, rfl⟩
      · intro w70 hE
        have hE := hE rfl
        have hB := ext_trans hB hE
        have hVg44 := hVg44.ext hE
        rintro _ rfl
        intro R
        refine WL.take rfl ?_
        refine WL.loadV (cs := [.bool (qneg (qOf (1 : Int) 1)), .slice A38 m39 c40, .slice A41 m42 c43]) Try.el25 Try.agg25 rfl rfl hVg44.vcells rfl ?_
        exact WL.done ⟨_, rfl, ext_refl _, rfl⟩
      · intro w71 hE
        have hE := hE rfl
        have hB := ext_trans hB hE
        have hVg11 := hVg11.ext hE
        have f1n := f1n.ext hE
        have f1d := f1d.ext hE
        have hVg25 := hVg25.ext hE
        have f4n := f4n.ext hE
        have f4d := f4d.ext hE
        have hVg44 := hVg44.ext hE
        rintro _ rfl
        rintro _ rfl
        rintro _ rfl
        intro R
        refine WL.take rfl ?_
        refine WL.lit (b := w71.heap.size) (cells := [.bool (qneg (((fl (qa) : Int) : Rat))), .slice A19 m20 c21, .slice A22 m23 c24, .bool (qneg (qOf (1 : Int) 1)), .slice A38 m39 c40, .slice A41 m42 c43]) Try.underlying35 Try.el25 (by decide) ⟨_, rfl, by kernel_rfl⟩ rfl (Nat.le_refl _) rfl ?_
        rintro A72 w73 - hO74 hGw73
        have hap_hO74_g11 := ap_new hO74 (hVg11.bl_ge _ rfl).2
        have hap_hO74_g25 := ap_new hO74 (hVg25.bl_ge _ rfl).2
        have hap_hO74_g44 := ap_new hO74 (hVg44.bl_ge _ rfl).2
        have hO74 := hO74.low (b' := w.heap.size) hB.size
        have hB := ext_trans hB hGw73
        have f1n := f1n.ext hGw73
        have f1d := f1d.ext hGw73
        have f4n := f4n.ext hGw73
        have f4d := f4d.ext hGw73
        have hN75 : RatsR w73.heap.size w73 [.bool (qneg (((fl (qa) : Int) : Rat))), .slice A19 m20 c21, .slice A22 m23 c24, .bool (qneg (qOf (1 : Int) 1)), .slice A38 m39 c40, .slice A41 m42 c43] [((qneg (((fl (qa) : Int) : Rat))), digs (qnum (((fl (qa) : Int) : Rat))), digs (Rat.den (((fl (qa) : Int) : Rat)))), ((qneg (qOf (1 : Int) 1)), digs (qnum (qOf (1 : Int) 1)), digs (Rat.den (qOf (1 : Int) 1)))] := (RatsR.cons f1n.rd.norm f1d.rd.norm (RatsR.cons f4n.rd.norm f4d.rd.norm (RatsR.nil _ _)))
        exact WL.done ⟨_, rfl, hGw73, ⟨A72, rfl, hO74, hN75, hap_hO74_g11, hap_hO74_g25, hap_hO74_g44⟩⟩
      · intro w76 hE
        have hE := hE rfl
        have hB := ext_trans hB hE
        have hVg11 := hVg11.ext hE
        have hVg25 := hVg25.ext hE
        have hVg44 := hVg44.ext hE
        rintro _ rfl
        rintro _ ⟨A72, rfl, hO74, hN75, hap_hO74_g11, hap_hO74_g25, hap_hO74_g44⟩
        intro R
        refine WL.take rfl ?_
        refine WL.call Try.func14 rfl Try.nm14 rfl rfl (qAdd2_c hO74.rd hN75 (digs_lim _) (digs_lim _) (digs_lim _) (digs_lim _) ((fl (qa) : Int) : Rat) (val_canon _) (qOf (1 : Int) 1) (val_canon _) 40 (by omega) (by omega)) ?_
        rintro _ w77 ⟨A78, m79, c80, A81, m82, c83, rfl, hGw77, f6n, f6d, f6m⟩
        have hap_f6n_g11 := ap_new f6n (hVg11.bl_ge _ rfl).2
        have hap_f6n_g25 := ap_new f6n (hVg25.bl_ge _ rfl).2
        have hap_f6n_g44 := ap_new f6n (hVg44.bl_ge _ rfl).2
        have hap_f6d_g11 := ap_new f6d (hVg11.bl_ge _ rfl).2
        have hap_f6d_g25 := ap_new f6d (hVg25.bl_ge _ rfl).2
        have hap_f6d_g44 := ap_new f6d (hVg44.bl_ge _ rfl).2
        have f6n := f6n.low (b' := w.heap.size) hB.size
        have f6d := f6d.low (b' := w.heap.size) hB.size
        have hB := ext_trans hB hGw77
        have f6n_l := f6n.rd.ulen
        have f6d_l := f6d.rd.ulen
        exact WL.done ⟨_, rfl, hGw77, ⟨A78, m79, c80, A81, m82, c83, rfl, f6n, f6d, f6m, hap_f6n_g11, hap_f6n_g25, hap_f6n_g44, hap_f6d_g11, hap_f6d_g25, hap_f6d_g44⟩⟩
      · intro w84 hE
        have hE := hE rfl
        have hB := ext_trans hB hE
        have hVg11 := hVg11.ext hE
        rintro _ rfl
        intro R
        refine WL.take rfl ?_
        refine WL.loadV (cs := [.bool na, .slice Aan man can, .slice Aad mad cad]) Try.el25 Try.agg25 rfl rfl hVg11.vcells rfl ?_
        exact WL.done ⟨_, rfl, ext_refl _, rfl⟩
      · intro w85 hE
        have hE := hE rfl
        have hB := ext_trans hB hE
        have han := han0.ext hB
        have had := had0.ext hB
        rintro _ rfl
        rintro _ ⟨A78, m79, c80, A81, m82, c83, rfl, f6n, f6d, f6m, hap_f6n_g11, hap_f6n_g25, hap_f6n_g44, hap_f6d_g11, hap_f6d_g25, hap_f6d_g44⟩
        rintro _ rfl
        intro R
        refine WL.take rfl ?_
        refine WL.call Try.func13 rfl Try.nm13 rfl rfl (qCmp_c f6n.rd f6d.rd han had (digs_lim _) (digs_lim _) (((fl (qa) : Int) : Rat) + (qOf (1 : Int) 1)) (val_canon _) hLan hLad qa hqa (by omega) (by omega)) ?_
        rintro _ w86 ⟨rfl, hGw86⟩
        have hB := ext_trans hB hGw86
        exact WL.done ⟨_, rfl, hGw86, rfl⟩
      · intro w87 hE
        rintro _ rfl
        rintro _ rfl
        intro R
        refine WL.take rfl ?_
        refine WL.leqD rfl rfl rfl ?_
        exact WL.done ⟨_, rfl, rfl, (dec_f (by have := fl_gt qa; rw [show qOf 1 1 = 1 by decide +kernel]; omega))⟩
      · intro w88 hE
        rintro _ rfl
        rintro _ rfl
        intro R
        refine WL.pick rfl rfl rfl ?_
        exact WL.done ⟨_, rfl, rfl, rfl⟩
    · intro vals w89 hT hVs
      rw [if_neg (by decide)] at hT
      have hB := ext_trans hB hT
      have han := han0.ext hB
      have had := had0.ext hB
      have hVg11 := hVg11.ext hT
      have hVg25 := hVg25.ext hT
      have f2 := f2.ext hT
      have f3 := f3.ext hT
      have hVg44 := hVg44.ext hT
      have hv0 : vals 0 = _ := hVs 0 (by decide) (by decide)
      have hv1 : vals 1 = _ := hVs 1 (by decide) (by decide)
      obtain ⟨A52, m53, c54, A55, m56, c57, hv2, f5n, f5d, f5m, hap_f5n_g11, hap_f5n_g25, hap_f5n_g44, hap_f5d_g11, hap_f5d_g25, hap_f5d_g44⟩ := hVs 2 (by decide) (by decide)
      have hv3 : vals 3 = _ := hVs 3 (by decide) (by decide)
      have hv4 : vals 4 = _ := hVs 4 (by decide) (by decide)
      have hv5 : vals 5 = _ := hVs 5 (by decide) (by decide)
      have hv6 : vals 6 = _ := hVs 6 (by decide) (by decide)
      have hv7 : vals 7 = _ := hVs 7 (by decide) (by decide)
      have hv8 : vals 8 = _ := hVs 8 (by decide) (by decide)
      have hv9 : vals 9 = _ := hVs 9 (by decide) (by decide)
      have hv10 : vals 10 = _ := hVs 10 (by decide) (by decide)
      have hv11 : vals 11 = _ := hVs 11 (by decide) (by decide)
      have hv12 : vals 12 = _ := hVs 12 (by decide) (by decide)
      have hv13 : vals 13 = _ := hVs 13 (by decide) (by decide)
      obtain ⟨A72, hv14, hO74, hN75, hap_hO74_g11, hap_hO74_g25, hap_hO74_g44⟩ := hVs 14 (by decide) (by decide)
      obtain ⟨A78, m79, c80, A81, m82, c83, hv15, f6n, f6d, f6m, hap_f6n_g11, hap_f6n_g25, hap_f6n_g44, hap_f6d_g11, hap_f6d_g25, hap_f6d_g44⟩ := hVs 15 (by decide) (by decide)
      have hv16 : vals 16 = _ := hVs 16 (by decide) (by decide)
      have hv17 : vals 17 = _ := hVs 17 (by decide) (by decide)
      have hv18 : vals 18 = _ := hVs 18 (by decide) (by decide)
      have hv19 : vals 19 = _ := hVs 19 (by decide) (by decide)
      rw [show (List.filterMap (fun i => Option.map (fun t => (t, vals i)) (dstAt _ i)) (List.range _)) = [(25, .agg #[.bool (qneg (((fl (qa) : Int) : Rat))), .slice A19 m20 c21, .slice A22 m23 c24]), (26, .agg #[.bool na, .slice Aan man can, .slice Aad mad cad]), (27, .agg #[.bool (qneg (((fl (qa) : Int) : Rat))), .slice A52 m53 c54, .slice A55 m56 c57]), (28, .bool true), (29, .bool false), (30, .bool false), (31, .agg #[.bool (qneg (((fl (qa) : Int) : Rat))), .slice A19 m20 c21, .slice A22 m23 c24]), (32, .agg #[.bool na, .slice Aan man can, .slice Aad mad cad]), (33, .int .i64 (sg (((fl (qa) : Int) : Rat) - qa))), (34, .bool false), (35, .bool false), (36, .bool false), (37, .agg #[.bool (qneg (((fl (qa) : Int) : Rat))), .slice A19 m20 c21, .slice A22 m23 c24]), (38, .agg #[.bool (qneg (qOf (1 : Int) 1)), .slice A38 m39 c40, .slice A41 m42 c43]), (39, .slice A72 2 2), (40, .agg #[.bool (qneg (((fl (qa) : Int) : Rat) + (qOf (1 : Int) 1))), .slice A78 m79 c80, .slice A81 m82 c83]), (41, .agg #[.bool na, .slice Aan man can, .slice Aad mad cad]), (42, .int .i64 (sg ((((fl (qa) : Int) : Rat) + (qOf (1 : Int) 1)) - qa))), (43, .bool false), (44, .bool false)] from by
        show [(25, vals 0), (26, vals 1), (27, vals 2), (28, vals 3), (29, vals 4), (30, vals 5), (31, vals 6), (32, vals 7), (33, vals 8), (34, vals 9), (35, vals 10), (36, vals 11), (37, vals 12), (38, vals 13), (39, vals 14), (40, vals 15), (41, vals 16), (42, vals 17), (43, vals 18), (44, vals 19)] = _
        rw [hv0, hv1, hv2, hv3, hv4, hv5, hv6, hv7, hv8, hv9, hv10, hv11, hv12, hv13, hv14, hv15, hv16, hv17, hv18, hv19]]
      refine W.condF rfl ?_
      refine W.skip ?_
      refine W.seq ?_
      refine W.drawT 19 [⟨[], [5], true⟩, ⟨[], [7], true⟩, ⟨[0, 1], [], true⟩, ⟨[2], [], true⟩, ⟨[3], [4], true⟩, ⟨[3, 4], [], true⟩, ⟨[3], [6], true⟩, ⟨[3, 6], [], true⟩, ⟨[3, 5, 7], [], false⟩, ⟨[3, 8], [], true⟩, ⟨[9], [], true⟩, ⟨[10], [5], true⟩, ⟨[10, 11], [], true⟩, ⟨[10, 12], [], true⟩, ⟨[13], [1], false⟩, ⟨[13, 14], [], false⟩, ⟨[13], [1], false⟩, ⟨[13, 16], [], false⟩, ⟨[13, 15, 17], [], false⟩] [[(5, .bool true)], [(7, .bool true)], [], [], [(4, .slice A30 m31 c32)], [], [(6, .slice A34 m35 c36)], [], [], [], [], [(5, .bool true)], [], [], [(1, .pointer (some ⟨g11, 0, none⟩))], [], [(1, .pointer (some ⟨g11, 0, none⟩))], [], []] (fun iQ => [fun v wQ => v = .bool true, fun v wQ => v = .bool true, fun v wQ => v = .bool true, fun v wQ => v = .bool true, fun v wQ => v = .slice A30 m31 c32, fun v wQ => v = .agg #[.bool false, .slice A30 m31 c32, .slice none 0 0], fun v wQ => v = .slice A34 m35 c36, fun v wQ => v = .agg #[.bool false, .slice A34 m35 c36, .slice none 0 0], fun v wQ => v = .bool true, fun v wQ => v = .bool true, fun v wQ => v = .bool true, fun v wQ => v = .bool true, fun v wQ => v = .bool false, fun v wQ => v = .bool false, fun v wQ => v = .agg #[.bool na, .slice Aan man can, .slice Aad mad cad], fun v wQ => ∃ A108 m109 c110 A111 m112 c113, v = .agg #[.bool (qneg (((fl (qa) : Int) : Rat))), .slice A108 m109 c110, .slice A111 m112 c113] ∧ (Own w.heap.size wQ 48 1 A108 m109 c110 (us (digs (qnum (((fl (qa) : Int) : Rat)))))) ∧ (Own w.heap.size wQ 48 1 A111 m112 c113 (us (digs (Rat.den (((fl (qa) : Int) : Rat)))))) ∧ (m109 ≤ man + 2 ∧ m112 ≤ 1) ∧ (∀ k, bl A108 = some k → k ≠ g11) ∧ (∀ k, bl A108 = some k → k ≠ g25) ∧ (∀ k, bl A108 = some k → k ≠ g44) ∧ (∀ k, bl A111 = some k → k ≠ g11) ∧ (∀ k, bl A111 = some k → k ≠ g25) ∧ (∀ k, bl A111 = some k → k ≠ g44), fun v wQ => v = .agg #[.bool na, .slice Aan man can, .slice Aad mad cad], fun v wQ => ∃ A117 m118 c119 A120 m121 c122, v = .agg #[.bool (qneg (qa)), .slice A117 m118 c119, .slice A120 m121 c122] ∧ (Own w.heap.size wQ 48 1 A117 m118 c119 (us (digs (qnum (qa))))) ∧ (Own w.heap.size wQ 48 1 A120 m121 c122 (us (digs (Rat.den (qa))))) ∧ (m118 ≤ man ∧ m121 ≤ mad + 1) ∧ (∀ k, bl A117 = some k → k ≠ g11) ∧ (∀ k, bl A117 = some k → k ≠ g25) ∧ (∀ k, bl A117 = some k → k ≠ g44) ∧ (∀ k, bl A120 = some k → k ≠ g11) ∧ (∀ k, bl A120 = some k → k ≠ g25) ∧ (∀ k, bl A120 = some k → k ≠ g44), fun v wQ => v = .bool true].getD iQ (fun _ _ => True)) Try.mixed (by kernel_rfl) ?_ ?_ ?_
      · refine Vs_monoT _ ?_
        intro VQ hVQ vQ wQ1 wQ2 hQ1 hQ2
        simp only [List.mem_cons, List.not_mem_nil, or_false] at hVQ
        rcases hVQ with rfl | rfl | rfl | rfl | rfl | rfl | rfl | rfl | rfl | rfl | rfl | rfl | rfl | rfl | rfl | rfl | rfl | rfl | rfl
        · exact hQ1
        · exact hQ1
        · exact hQ1
        · exact hQ1
        · exact hQ1
        · exact hQ1
        · exact hQ1
        · exact hQ1
        · exact hQ1
        · exact hQ1
        · exact hQ1
        · exact hQ1
        · exact hQ1
        · exact hQ1
        · exact hQ1
        · obtain ⟨A108, m109, c110, A111, m112, c113, hQe, f7n, f7d, f7m, hap_f7n_g11, hap_f7n_g25, hap_f7n_g44, hap_f7d_g11, hap_f7d_g25, hap_f7d_g44⟩ := hQ1
          exact ⟨A108, m109, c110, A111, m112, c113, hQe, f7n.ext hQ2, f7d.ext hQ2, f7m, hap_f7n_g11, hap_f7n_g25, hap_f7n_g44, hap_f7d_g11, hap_f7d_g25, hap_f7d_g44⟩
        · exact hQ1
        · obtain ⟨A117, m118, c119, A120, m121, c122, hQe, f8n, f8d, f8m, hap_f8n_g11, hap_f8n_g25, hap_f8n_g44, hap_f8d_g11, hap_f8d_g25, hap_f8d_g44⟩ := hQ1
          exact ⟨A117, m118, c119, A120, m121, c122, hQe, f8n.ext hQ2, f8d.ext hQ2, f8m, hap_f8n_g11, hap_f8n_g25, hap_f8n_g44, hap_f8d_g11, hap_f8d_g25, hap_f8d_g44⟩
        · exact hQ1
      · refine ⟨⟨rfl, ⟨rfl, trivial⟩, ?_⟩, ⟨rfl, ⟨rfl, trivial⟩, ?_⟩, ⟨rfl, trivial, ?_⟩, ⟨rfl, trivial, ?_⟩, ⟨rfl, ⟨rfl, trivial⟩, ?_⟩, ⟨rfl, trivial, ?_⟩, ⟨rfl, ⟨rfl, trivial⟩, ?_⟩, ⟨rfl, trivial, ?_⟩, ⟨rfl, trivial, ?_⟩, ⟨rfl, trivial, ?_⟩, ⟨rfl, trivial, ?_⟩, ⟨rfl, ⟨rfl, trivial⟩, ?_⟩, ⟨rfl, trivial, ?_⟩, ⟨rfl, trivial, ?_⟩, ⟨rfl, ⟨rfl, trivial⟩, ?_⟩, ⟨rfl, trivial, ?_⟩, ⟨rfl, ⟨rfl, trivial⟩, ?_⟩, ⟨rfl, trivial, ?_⟩, ⟨rfl, trivial, ?_⟩, trivial⟩
        · intro w90 hE
          intro R
          refine WL.move rfl rfl ?_
          exact WL.done ⟨_, rfl, rfl, rfl⟩
        · intro w91 hE
          intro R
          refine WL.move rfl rfl ?_
          exact WL.done ⟨_, rfl, rfl, rfl⟩
        · intro w92 hE
          rintro _ rfl
          rintro _ rfl
          intro R
          refine WL.eqB rfl rfl Try.underlying4 rfl rfl ?_
          exact WL.done ⟨_, rfl, rfl, rfl⟩
        · intro w93 hE
          rintro _ rfl
          intro R
          refine WL.move rfl rfl ?_
          exact WL.done ⟨_, rfl, rfl, rfl⟩
        · intro w94 hE
          rintro _ rfl
          intro R
          refine WL.take rfl ?_
          refine WL.move rfl rfl ?_
          exact WL.done ⟨_, rfl, rfl, rfl⟩
        · intro w95 hE
          rintro _ rfl
          rintro _ rfl
          intro R
          refine WL.take rfl ?_
          refine WL.build (cells := #[.bool false, .slice A30 m31 c32, .slice none 0 0]) Try.bld25 rfl rfl rfl ?_
          exact WL.done ⟨_, rfl, rfl, rfl⟩
        · intro w96 hE
          rintro _ rfl
          intro R
          refine WL.take rfl ?_
          refine WL.move rfl rfl ?_
          exact WL.done ⟨_, rfl, rfl, rfl⟩
        · intro w97 hE
          rintro _ rfl
          rintro _ rfl
          intro R
          refine WL.take rfl ?_
          refine WL.build (cells := #[.bool false, .slice A34 m35 c36, .slice none 0 0]) Try.bld25 rfl rfl rfl ?_
          exact WL.done ⟨_, rfl, rfl, rfl⟩
        · intro w98 hE
          have hE := hE rfl
          have hB := ext_trans hB hE
          have f2 := f2.ext hE
          have f3 := f3.ext hE
          rintro _ rfl
          rintro _ rfl
          rintro _ rfl
          intro R
          refine WL.take rfl ?_
          refine WL.call Try.func11 rfl Try.nm11 rfl rfl (qsame_t f2.rd Rd.nilU f3.rd Rd.nilU ⟨rfl, rfl, rfl⟩) ?_
          rintro _ w99 ⟨rfl, hGw99⟩
          have hB := ext_trans hB hGw99
          exact WL.done ⟨_, rfl, hGw99, rfl⟩
        · intro w100 hE
          rintro _ rfl
          rintro _ rfl
          intro R
          refine WL.pick rfl rfl rfl ?_
          exact WL.done ⟨_, rfl, rfl, rfl⟩
        · intro w101 hE
          rintro _ rfl
          intro R
          refine WL.move rfl rfl ?_
          exact WL.done ⟨_, rfl, rfl, rfl⟩
        · intro w102 hE
          rintro _ rfl
          intro R
          refine WL.take rfl ?_
          refine WL.move rfl rfl ?_
          exact WL.done ⟨_, rfl, rfl, rfl⟩
        · intro w103 hE
          rintro _ rfl
          rintro _ rfl
          intro R
          refine WL.take rfl ?_
          refine WL.not rfl rfl ?_
          exact WL.done ⟨_, rfl, rfl, rfl⟩
        · intro w104 hE
          rintro _ rfl
          rintro _ rfl
          intro R
          refine WL.take rfl ?_
          refine WL.move rfl rfl ?_
          exact WL.done ⟨_, rfl, rfl, rfl⟩
        · intro w105 hE
          have hE := hE rfl
          have hB := ext_trans hB hE
          have hVg11 := hVg11.ext hE
          rintro _ rfl
          intro R
          refine WL.take rfl ?_
          refine WL.loadV (cs := [.bool na, .slice Aan man can, .slice Aad mad cad]) Try.el25 Try.agg25 rfl rfl hVg11.vcells rfl ?_
          exact WL.done ⟨_, rfl, ext_refl _, rfl⟩
        · intro w106 hE
          have hE := hE rfl
          have hB := ext_trans hB hE
          have han := han0.ext hB
          have had := had0.ext hB
          have hVg11 := hVg11.ext hE
          have hVg25 := hVg25.ext hE
          have hVg44 := hVg44.ext hE
          rintro _ rfl
          rintro _ rfl
          intro R
          refine WL.take rfl ?_
          refine WL.call Try.func7 rfl Try.nm7 rfl rfl (qFloor_c han had hLan hLad qa hqa (by omega)) ?_
          rintro _ w107 ⟨A108, m109, c110, A111, m112, c113, rfl, hGw107, f7n, f7d, f7m⟩
          have hap_f7n_g11 := ap_new f7n (hVg11.bl_ge _ rfl).2
          have hap_f7n_g25 := ap_new f7n (hVg25.bl_ge _ rfl).2
          have hap_f7n_g44 := ap_new f7n (hVg44.bl_ge _ rfl).2
          have hap_f7d_g11 := ap_new f7d (hVg11.bl_ge _ rfl).2
          have hap_f7d_g25 := ap_new f7d (hVg25.bl_ge _ rfl).2
          have hap_f7d_g44 := ap_new f7d (hVg44.bl_ge _ rfl).2
          have f7n := f7n.low (b' := w.heap.size) hB.size
          have f7d := f7d.low (b' := w.heap.size) hB.size
          have hB := ext_trans hB hGw107
          have f7n_l := f7n.rd.ulen
          have f7d_l := f7d.rd.ulen
          exact WL.done ⟨_, rfl, hGw107, ⟨A108, m109, c110, A111, m112, c113, rfl, f7n, f7d, f7m, hap_f7n_g11, hap_f7n_g25, hap_f7n_g44, hap_f7d_g11, hap_f7d_g25, hap_f7d_g44⟩⟩
        · intro w114 hE
          have hE := hE rfl
          have hB := ext_trans hB hE
          have hVg11 := hVg11.ext hE
          rintro _ rfl
          intro R
          refine WL.take rfl ?_
          refine WL.loadV (cs := [.bool na, .slice Aan man can, .slice Aad mad cad]) Try.el25 Try.agg25 rfl rfl hVg11.vcells rfl ?_
          exact WL.done ⟨_, rfl, ext_refl _, rfl⟩
        · intro w115 hE
          have hE := hE rfl
          have hB := ext_trans hB hE
          have han := han0.ext hB
          have had := had0.ext hB
          have hVg11 := hVg11.ext hE
          have hVg25 := hVg25.ext hE
          have hVg44 := hVg44.ext hE
          rintro _ rfl
          rintro _ rfl
          intro R
          refine WL.take rfl ?_
          refine WL.call Try.func15 rfl Try.nm15 rfl rfl (qTrim_c han had hLan hLad qa hqa (by omega)) ?_
          rintro _ w116 ⟨A117, m118, c119, A120, m121, c122, rfl, hGw116, f8n, f8d, f8m⟩
          have hap_f8n_g11 := ap_new f8n (hVg11.bl_ge _ rfl).2
          have hap_f8n_g25 := ap_new f8n (hVg25.bl_ge _ rfl).2
          have hap_f8n_g44 := ap_new f8n (hVg44.bl_ge _ rfl).2
          have hap_f8d_g11 := ap_new f8d (hVg11.bl_ge _ rfl).2
          have hap_f8d_g25 := ap_new f8d (hVg25.bl_ge _ rfl).2
          have hap_f8d_g44 := ap_new f8d (hVg44.bl_ge _ rfl).2
          have f8n := f8n.low (b' := w.heap.size) hB.size
          have f8d := f8d.low (b' := w.heap.size) hB.size
          have hB := ext_trans hB hGw116
          have f8n_l := f8n.rd.ulen
          have f8d_l := f8d.rd.ulen
          exact WL.done ⟨_, rfl, hGw116, ⟨A117, m118, c119, A120, m121, c122, rfl, f8n, f8d, f8m, hap_f8n_g11, hap_f8n_g25, hap_f8n_g44, hap_f8d_g11, hap_f8d_g25, hap_f8d_g44⟩⟩
        · intro w123 hE
          have hE := hE rfl
          have hB := ext_trans hB hE
          rintro _ rfl
          rintro _ ⟨A108, m109, c110, A111, m112, c113, rfl, f7n, f7d, f7m, hap_f7n_g11, hap_f7n_g25, hap_f7n_g44, hap_f7d_g11, hap_f7d_g25, hap_f7d_g44⟩
          rintro _ ⟨A117, m118, c119, A120, m121, c122, rfl, f8n, f8d, f8m, hap_f8n_g11, hap_f8n_g25, hap_f8n_g44, hap_f8d_g11, hap_f8d_g25, hap_f8d_g44⟩
          intro R
          refine WL.take rfl ?_
          refine WL.call Try.func11 rfl Try.nm11 rfl rfl (qsame_t f7n.rd f7d.rd f8n.rd f8d.rd (can_eq (whole_fl h))) ?_
          rintro _ w124 ⟨rfl, hGw124⟩
          have hB := ext_trans hB hGw124
          exact WL.done ⟨_, rfl, hGw124, rfl⟩
      · intro vals w125 hT hVs
        have hB := ext_trans hB hT
        have hv0 : vals 0 = _ := hVs 0 (by decide)
        have hv1 : vals 1 = _ := hVs 1 (by decide)
        have hv2 : vals 2 = _ := hVs 2 (by decide)
        have hv3 : vals 3 = _ := hVs 3 (by decide)
        have hv4 : vals 4 = _ := hVs 4 (by decide)
        have hv5 : vals 5 = _ := hVs 5 (by decide)
        have hv6 : vals 6 = _ := hVs 6 (by decide)
        have hv7 : vals 7 = _ := hVs 7 (by decide)
        have hv8 : vals 8 = _ := hVs 8 (by decide)
        have hv9 : vals 9 = _ := hVs 9 (by decide)
        have hv10 : vals 10 = _ := hVs 10 (by decide)
        have hv11 : vals 11 = _ := hVs 11 (by decide)
        have hv12 : vals 12 = _ := hVs 12 (by decide)
        have hv13 : vals 13 = _ := hVs 13 (by decide)
        have hv14 : vals 14 = _ := hVs 14 (by decide)
        obtain ⟨A108, m109, c110, A111, m112, c113, hv15, f7n, f7d, f7m, hap_f7n_g11, hap_f7n_g25, hap_f7n_g44, hap_f7d_g11, hap_f7d_g25, hap_f7d_g44⟩ := hVs 15 (by decide)
        have hv16 : vals 16 = _ := hVs 16 (by decide)
        obtain ⟨A117, m118, c119, A120, m121, c122, hv17, f8n, f8d, f8m, hap_f8n_g11, hap_f8n_g25, hap_f8n_g44, hap_f8d_g11, hap_f8d_g25, hap_f8d_g44⟩ := hVs 17 (by decide)
        have hv18 : vals 18 = _ := hVs 18 (by decide)
        rw [show (List.filterMap (fun i => Option.map (fun t => (t, vals i)) (dstAt _ i)) (List.range _)) = [(45, .bool true), (46, .bool true), (47, .bool true), (48, .bool true), (49, .slice A30 m31 c32), (50, .agg #[.bool false, .slice A30 m31 c32, .slice none 0 0]), (51, .slice A34 m35 c36), (52, .agg #[.bool false, .slice A34 m35 c36, .slice none 0 0]), (53, .bool true), (54, .bool true), (55, .bool true), (56, .bool true), (57, .bool false), (58, .bool false), (59, .agg #[.bool na, .slice Aan man can, .slice Aad mad cad]), (60, .agg #[.bool (qneg (((fl (qa) : Int) : Rat))), .slice A108 m109 c110, .slice A111 m112 c113]), (61, .agg #[.bool na, .slice Aan man can, .slice Aad mad cad]), (62, .agg #[.bool (qneg (qa)), .slice A117 m118 c119, .slice A120 m121 c122]), (63, .bool true)] from by
          show [(45, vals 0), (46, vals 1), (47, vals 2), (48, vals 3), (49, vals 4), (50, vals 5), (51, vals 6), (52, vals 7), (53, vals 8), (54, vals 9), (55, vals 10), (56, vals 11), (57, vals 12), (58, vals 13), (59, vals 14), (60, vals 15), (61, vals 16), (62, vals 17), (63, vals 18)] = _
          rw [hv0, hv1, hv2, hv3, hv4, hv5, hv6, hv7, hv8, hv9, hv10, hv11, hv12, hv13, hv14, hv15, hv16, hv17, hv18]]
        refine WA.step [19] (by decide +kernel) rfl ?_
        intro iQ hQ
        simp only [List.mem_cons, List.not_mem_nil, or_false] at hQ
        obtain rfl := hQ
        · refine ⟨_, rfl, ?_⟩
          refine WL.take rfl ?_
          refine WL.pick rfl rfl rfl ?_
          refine WL.done ?_
          refine WA.step [20] (by decide +kernel) rfl ?_
          intro iQ hQ
          simp only [List.mem_cons, List.not_mem_nil, or_false] at hQ
          obtain rfl := hQ
          · refine ⟨_, rfl, ?_⟩
            refine WL.pick rfl rfl rfl ?_
            refine WL.done ?_
            refine WA.step [21] (by decide +kernel) rfl ?_
            intro iQ hQ
            simp only [List.mem_cons, List.not_mem_nil, or_false] at hQ
            obtain rfl := hQ
            · refine ⟨_, rfl, ?_⟩
              refine WL.assign rfl rfl ?_
              refine WL.done ?_
              refine WA.done (by decide +kernel) ?_
              refine W.ret ?_
              refine ⟨_, rfl, ?_⟩
              exact ⟨rfl, hB⟩
  · have hlo := hlo_t rfl
    refine WL.done ?_
    refine W.condT rfl ?_
    refine W.seq ?_
    refine W.region ?_
    refine WL.assign rfl rfl ?_
    refine WL.done ?_
    refine W.ret ?_
    refine ⟨_, rfl, ?_⟩
    exact ⟨rfl, hB⟩

set_option maxHeartbeats 4000000 in
theorem RationalFloors_f {w : World} {Ban : Nat} {Aan : Option Addr} {man can : Nat} {xan : List Nat} (han : Rd Ban w 1 Aan man can (us xan)) {Bad : Nat} {Aad : Option Addr} {mad cad : Nat} {xad : List Nat} (had : Rd Bad w 1 Aad mad cad (us xad)) {na : Bool} (hLan : Lim xan) (hLad : Lim xad) (hza : man * 4 ≤ 140737488351232 ∧ mad * 4 ≤ 140737488351232) (q0 : Rat) (hq0 : val na (nv xan) (nv xad) = q0) (hw0 : ¬ whole q0) :
    Calls Try.prog 3 #[.agg #[.bool na, .slice Aan man can, .slice Aad mad cad]] w fun e w2 => ∃ v, e = .returned v ∧ (fun v w2 => v = .bool true ∧ w.grownBy w2 none) v w2 := by
  have han := han.norm
  have han_l := han.ulen
  have han_x := han.max
  simp only [maxLen] at han_x
  have han_c := han.cap
  have had := had.norm
  have had_l := had.ulen
  have had_x := had.max
  simp only [maxLen] at had_x
  have had_c := had.cap
  have han0 := han
  have had0 := had
  obtain ⟨qa, hqa⟩ : ∃ q, val na (nv xan) (nv xad) = q := ⟨_, rfl⟩
  have h : ¬ whole qa := by rw [← hqa, hq0]; exact hw0
  have hB := ext_refl w
  refine calls_of_W (vs := [.agg #[.bool na, .slice Aan man can, .slice Aad mad cad]]) [2] Try.func3 rfl rfl rfl rfl ?_
  refine W.seq ?_
  refine W.region ?_
  refine WL.box Try.el25 rfl rfl rfl ?_
  intro g11 w12 hg_g11 hVg11 hGw12
  change Own _ _ _ _ _ _ _ [.bool na, .slice Aan man can, .slice Aad mad cad] at hVg11
  have hVg11 := hVg11.low (b' := w.heap.size) hB.size
  have hB := ext_trans hB hGw12
  have han := han0.ext hB
  have had := had0.ext hB
  refine WL.assign rfl rfl ?_
  refine WL.done ?_
  refine W.seq ?_
  refine W.seq ?_
  refine W.region ?_
  refine WL.loadV (cs := [.bool na, .slice Aan man can, .slice Aad mad cad]) Try.el25 Try.agg25 rfl rfl hVg11.vcells rfl ?_
  refine WL.lit (b := w12.heap.size) (cells := [.bool na, .slice Aan man can, .slice Aad mad cad]) Try.underlying35 Try.el25 (by decide) ⟨_, rfl, by kernel_rfl⟩ rfl (Nat.le_refl _) rfl ?_
  rintro A13 w14 - hO15 hGw14
  have hO15 := hO15.low (b' := w.heap.size) hB.size
  have hB := ext_trans hB hGw14
  have han := han0.ext hB
  have had := had0.ext hB
  have hVg11 := hVg11.ext hGw14
  have hN16 : RatsR w14.heap.size w14 [.bool na, .slice Aan man can, .slice Aad mad cad] [(na, xan, xad)] := (RatsR.cons han.norm had.norm (RatsR.nil _ _))
  refine WL.call Try.func6 rfl Try.nm6 rfl rfl (long_c hO15.rd hN16 rfl (RLen.cons (by first | omega | (simp; done) | (simp; omega)) (by first | omega | (simp; done) | (simp; omega)) (RLen.nil _))) ?_
  rintro _ w17 ⟨bhlo, rfl, hGw17, hlo_t, hlo_f⟩
  have hB := ext_trans hB hGw17
  have han := han0.ext hB
  have had := had0.ext hB
  have hVg11 := hVg11.ext hGw17
  rcases bhlo with _ | _
  · have hlo := hlo_f rfl
    have hla : xan.length + xad.length ≤ 30 := hlo 0 (by simp)
    refine WL.done ?_
    refine W.condF rfl ?_
    refine W.skip ?_
    refine W.seq ?_
    refine W.region ?_
    refine WL.loadV (cs := [.bool na, .slice Aan man can, .slice Aad mad cad]) Try.el25 Try.agg25 rfl rfl hVg11.vcells rfl ?_
    refine WL.call Try.func7 rfl Try.nm7 rfl rfl (qFloor_c han had hLan hLad qa hqa (by omega)) ?_
    rintro _ w18 ⟨A19, m20, c21, A22, m23, c24, rfl, hGw18, f1n, f1d, f1m⟩
    have f1n := f1n.low (b' := w.heap.size) hB.size
    have f1d := f1d.low (b' := w.heap.size) hB.size
    have hB := ext_trans hB hGw18
    have han := han0.ext hB
    have had := had0.ext hB
    have hVg11 := hVg11.ext hGw18
    have f1n_l := f1n.rd.ulen
    have f1d_l := f1d.rd.ulen
    refine WL.alloc Try.el25 rfl ?_
    intro g25 w26 hg_g25 hVg25 hGw26
    change Own _ _ _ _ _ _ _ [.bool false, .slice none 0 0, .slice none 0 0] at hVg25
    have hlt_g11_g25 : g11 < g25 := by rw [hg_g25]; exact (hVg11.bl_ge _ rfl).2
    have hap_f1n_g25 := ap_old f1n hg_g25
    have hap_f1d_g25 := ap_old f1d hg_g25
    have hVg25 := hVg25.low (b' := w.heap.size) hB.size
    have hB := ext_trans hB hGw26
    have han := han0.ext hB
    have had := had0.ext hB
    have hVg11 := hVg11.ext hGw26
    have f1n := f1n.ext hGw26
    have f1d := f1d.ext hGw26
    refine WL.storeV Try.el25 rfl rfl rfl rfl hVg25 ?_
    have hOld28 := hVg25
    intro w27 hVg25 hGw27
    change Own _ _ _ _ _ _ _ [.bool (qneg (((fl (qa) : Int) : Rat))), .slice A19 m20 c21, .slice A22 m23 c24] at hVg25
    have hB := ext_own hB hGw27 (fun g hg => (hOld28.bl_ge g hg).1)
    have han := han0.ext hB
    have had := had0.ext hB
    have hVg11 := hVg11.grown hGw27 (apart (by omega))
    have f1n := f1n.grown hGw27 (ap_row hap_f1n_g25)
    have f1d := f1d.grown hGw27 (ap_row hap_f1d_g25)
    refine WL.done ?_
    refine W.seq ?_
    refine W.region ?_
    refine WL.loadV (cs := [.bool na, .slice Aan man can, .slice Aad mad cad]) Try.el25 Try.agg25 rfl rfl hVg11.vcells rfl ?_
    refine WL.call Try.func8 rfl Try.nm8 rfl rfl (qWhole_f han had hLan hLad qa hqa (by omega) (by assumption)) ?_
    rintro _ w29 ⟨rfl, hGw29⟩
    have hB := ext_trans hB hGw29
    have han := han0.ext hB
    have had := had0.ext hB
    have hVg11 := hVg11.ext hGw29
    have f1n := f1n.ext hGw29
    have f1d := f1d.ext hGw29
    have hVg25 := hVg25.ext hGw29
    refine WL.move rfl rfl ?_
    refine WL.extract rfl rfl rfl ?_
    refine WL.extract rfl rfl rfl ?_
    refine WL.assign rfl rfl ?_
    refine WL.assign rfl rfl ?_
    refine WL.done ?_
    refine W.seq ?_
    refine W.region ?_
    refine WL.loadV (cs := [.bool na, .slice Aan man can, .slice Aad mad cad]) Try.el25 Try.agg25 rfl rfl hVg11.vcells rfl ?_
    refine WL.call Try.func9 rfl Try.nm9 rfl rfl (rqWhole_f han had hLan hLad qa hqa (by omega) (by assumption)) ?_
    rintro _ w30 ⟨rfl, hGw30⟩
    have hB := ext_trans hB hGw30
    have han := han0.ext hB
    have had := had0.ext hB
    have hVg11 := hVg11.ext hGw30
    have f1n := f1n.ext hGw30
    have f1d := f1d.ext hGw30
    have hVg25 := hVg25.ext hGw30
    refine WL.move rfl rfl ?_
    refine WL.extract rfl rfl rfl ?_
    refine WL.extract rfl rfl rfl ?_
    refine WL.assign rfl rfl ?_
    refine WL.assign rfl rfl ?_
    refine WL.done ?_
    refine W.seq ?_
    refine W.region ?_
    refine WL.call Try.func10 rfl Try.nm10 rfl rfl (rqInt_c (by omega)) ?_
    rintro _ w31 ⟨A32, m33, c34, A35, m36, c37, rfl, hGw31, f4n, f4d, f4m⟩
    have f4n := f4n.low (b' := w.heap.size) hB.size
    have f4d := f4d.low (b' := w.heap.size) hB.size
    have hB := ext_trans hB hGw31
    have han := han0.ext hB
    have had := had0.ext hB
    have hVg11 := hVg11.ext hGw31
    have f1n := f1n.ext hGw31
    have f1d := f1d.ext hGw31
    have hVg25 := hVg25.ext hGw31
    have f4n_l := f4n.rd.ulen
    have f4d_l := f4d.rd.ulen
    refine WL.alloc Try.el25 rfl ?_
    intro g38 w39 hg_g38 hVg38 hGw39
    change Own _ _ _ _ _ _ _ [.bool false, .slice none 0 0, .slice none 0 0] at hVg38
    have hlt_g11_g38 : g11 < g38 := by rw [hg_g38]; exact (hVg11.bl_ge _ rfl).2
    have hlt_g25_g38 : g25 < g38 := by rw [hg_g38]; exact (hVg25.bl_ge _ rfl).2
    have hap_f1n_g38 := ap_old f1n hg_g38
    have hap_f1d_g38 := ap_old f1d hg_g38
    have hap_f4n_g38 := ap_old f4n hg_g38
    have hap_f4d_g38 := ap_old f4d hg_g38
    have hVg38 := hVg38.low (b' := w.heap.size) hB.size
    have hB := ext_trans hB hGw39
    have han := han0.ext hB
    have had := had0.ext hB
    have hVg11 := hVg11.ext hGw39
    have f1n := f1n.ext hGw39
    have f1d := f1d.ext hGw39
    have hVg25 := hVg25.ext hGw39
    have f4n := f4n.ext hGw39
    have f4d := f4d.ext hGw39
    refine WL.storeV Try.el25 rfl rfl rfl rfl hVg38 ?_
    have hOld41 := hVg38
    intro w40 hVg38 hGw40
    change Own _ _ _ _ _ _ _ [.bool (qneg (qOf (1 : Int) 1)), .slice A32 m33 c34, .slice A35 m36 c37] at hVg38
    have hB := ext_own hB hGw40 (fun g hg => (hOld41.bl_ge g hg).1)
    have han := han0.ext hB
    have had := had0.ext hB
    have hVg11 := hVg11.grown hGw40 (apart (by omega))
    have f1n := f1n.grown hGw40 (ap_row hap_f1n_g38)
    have f1d := f1d.grown hGw40 (ap_row hap_f1d_g38)
    have hVg25 := hVg25.grown hGw40 (apart (by omega))
    have f4n := f4n.grown hGw40 (ap_row hap_f4n_g38)
    have f4d := f4d.grown hGw40 (ap_row hap_f4d_g38)
    refine WL.done ?_
    refine W.seq ?_
    refine W.seq ?_
    refine W.draw [⟨[], [3], false⟩, ⟨[], [1], false⟩, ⟨[1], [], false⟩, ⟨[0, 2], [], false⟩, ⟨[3], [], true⟩, ⟨[4], [], true⟩, ⟨[5], [3], false⟩, ⟨[5], [1], false⟩, ⟨[5, 6, 7], [], false⟩, ⟨[5, 8], [], true⟩, ⟨[5, 9], [], true⟩, ⟨[10], [], true⟩, ⟨[11], [3], false⟩, ⟨[11], [8], false⟩, ⟨[11, 12, 13], [], false⟩, ⟨[11, 14], [], false⟩, ⟨[11], [1], false⟩, ⟨[11, 15, 16], [], false⟩, ⟨[11, 17], [], true⟩, ⟨[11, 18], [], true⟩] [[(3, .pointer (some ⟨g25, 0, none⟩))], [(1, .pointer (some ⟨g11, 0, none⟩))], [], [], [], [], [(3, .pointer (some ⟨g25, 0, none⟩))], [(1, .pointer (some ⟨g11, 0, none⟩))], [], [], [], [], [(3, .pointer (some ⟨g25, 0, none⟩))], [(8, .pointer (some ⟨g38, 0, none⟩))], [], [], [(1, .pointer (some ⟨g11, 0, none⟩))], [], [], []] (fun iQ => [fun v wQ => v = .agg #[.bool (qneg (((fl (qa) : Int) : Rat))), .slice A19 m20 c21, .slice A22 m23 c24], fun v wQ => v = .agg #[.bool na, .slice Aan man can, .slice Aad mad cad], fun v wQ => ∃ A46 m47 c48 A49 m50 c51, v = .agg #[.bool (qneg (((fl (qa) : Int) : Rat))), .slice A46 m47 c48, .slice A49 m50 c51] ∧ (Own w.heap.size wQ 48 1 A46 m47 c48 (us (digs (qnum (((fl (qa) : Int) : Rat)))))) ∧ (Own w.heap.size wQ 48 1 A49 m50 c51 (us (digs (Rat.den (((fl (qa) : Int) : Rat)))))) ∧ (m47 ≤ man + 2 ∧ m50 ≤ 2) ∧ (∀ k, bl A46 = some k → k ≠ g11) ∧ (∀ k, bl A46 = some k → k ≠ g25) ∧ (∀ k, bl A46 = some k → k ≠ g38) ∧ (∀ k, bl A49 = some k → k ≠ g11) ∧ (∀ k, bl A49 = some k → k ≠ g25) ∧ (∀ k, bl A49 = some k → k ≠ g38), fun v wQ => v = .bool true, fun v wQ => v = .bool false, fun v wQ => v = .bool false, fun v wQ => v = .agg #[.bool (qneg (((fl (qa) : Int) : Rat))), .slice A19 m20 c21, .slice A22 m23 c24], fun v wQ => v = .agg #[.bool na, .slice Aan man can, .slice Aad mad cad], fun v wQ => v = .int .i64 (sg (((fl (qa) : Int) : Rat) - qa)), fun v _ => v = .bool false, fun v wQ => v = .bool false, fun v wQ => v = .bool false, fun v wQ => v = .agg #[.bool (qneg (((fl (qa) : Int) : Rat))), .slice A19 m20 c21, .slice A22 m23 c24], fun v wQ => v = .agg #[.bool (qneg (qOf (1 : Int) 1)), .slice A32 m33 c34, .slice A35 m36 c37], fun v wQ => ∃ A66, v = .slice A66 2 2 ∧ (Own w.heap.size wQ 25 3 A66 2 2 [.bool (qneg (((fl (qa) : Int) : Rat))), .slice A19 m20 c21, .slice A22 m23 c24, .bool (qneg (qOf (1 : Int) 1)), .slice A32 m33 c34, .slice A35 m36 c37]) ∧ (RatsR wQ.heap.size wQ [.bool (qneg (((fl (qa) : Int) : Rat))), .slice A19 m20 c21, .slice A22 m23 c24, .bool (qneg (qOf (1 : Int) 1)), .slice A32 m33 c34, .slice A35 m36 c37] [((qneg (((fl (qa) : Int) : Rat))), digs (qnum (((fl (qa) : Int) : Rat))), digs (Rat.den (((fl (qa) : Int) : Rat)))), ((qneg (qOf (1 : Int) 1)), digs (qnum (qOf (1 : Int) 1)), digs (Rat.den (qOf (1 : Int) 1)))]) ∧ (∀ k, bl A66 = some k → k ≠ g11) ∧ (∀ k, bl A66 = some k → k ≠ g25) ∧ (∀ k, bl A66 = some k → k ≠ g38), fun v wQ => ∃ A72 m73 c74 A75 m76 c77, v = .agg #[.bool (qneg (((fl (qa) : Int) : Rat) + (qOf (1 : Int) 1))), .slice A72 m73 c74, .slice A75 m76 c77] ∧ (Own w.heap.size wQ 48 1 A72 m73 c74 (us (digs (qnum (((fl (qa) : Int) : Rat) + (qOf (1 : Int) 1)))))) ∧ (Own w.heap.size wQ 48 1 A75 m76 c77 (us (digs (Rat.den (((fl (qa) : Int) : Rat) + (qOf (1 : Int) 1)))))) ∧ (m73 ≤ 165 ∧ m76 ≤ 165) ∧ (∀ k, bl A72 = some k → k ≠ g11) ∧ (∀ k, bl A72 = some k → k ≠ g25) ∧ (∀ k, bl A72 = some k → k ≠ g38) ∧ (∀ k, bl A75 = some k → k ≠ g11) ∧ (∀ k, bl A75 = some k → k ≠ g25) ∧ (∀ k, bl A75 = some k → k ≠ g38), fun v wQ => v = .agg #[.bool na, .slice Aan man can, .slice Aad mad cad], fun v wQ => v = .int .i64 (sg ((((fl (qa) : Int) : Rat) + (qOf (1 : Int) 1)) - qa)), fun v _ => v = .bool false, fun v wQ => v = .bool false].getD iQ (fun _ _ => True)) (fun _ => True) 20 Try.mixed (by kernel_rfl) ?_ ?_ ?_
    · refine Vs_mono _ ?_
      intro VQ hVQ vQ wQ1 wQ2 hQ1 hQ2
      have hQ2 := hQ2.resolve_right (by decide)
      simp only [List.mem_cons, List.not_mem_nil, or_false] at hVQ
      rcases hVQ with rfl | rfl | rfl | rfl | rfl | rfl | rfl | rfl | rfl | rfl | rfl | rfl | rfl | rfl | rfl | rfl | rfl | rfl | rfl | rfl
      · exact hQ1
      · exact hQ1
      · obtain ⟨A46, m47, c48, A49, m50, c51, hQe, f5n, f5d, f5m, hap_f5n_g11, hap_f5n_g25, hap_f5n_g38, hap_f5d_g11, hap_f5d_g25, hap_f5d_g38⟩ := hQ1
        exact ⟨A46, m47, c48, A49, m50, c51, hQe, f5n.ext hQ2, f5d.ext hQ2, f5m, hap_f5n_g11, hap_f5n_g25, hap_f5n_g38, hap_f5d_g11, hap_f5d_g25, hap_f5d_g38⟩
      · exact hQ1
      · exact hQ1
      · exact hQ1
      · exact hQ1
      · exact hQ1
      · exact hQ1
      · exact hQ1
      · exact hQ1
      · exact hQ1
      · exact hQ1
      · exact hQ1
      · obtain ⟨A66, hQe, hO68, hN69, hap_hO68_g11, hap_hO68_g25, hap_hO68_g38⟩ := hQ1
        exact ⟨A66, hQe, hO68.ext hQ2, (hN69.ext hQ2).norm, hap_hO68_g11, hap_hO68_g25, hap_hO68_g38⟩
      · obtain ⟨A72, m73, c74, A75, m76, c77, hQe, f6n, f6d, f6m, hap_f6n_g11, hap_f6n_g25, hap_f6n_g38, hap_f6d_g11, hap_f6d_g25, hap_f6d_g38⟩ := hQ1
        exact ⟨A72, m73, c74, A75, m76, c77, hQe, f6n.ext hQ2, f6d.ext hQ2, f6m, hap_f6n_g11, hap_f6n_g25, hap_f6n_g38, hap_f6d_g11, hap_f6d_g25, hap_f6d_g38⟩
      · exact hQ1
      · exact hQ1
      · exact hQ1
      · exact hQ1
    · refine ⟨⟨rfl, ⟨rfl, trivial⟩, ?_⟩, ⟨rfl, ⟨rfl, trivial⟩, ?_⟩, ⟨rfl, trivial, ?_⟩, ⟨rfl, trivial, ?_⟩, ⟨rfl, trivial, ?_⟩, ⟨rfl, trivial, ?_⟩, ⟨rfl, ⟨rfl, trivial⟩, ?_⟩, ⟨rfl, ⟨rfl, trivial⟩, ?_⟩, ⟨rfl, trivial, ?_⟩, ⟨rfl, trivial, ?_⟩, ⟨rfl, trivial, ?_⟩, ⟨rfl, trivial, ?_⟩, ⟨rfl, ⟨rfl, trivial⟩, ?_⟩, ⟨rfl, ⟨rfl, trivial⟩, ?_⟩, ⟨rfl, trivial, ?_⟩, ⟨rfl, trivial, ?_⟩, ⟨rfl, ⟨rfl, trivial⟩, ?_⟩, ⟨rfl, trivial, ?_⟩, ⟨rfl, trivial, ?_⟩, ⟨rfl, trivial, ?_⟩, trivial⟩
      · intro w42 hE
        have hE := hE rfl
        have hB := ext_trans hB hE
        have hVg25 := hVg25.ext hE
        intro R
        refine WL.loadV (cs := [.bool (qneg (((fl (qa) : Int) : Rat))), .slice A19 m20 c21, .slice A22 m23 c24]) Try.el25 Try.agg25 rfl rfl hVg25.vcells rfl ?_
        exact WL.done ⟨_, rfl, ext_refl _, rfl⟩
      · intro w43 hE
        have hE := hE rfl
        have hB := ext_trans hB hE
        have hVg11 := hVg11.ext hE
        intro R
        refine WL.loadV (cs := [.bool na, .slice Aan man can, .slice Aad mad cad]) Try.el25 Try.agg25 rfl rfl hVg11.vcells rfl ?_
        exact WL.done ⟨_, rfl, ext_refl _, rfl⟩
      · intro w44 hE
        have hE := hE rfl
        have hB := ext_trans hB hE
        have han := han0.ext hB
        have had := had0.ext hB
        have hVg11 := hVg11.ext hE
        have hVg25 := hVg25.ext hE
        have hVg38 := hVg38.ext hE
        rintro _ rfl
        intro R
        refine WL.call Try.func12 rfl Try.nm12 rfl rfl (rqFloor_c han had hLan hLad qa hqa (by omega)) ?_
        rintro _ w45 ⟨A46, m47, c48, A49, m50, c51, rfl, hGw45, f5n, f5d, f5m⟩
        have hap_f5n_g11 := ap_new f5n (hVg11.bl_ge _ rfl).2
        have hap_f5n_g25 := ap_new f5n (hVg25.bl_ge _ rfl).2
        have hap_f5n_g38 := ap_new f5n (hVg38.bl_ge _ rfl).2
        have hap_f5d_g11 := ap_new f5d (hVg11.bl_ge _ rfl).2
        have hap_f5d_g25 := ap_new f5d (hVg25.bl_ge _ rfl).2
        have hap_f5d_g38 := ap_new f5d (hVg38.bl_ge _ rfl).2
        have f5n := f5n.low (b' := w.heap.size) hB.size
        have f5d := f5d.low (b' := w.heap.size) hB.size
        have hB := ext_trans hB hGw45
        have f5n_l := f5n.rd.ulen
        have f5d_l := f5d.rd.ulen
        exact WL.done ⟨_, rfl, hGw45, ⟨A46, m47, c48, A49, m50, c51, rfl, f5n, f5d, f5m, hap_f5n_g11, hap_f5n_g25, hap_f5n_g38, hap_f5d_g11, hap_f5d_g25, hap_f5d_g38⟩⟩
      · intro w52 hE
        have hE := hE rfl
        have hB := ext_trans hB hE
        have f1n := f1n.ext hE
        have f1d := f1d.ext hE
        rintro _ rfl
        rintro _ ⟨A46, m47, c48, A49, m50, c51, rfl, f5n, f5d, f5m, hap_f5n_g11, hap_f5n_g25, hap_f5n_g38, hap_f5d_g11, hap_f5d_g25, hap_f5d_g38⟩
        intro R
        refine WL.call Try.func11 rfl Try.nm11 rfl rfl (qsame_t f1n.rd f1d.rd f5n.rd f5d.rd ⟨rfl, rfl, rfl⟩) ?_
        rintro _ w53 ⟨rfl, hGw53⟩
        have hB := ext_trans hB hGw53
        exact WL.done ⟨_, rfl, hGw53, rfl⟩
      · intro w54 hE
        rintro _ rfl
        intro R
        refine WL.not rfl rfl ?_
        exact WL.done ⟨_, rfl, rfl, rfl⟩
      · intro w55 hE
        rintro _ rfl
        intro R
        refine WL.move rfl rfl ?_
        exact WL.done ⟨_, rfl, rfl, rfl⟩
      · intro w56 hE
        have hE := hE rfl
        have hB := ext_trans hB hE
        have hVg25 := hVg25.ext hE
        rintro _ rfl
        intro R
        refine WL.take rfl ?_
        refine WL.loadV (cs := [.bool (qneg (((fl (qa) : Int) : Rat))), .slice A19 m20 c21, .slice A22 m23 c24]) Try.el25 Try.agg25 rfl rfl hVg25.vcells rfl ?_
        exact WL.done ⟨_, rfl, ext_refl _, rfl⟩
      · intro w57 hE
        have hE := hE rfl
        have hB := ext_trans hB hE
        have hVg11 := hVg11.ext hE
        rintro _ rfl
        intro R
        refine WL.take rfl ?_
        refine WL.loadV (cs := [.bool na, .slice Aan man can, .slice Aad mad cad]) Try.el25 Try.agg25 rfl rfl hVg11.vcells rfl ?_
        exact WL.done ⟨_, rfl, ext_refl _, rfl⟩
      · intro w58 hE
        have hE := hE rfl
        have hB := ext_trans hB hE
        have han := han0.ext hB
        have had := had0.ext hB
        have f1n := f1n.ext hE
        have f1d := f1d.ext hE
        rintro _ rfl
        rintro _ rfl
        rintro _ rfl
        intro R
        refine WL.take rfl ?_
        refine WL.call Try.func13 rfl Try.nm13 rfl rfl (qCmp_c f1n.rd f1d.rd han had (digs_lim _) (digs_lim _) ((fl (qa) : Int) : Rat) (val_canon _) hLan hLad qa hqa (by omega) (by omega)) ?_
        rintro _ w59 ⟨rfl, hGw59⟩
        have hB := ext_trans hB hGw59
        exact WL.done ⟨_, rfl, hGw59, rfl⟩
      · intro w60 hE
        rintro _ rfl
        rintro _ rfl
        intro R
        refine WL.take rfl ?_
        refine WL.gtrD rfl rfl rfl ?_
        exact WL.done ⟨_, rfl, rfl, (dec_f (by have := fl_le qa; omega))⟩
      · intro w61 hE
        rintro _ rfl
        rintro _ rfl
        intro R
        refine WL.pick rfl rfl rfl ?_
        exact WL.done ⟨_, rfl, rfl, rfl⟩
      · intro w62 hE
        rintro _ rfl
        intro R
        refine WL.move rfl rfl ?_
        exact WL.done ⟨_, rfl, rfl, rfl⟩
      · intro w63 hE
        have hE := hE rfl
        have hB := ext_trans hB hE
        have hVg25 := hVg25.ext hE
        rintro _ rfl
        intro R
        refine WL.take rfl ?_
        refine WL.loadV (cs := [.bool (qneg (((fl (qa) : Int) : Rat))), .slice A19 m20 c21, .slice A22 m23 c24]) Try.el25 Try.agg25 rfl rfl hVg25.vcells rfl ?_
        exact WL.done ⟨_, rfl, ext_refl _, rfl⟩
      · intro w64 hE
        have hE := hE rfl
        have hB := ext_trans hB hE
        have hVg38 := hVg38.ext hE
        rintro _ rfl
        intro R
        refine WL.take rfl ?_
        refine WL.loadV (cs := [.bool (qneg (qOf (1 : Int) 1)), .slice A32 m33 c34, .slice A35 m36 c37]) Try.el25 Try.agg25 rfl rfl hVg38.vcells rfl ?_
        exact WL.done ⟨_, rfl, ext_refl _, rfl⟩
      · intro w65 hE
        have hE := hE rfl
        have hB := ext_trans hB hE
        have hVg11 := hVg11.ext hE
        have f1n := f1n.ext hE
        have f1d := f1d.ext hE
        have hVg25 := hVg25.ext hE
        have f4n := f4n.ext hE
        have f4d := f4d.ext hE
        have hVg38 := hVg38.ext hE
        rintro _ rfl
        rintro _ rfl
        rintro _ rfl
        intro R
        refine WL.take rfl ?_
        refine WL.lit (b := w65.heap.size) (cells := [.bool (qneg (((fl (qa) : Int) : Rat))), .slice A19 m20 c21, .slice A22 m23 c24, .bool (qneg (qOf (1 : Int) 1)), .slice A32 m33 c34, .slice A35 m36 c37]) Try.underlying35 Try.el25 (by decide) ⟨_, rfl, by kernel_rfl⟩ rfl (Nat.le_refl _) rfl ?_
        rintro A66 w67 - hO68 hGw67
        have hap_hO68_g11 := ap_new hO68 (hVg11.bl_ge _ rfl).2
        have hap_hO68_g25 := ap_new hO68 (hVg25.bl_ge _ rfl).2
        have hap_hO68_g38 := ap_new hO68 (hVg38.bl_ge _ rfl).2
        have hO68 := hO68.low (b' := w.heap.size) hB.size
        have hB := ext_trans hB hGw67
        have f1n := f1n.ext hGw67
        have f1d := f1d.ext hGw67
        have f4n := f4n.ext hGw67
        have f4d := f4d.ext hGw67
        have hN69 : RatsR w67.heap.size w67 [.bool (qneg (((fl (qa) : Int) : Rat))), .slice A19 m20 c21, .slice A22 m23 c24, .bool (qneg (qOf (1 : Int) 1)), .slice A32 m33 c34, .slice A35 m36 c37] [((qneg (((fl (qa) : Int) : Rat))), digs (qnum (((fl (qa) : Int) : Rat))), digs (Rat.den (((fl (qa) : Int) : Rat)))), ((qneg (qOf (1 : Int) 1)), digs (qnum (qOf (1 : Int) 1)), digs (Rat.den (qOf (1 : Int) 1)))] := (RatsR.cons f1n.rd.norm f1d.rd.norm (RatsR.cons f4n.rd.norm f4d.rd.norm (RatsR.nil _ _)))
        exact WL.done ⟨_, rfl, hGw67, ⟨A66, rfl, hO68, hN69, hap_hO68_g11, hap_hO68_g25, hap_hO68_g38⟩⟩
      · intro w70 hE
        have hE := hE rfl
        have hB := ext_trans hB hE
        have hVg11 := hVg11.ext hE
        have hVg25 := hVg25.ext hE
        have hVg38 := hVg38.ext hE
        rintro _ rfl
        rintro _ ⟨A66, rfl, hO68, hN69, hap_hO68_g11, hap_hO68_g25, hap_hO68_g38⟩
        intro R
        refine WL.take rfl ?_
        refine WL.call Try.func14 rfl Try.nm14 rfl rfl (qAdd2_c hO68.rd hN69 (digs_lim _) (digs_lim _) (digs_lim _) (digs_lim _) ((fl (qa) : Int) : Rat) (val_canon _) (qOf (1 : Int) 1) (val_canon _) 40 (by omega) (by omega)) ?_
        rintro _ w71 ⟨A72, m73, c74, A75, m76, c77, rfl, hGw71, f6n, f6d, f6m⟩
        have hap_f6n_g11 := ap_new f6n (hVg11.bl_ge _ rfl).2
        have hap_f6n_g25 := ap_new f6n (hVg25.bl_ge _ rfl).2
        have hap_f6n_g38 := ap_new f6n (hVg38.bl_ge _ rfl).2
        have hap_f6d_g11 := ap_new f6d (hVg11.bl_ge _ rfl).2
        have hap_f6d_g25 := ap_new f6d (hVg25.bl_ge _ rfl).2
        have hap_f6d_g38 := ap_new f6d (hVg38.bl_ge _ rfl).2
        have f6n := f6n.low (b' := w.heap.size) hB.size
        have f6d := f6d.low (b' := w.heap.size) hB.size
        have hB := ext_trans hB hGw71
        have f6n_l := f6n.rd.ulen
        have f6d_l := f6d.rd.ulen
        exact WL.done ⟨_, rfl, hGw71, ⟨A72, m73, c74, A75, m76, c77, rfl, f6n, f6d, f6m, hap_f6n_g11, hap_f6n_g25, hap_f6n_g38, hap_f6d_g11, hap_f6d_g25, hap_f6d_g38⟩⟩
      · intro w78 hE
        have hE := hE rfl
        have hB := ext_trans hB hE
        have hVg11 := hVg11.ext hE
        rintro _ rfl
        intro R
        refine WL.take rfl ?_
        refine WL.loadV (cs := [.bool na, .slice Aan man can, .slice Aad mad cad]) Try.el25 Try.agg25 rfl rfl hVg11.vcells rfl ?_
        exact WL.done ⟨_, rfl, ext_refl _, rfl⟩
      · intro w79 hE
        have hE := hE rfl
        have hB := ext_trans hB hE
        have han := han0.ext hB
        have had := had0.ext hB
        rintro _ rfl
        rintro _ ⟨A72, m73, c74, A75, m76, c77, rfl, f6n, f6d, f6m, hap_f6n_g11, hap_f6n_g25, hap_f6n_g38, hap_f6d_g11, hap_f6d_g25, hap_f6d_g38⟩
        rintro _ rfl
        intro R
        refine WL.take rfl ?_
        refine WL.call Try.func13 rfl Try.nm13 rfl rfl (qCmp_c f6n.rd f6d.rd han had (digs_lim _) (digs_lim _) (((fl (qa) : Int) : Rat) + (qOf (1 : Int) 1)) (val_canon _) hLan hLad qa hqa (by omega) (by omega)) ?_
        rintro _ w80 ⟨rfl, hGw80⟩
        have hB := ext_trans hB hGw80
        exact WL.done ⟨_, rfl, hGw80, rfl⟩
      · intro w81 hE
        rintro _ rfl
        rintro _ rfl
        intro R
        refine WL.take rfl ?_
        refine WL.leqD rfl rfl rfl ?_
        exact WL.done ⟨_, rfl, rfl, (dec_f (by have := fl_gt qa; rw [show qOf 1 1 = 1 by decide +kernel]; omega))⟩
      · intro w82 hE
        rintro _ rfl
        rintro _ rfl
        intro R
        refine WL.pick rfl rfl rfl ?_
        exact WL.done ⟨_, rfl, rfl, rfl⟩
    · intro vals w83 hT hVs
      rw [if_neg (by decide)] at hT
      have hB := ext_trans hB hT
      have hv0 : vals 0 = _ := hVs 0 (by decide) (by decide)
      have hv1 : vals 1 = _ := hVs 1 (by decide) (by decide)
      obtain ⟨A46, m47, c48, A49, m50, c51, hv2, f5n, f5d, f5m, hap_f5n_g11, hap_f5n_g25, hap_f5n_g38, hap_f5d_g11, hap_f5d_g25, hap_f5d_g38⟩ := hVs 2 (by decide) (by decide)
      have hv3 : vals 3 = _ := hVs 3 (by decide) (by decide)
      have hv4 : vals 4 = _ := hVs 4 (by decide) (by decide)
      have hv5 : vals 5 = _ := hVs 5 (by decide) (by decide)
      have hv6 : vals 6 = _ := hVs 6 (by decide) (by decide)
      have hv7 : vals 7 = _ := hVs 7 (by decide) (by decide)
      have hv8 : vals 8 = _ := hVs 8 (by decide) (by decide)
      have hv9 : vals 9 = _ := hVs 9 (by decide) (by decide)
      have hv10 : vals 10 = _ := hVs 10 (by decide) (by decide)
      have hv11 : vals 11 = _ := hVs 11 (by decide) (by decide)
      have hv12 : vals 12 = _ := hVs 12 (by decide) (by decide)
      have hv13 : vals 13 = _ := hVs 13 (by decide) (by decide)
      obtain ⟨A66, hv14, hO68, hN69, hap_hO68_g11, hap_hO68_g25, hap_hO68_g38⟩ := hVs 14 (by decide) (by decide)
      obtain ⟨A72, m73, c74, A75, m76, c77, hv15, f6n, f6d, f6m, hap_f6n_g11, hap_f6n_g25, hap_f6n_g38, hap_f6d_g11, hap_f6d_g25, hap_f6d_g38⟩ := hVs 15 (by decide) (by decide)
      have hv16 : vals 16 = _ := hVs 16 (by decide) (by decide)
      have hv17 : vals 17 = _ := hVs 17 (by decide) (by decide)
      have hv18 : vals 18 = _ := hVs 18 (by decide) (by decide)
      have hv19 : vals 19 = _ := hVs 19 (by decide) (by decide)
      rw [show (List.filterMap (fun i => Option.map (fun t => (t, vals i)) (dstAt _ i)) (List.range _)) = [(25, .agg #[.bool (qneg (((fl (qa) : Int) : Rat))), .slice A19 m20 c21, .slice A22 m23 c24]), (26, .agg #[.bool na, .slice Aan man can, .slice Aad mad cad]), (27, .agg #[.bool (qneg (((fl (qa) : Int) : Rat))), .slice A46 m47 c48, .slice A49 m50 c51]), (28, .bool true), (29, .bool false), (30, .bool false), (31, .agg #[.bool (qneg (((fl (qa) : Int) : Rat))), .slice A19 m20 c21, .slice A22 m23 c24]), (32, .agg #[.bool na, .slice Aan man can, .slice Aad mad cad]), (33, .int .i64 (sg (((fl (qa) : Int) : Rat) - qa))), (34, .bool false), (35, .bool false), (36, .bool false), (37, .agg #[.bool (qneg (((fl (qa) : Int) : Rat))), .slice A19 m20 c21, .slice A22 m23 c24]), (38, .agg #[.bool (qneg (qOf (1 : Int) 1)), .slice A32 m33 c34, .slice A35 m36 c37]), (39, .slice A66 2 2), (40, .agg #[.bool (qneg (((fl (qa) : Int) : Rat) + (qOf (1 : Int) 1))), .slice A72 m73 c74, .slice A75 m76 c77]), (41, .agg #[.bool na, .slice Aan man can, .slice Aad mad cad]), (42, .int .i64 (sg ((((fl (qa) : Int) : Rat) + (qOf (1 : Int) 1)) - qa))), (43, .bool false), (44, .bool false)] from by
        show [(25, vals 0), (26, vals 1), (27, vals 2), (28, vals 3), (29, vals 4), (30, vals 5), (31, vals 6), (32, vals 7), (33, vals 8), (34, vals 9), (35, vals 10), (36, vals 11), (37, vals 12), (38, vals 13), (39, vals 14), (40, vals 15), (41, vals 16), (42, vals 17), (43, vals 18), (44, vals 19)] = _
        rw [hv0, hv1, hv2, hv3, hv4, hv5, hv6, hv7, hv8, hv9, hv10, hv11, hv12, hv13, hv14, hv15, hv16, hv17, hv18, hv19]]
      refine W.condF rfl ?_
      refine W.skip ?_
      refine W.seq ?_
      refine W.drawT 19 [⟨[], [5], true⟩, ⟨[], [7], true⟩, ⟨[0, 1], [], true⟩, ⟨[2], [], true⟩, ⟨[3], [4], true⟩, ⟨[3, 4], [], true⟩, ⟨[3], [6], true⟩, ⟨[3, 6], [], true⟩, ⟨[3, 5, 7], [], false⟩, ⟨[3, 8], [], true⟩, ⟨[9], [], true⟩, ⟨[10], [5], true⟩, ⟨[10, 11], [], true⟩, ⟨[10, 12], [], true⟩, ⟨[13], [1], false⟩, ⟨[13, 14], [], false⟩, ⟨[13], [1], false⟩, ⟨[13, 16], [], false⟩, ⟨[13, 15, 17], [], false⟩] [[(5, .bool false)], [(7, .bool false)], [], [], [(4, .slice none 0 0)], [], [(6, .slice none 0 0)], [], [], [], [], [(5, .bool false)], [], [], [(1, .pointer (some ⟨g11, 0, none⟩))], [], [(1, .pointer (some ⟨g11, 0, none⟩))], [], []] (fun iQ => [fun v wQ => v = .bool false, fun v wQ => v = .bool false, fun v wQ => v = .bool true, fun v wQ => v = .bool true, fun v wQ => v = .slice none 0 0, fun v wQ => v = .agg #[.bool false, .slice none 0 0, .slice none 0 0], fun v wQ => v = .slice none 0 0, fun v wQ => v = .agg #[.bool false, .slice none 0 0, .slice none 0 0], fun v wQ => v = .bool true, fun v wQ => v = .bool true, fun v wQ => v = .bool true, fun v wQ => v = .bool false, fun v wQ => v = .bool true, fun v wQ => v = .bool true, fun v wQ => v = undef, fun v wQ => v = undef, fun v wQ => v = undef, fun v wQ => v = undef, fun v wQ => v = undef].getD iQ (fun _ _ => True)) Try.mixed (by kernel_rfl) ?_ ?_ ?_
      · refine Vs_monoT _ ?_
        intro VQ hVQ vQ wQ1 wQ2 hQ1 hQ2
        simp only [List.mem_cons, List.not_mem_nil, or_false] at hVQ
        rcases hVQ with rfl | rfl | rfl | rfl | rfl | rfl | rfl | rfl | rfl | rfl | rfl | rfl | rfl | rfl | rfl | rfl | rfl | rfl | rfl
        · exact hQ1
        · exact hQ1
        · exact hQ1
        · exact hQ1
        · exact hQ1
        · exact hQ1
        · exact hQ1
        · exact hQ1
        · exact hQ1
        · exact hQ1
        · exact hQ1
        · exact hQ1
        · exact hQ1
        · exact hQ1
        · exact hQ1
        · exact hQ1
        · exact hQ1
        · exact hQ1
        · exact hQ1
      · refine ⟨⟨rfl, ⟨rfl, trivial⟩, ?_⟩, ⟨rfl, ⟨rfl, trivial⟩, ?_⟩, ⟨rfl, trivial, ?_⟩, ⟨rfl, trivial, ?_⟩, ⟨rfl, ⟨rfl, trivial⟩, ?_⟩, ⟨rfl, trivial, ?_⟩, ⟨rfl, ⟨rfl, trivial⟩, ?_⟩, ⟨rfl, trivial, ?_⟩, ⟨rfl, trivial, ?_⟩, ⟨rfl, trivial, ?_⟩, ⟨rfl, trivial, ?_⟩, ⟨rfl, ⟨rfl, trivial⟩, ?_⟩, ⟨rfl, trivial, ?_⟩, ⟨rfl, trivial, ?_⟩, ⟨rfl, ⟨rfl, trivial⟩, ?_⟩, ⟨rfl, trivial, ?_⟩, ⟨rfl, ⟨rfl, trivial⟩, ?_⟩, ⟨rfl, trivial, ?_⟩, ⟨rfl, trivial, ?_⟩, trivial⟩
        · intro w84 hE
          intro R
          refine WL.move rfl rfl ?_
          exact WL.done ⟨_, rfl, rfl, rfl⟩
        · intro w85 hE
          intro R
          refine WL.move rfl rfl ?_
          exact WL.done ⟨_, rfl, rfl, rfl⟩
        · intro w86 hE
          rintro _ rfl
          rintro _ rfl
          intro R
          refine WL.eqB rfl rfl Try.underlying4 rfl rfl ?_
          exact WL.done ⟨_, rfl, rfl, rfl⟩
        · intro w87 hE
          rintro _ rfl
          intro R
          refine WL.move rfl rfl ?_
          exact WL.done ⟨_, rfl, rfl, rfl⟩
        · intro w88 hE
          rintro _ rfl
          intro R
          refine WL.take rfl ?_
          refine WL.move rfl rfl ?_
          exact WL.done ⟨_, rfl, rfl, rfl⟩
        · intro w89 hE
          rintro _ rfl
          rintro _ rfl
          intro R
          refine WL.take rfl ?_
          refine WL.build (cells := #[.bool false, .slice none 0 0, .slice none 0 0]) Try.bld25 rfl rfl rfl ?_
          exact WL.done ⟨_, rfl, rfl, rfl⟩
        · intro w90 hE
          rintro _ rfl
          intro R
          refine WL.take rfl ?_
          refine WL.move rfl rfl ?_
          exact WL.done ⟨_, rfl, rfl, rfl⟩
        · intro w91 hE
          rintro _ rfl
          rintro _ rfl
          intro R
          refine WL.take rfl ?_
          refine WL.build (cells := #[.bool false, .slice none 0 0, .slice none 0 0]) Try.bld25 rfl rfl rfl ?_
          exact WL.done ⟨_, rfl, rfl, rfl⟩
        · intro w92 hE
          have hE := hE rfl
          have hB := ext_trans hB hE
          rintro _ rfl
          rintro _ rfl
          rintro _ rfl
          intro R
          refine WL.take rfl ?_
          refine WL.call Try.func11 rfl Try.nm11 rfl rfl (qsame_t Rd.nilU Rd.nilU Rd.nilU Rd.nilU ⟨rfl, rfl, rfl⟩) ?_
          rintro _ w93 ⟨rfl, hGw93⟩
          have hB := ext_trans hB hGw93
          exact WL.done ⟨_, rfl, hGw93, rfl⟩
        · intro w94 hE
          rintro _ rfl
          rintro _ rfl
          intro R
          refine WL.pick rfl rfl rfl ?_
          exact WL.done ⟨_, rfl, rfl, rfl⟩
        · intro w95 hE
          rintro _ rfl
          intro R
          refine WL.move rfl rfl ?_
          exact WL.done ⟨_, rfl, rfl, rfl⟩
        · intro w96 hE
          rintro _ rfl
          intro R
          refine WL.take rfl ?_
          refine WL.move rfl rfl ?_
          exact WL.done ⟨_, rfl, rfl, rfl⟩
        · intro w97 hE
          rintro _ rfl
          rintro _ rfl
          intro R
          refine WL.take rfl ?_
          refine WL.not rfl rfl ?_
          exact WL.done ⟨_, rfl, rfl, rfl⟩
        · intro w98 hE
          rintro _ rfl
          rintro _ rfl
          intro R
          refine WL.take rfl ?_
          refine WL.move rfl rfl ?_
          exact WL.done ⟨_, rfl, rfl, rfl⟩
        · intro w99 hE
          have hE := hE rfl
          have hB := ext_trans hB hE
          rintro _ rfl
          intro R
          refine WL.pass rfl rfl rfl ?_
          exact WL.done ⟨_, rfl, ext_refl _, rfl⟩
        · intro w100 hE
          have hE := hE rfl
          have hB := ext_trans hB hE
          rintro _ rfl
          rintro _ rfl
          intro R
          refine WL.pass rfl rfl rfl ?_
          exact WL.done ⟨_, rfl, ext_refl _, rfl⟩
        · intro w101 hE
          have hE := hE rfl
          have hB := ext_trans hB hE
          rintro _ rfl
          intro R
          refine WL.pass rfl rfl rfl ?_
          exact WL.done ⟨_, rfl, ext_refl _, rfl⟩
        · intro w102 hE
          have hE := hE rfl
          have hB := ext_trans hB hE
          rintro _ rfl
          rintro _ rfl
          intro R
          refine WL.pass rfl rfl rfl ?_
          exact WL.done ⟨_, rfl, ext_refl _, rfl⟩
        · intro w103 hE
          have hE := hE rfl
          have hB := ext_trans hB hE
          rintro _ rfl
          rintro _ rfl
          rintro _ rfl
          intro R
          refine WL.pass rfl rfl rfl ?_
          exact WL.done ⟨_, rfl, ext_refl _, rfl⟩
      · intro vals w104 hT hVs
        have hB := ext_trans hB hT
        have hv0 : vals 0 = _ := hVs 0 (by decide)
        have hv1 : vals 1 = _ := hVs 1 (by decide)
        have hv2 : vals 2 = _ := hVs 2 (by decide)
        have hv3 : vals 3 = _ := hVs 3 (by decide)
        have hv4 : vals 4 = _ := hVs 4 (by decide)
        have hv5 : vals 5 = _ := hVs 5 (by decide)
        have hv6 : vals 6 = _ := hVs 6 (by decide)
        have hv7 : vals 7 = _ := hVs 7 (by decide)
        have hv8 : vals 8 = _ := hVs 8 (by decide)
        have hv9 : vals 9 = _ := hVs 9 (by decide)
        have hv10 : vals 10 = _ := hVs 10 (by decide)
        have hv11 : vals 11 = _ := hVs 11 (by decide)
        have hv12 : vals 12 = _ := hVs 12 (by decide)
        have hv13 : vals 13 = _ := hVs 13 (by decide)
        have hv14 : vals 14 = _ := hVs 14 (by decide)
        have hv15 : vals 15 = _ := hVs 15 (by decide)
        have hv16 : vals 16 = _ := hVs 16 (by decide)
        have hv17 : vals 17 = _ := hVs 17 (by decide)
        have hv18 : vals 18 = _ := hVs 18 (by decide)
        rw [show (List.filterMap (fun i => Option.map (fun t => (t, vals i)) (dstAt _ i)) (List.range _)) = [(45, .bool false), (46, .bool false), (47, .bool true), (48, .bool true), (49, .slice none 0 0), (50, .agg #[.bool false, .slice none 0 0, .slice none 0 0]), (51, .slice none 0 0), (52, .agg #[.bool false, .slice none 0 0, .slice none 0 0]), (53, .bool true), (54, .bool true), (55, .bool true), (56, .bool false), (57, .bool true), (58, .bool true), (59, undef), (60, undef), (61, undef), (62, undef), (63, undef)] from by
          show [(45, vals 0), (46, vals 1), (47, vals 2), (48, vals 3), (49, vals 4), (50, vals 5), (51, vals 6), (52, vals 7), (53, vals 8), (54, vals 9), (55, vals 10), (56, vals 11), (57, vals 12), (58, vals 13), (59, vals 14), (60, vals 15), (61, vals 16), (62, vals 17), (63, vals 18)] = _
          rw [hv0, hv1, hv2, hv3, hv4, hv5, hv6, hv7, hv8, hv9, hv10, hv11, hv12, hv13, hv14, hv15, hv16, hv17, hv18]]
        refine WA.step [19] (by decide +kernel) rfl ?_
        intro iQ hQ
        simp only [List.mem_cons, List.not_mem_nil, or_false] at hQ
        obtain rfl := hQ
        · refine ⟨_, rfl, ?_⟩
          refine WL.take rfl ?_
          refine WL.pick rfl rfl rfl ?_
          refine WL.done ?_
          refine WA.step [20] (by decide +kernel) rfl ?_
          intro iQ hQ
          simp only [List.mem_cons, List.not_mem_nil, or_false] at hQ
          obtain rfl := hQ
          · refine ⟨_, rfl, ?_⟩
            refine WL.pick rfl rfl rfl ?_
            refine WL.done ?_
            refine WA.step [21] (by decide +kernel) rfl ?_
            intro iQ hQ
            simp only [List.mem_cons, List.not_mem_nil, or_false] at hQ
            obtain rfl := hQ
            · refine ⟨_, rfl, ?_⟩
              refine WL.assign rfl rfl ?_
              refine WL.done ?_
              refine WA.done (by decide +kernel) ?_
              refine W.ret ?_
              refine ⟨_, rfl, ?_⟩
              exact ⟨rfl, hB⟩
  · have hlo := hlo_t rfl
    refine WL.done ?_
    refine W.condT rfl ?_
    refine W.seq ?_
    refine W.region ?_
    refine WL.assign rfl rfl ?_
    refine WL.done ?_
    refine W.ret ?_
    refine ⟨_, rfl, ?_⟩
    exact ⟨rfl, hB⟩

theorem RationalFloors_c {w : World} {Ban : Nat} {Aan : Option Addr} {man can : Nat} {xan : List Nat} (han : Rd Ban w 1 Aan man can (us xan)) {Bad : Nat} {Aad : Option Addr} {mad cad : Nat} {xad : List Nat} (had : Rd Bad w 1 Aad mad cad (us xad)) {na : Bool} (hLan : Lim xan) (hLad : Lim xad) (hza : man * 4 ≤ 140737488351232 ∧ mad * 4 ≤ 140737488351232) : Calls Try.prog 3 #[.agg #[.bool na, .slice Aan man can, .slice Aad mad cad]] w fun e w2 => ∃ v, e = .returned v ∧ (fun v w2 => v = .bool true ∧ w.grownBy w2 none) v w2 := by
  by_cases h : whole (val na (nv xan) (nv xad))
  · exact RationalFloors_t han had hLan hLad hza _ rfl h
  · exact RationalFloors_f han had hLan hLad hza _ rfl h

theorem RationalDots_ne {w : World} {Bl BNl : Nat} {Al : Option Addr} {ml cl : Nat} {cel : List Value} {rl : List Fr3} (hl : Rd Bl w 3 Al ml cl cel) (hNl : RatsR BNl w cel rl) {Bm BNm : Nat} {Am : Option Addr} {mm cm : Nat} {cem : List Value} {rm : List Fr3} (hm : Rd Bm w 3 Am mm cm cem) (hNm : RatsR BNm w cem rm) (hLl : RLim rl) (hLm : RLim rm) (hKKl : RLen 140737488355328 rl) (hKKm : RLen 140737488355328 rm) (heq : ml ≠ mm) :
    Calls Try.prog 4 #[.slice Al ml cl, .slice Am mm cm] w fun e w2 => ∃ v, e = .returned v ∧ (fun v w2 => v = .bool true ∧ w.grownBy w2 none) v w2 := by
  have hl := hl.norm
  have hNl := hNl.norm
  have hl_n := hl.len
  have hl_nn := hNl.len
  have hl_l : rl.length = ml := by omega
  have hl_x := hl.max
  simp only [maxLen] at hl_x
  have hl_c := hl.cap
  have hl0 := hl
  have hNl0 := hNl
  have hm := hm.norm
  have hNm := hNm.norm
  have hm_n := hm.len
  have hm_nn := hNm.len
  have hm_l : rm.length = mm := by omega
  have hm_x := hm.max
  simp only [maxLen] at hm_x
  have hm_c := hm.cap
  have hm0 := hm
  have hNm0 := hNm
  have hB := ext_refl w
  refine calls_of_W (vs := [.slice Al ml cl, .slice Am mm cm]) [4] Try.func4 rfl rfl rfl rfl ?_
  refine W.seq ?_
  refine W.region ?_
  refine WL.assign rfl rfl ?_
  refine WL.done ?_
  refine W.seq ?_
  refine W.seq ?_
  refine W.region ?_
  refine WL.move rfl rfl ?_
  refine WL.call Try.func6 rfl Try.nm6 rfl rfl (long_c hl hNl rfl hKKl) ?_
  rintro _ w11 ⟨bhlol, rfl, hGw11, hlol_t, hlol_f⟩
  have hB := ext_trans hB hGw11
  have hl := hl0.ext hB
  have hNl := hNl0.ext hB
  have hm := hm0.ext hB
  have hNm := hNm0.ext hB
  rcases bhlol with _ | _
  · have hlol := hlol_f rfl
    have hKl : RLen 4 rl := rlen_of hlol
    refine WL.move rfl rfl ?_
    refine WL.take rfl ?_
    refine WL.move rfl rfl ?_
    refine WL.take rfl ?_
    refine WL.call Try.func6 rfl Try.nm6 rfl rfl (long_c hm hNm rfl hKKm) ?_
    rintro _ w12 ⟨bhlom, rfl, hGw12, hlom_t, hlom_f⟩
    have hB := ext_trans hB hGw12
    have hl := hl0.ext hB
    have hNl := hNl0.ext hB
    have hm := hm0.ext hB
    have hNm := hNm0.ext hB
    rcases bhlom with _ | _
    · have hlom := hlom_f rfl
      have hKm : RLen 4 rm := rlen_of hlom
      refine WL.pick rfl rfl rfl ?_
      refine WL.done ?_
      refine W.condF rfl ?_
      refine W.skip ?_
      refine W.seq ?_
      refine W.seq ?_
      refine W.region ?_
      refine WL.move rfl rfl ?_
      refine WL.len Try.underlying35 rfl rfl ?_
      refine WL.gtr rfl rfl rfl (fun hl16 => ?_) (fun hl16 => ?_)
      · refine WL.move rfl rfl ?_
        refine WL.pass rfl rfl rfl ?_
        refine WL.pass rfl rfl rfl ?_
        refine WL.pass rfl rfl rfl ?_
        refine WL.pick rfl rfl rfl ?_
        refine WL.done ?_
        refine W.condT rfl ?_
        refine W.seq ?_
        refine W.region ?_
        refine WL.assign rfl rfl ?_
        refine WL.done ?_
        refine W.ret ?_
        refine ⟨_, rfl, ?_⟩
        exact ⟨rfl, hB⟩
      · refine WL.move rfl rfl ?_
        refine WL.take rfl ?_
        refine WL.move rfl rfl ?_
        refine WL.take rfl ?_
        refine WL.len Try.underlying35 rfl rfl ?_
        refine WL.take rfl ?_
        refine WL.gtr rfl rfl rfl (fun hm16 => ?_) (fun hm16 => ?_)
        · refine WL.pick rfl rfl rfl ?_
          refine WL.done ?_
          refine W.condT rfl ?_
          refine W.seq ?_
          refine W.region ?_
          refine WL.assign rfl rfl ?_
          refine WL.done ?_
          refine W.ret ?_
          refine ⟨_, rfl, ?_⟩
          exact ⟨rfl, hB⟩
        · refine WL.pick rfl rfl rfl ?_
          refine WL.done ?_
          refine W.condF rfl ?_
          refine W.skip ?_
          refine W.seq ?_
          refine W.region ?_
          refine WL.move rfl rfl ?_
          refine WL.move rfl rfl ?_
          refine WL.call Try.func16 rfl Try.nm16 rfl rfl (qDot_ne hl hNl hm hNm (by omega)) ?_
          rintro _ w15 ⟨rfl, hGw15⟩
          have hB := ext_trans hB hGw15
          refine WL.move rfl rfl ?_
          refine WL.extract rfl rfl rfl ?_
          refine WL.extract rfl rfl rfl ?_
          refine WL.alloc Try.el25 rfl ?_
          intro g16 w17 hg_g16 hVg16 hGw17
          change Own _ _ _ _ _ _ _ [.bool false, .slice none 0 0, .slice none 0 0] at hVg16
          have hVg16 := hVg16.low (b' := w.heap.size) hB.size
          have hB := ext_trans hB hGw17
          refine WL.storeV Try.el25 rfl rfl rfl rfl hVg16 ?_
          have hOld19 := hVg16
          intro w18 hVg16 hGw18
          change Own _ _ _ _ _ _ _ [.bool false, .slice none 0 0, .slice none 0 0] at hVg16
          have hB := ext_own hB hGw18 (fun g hg => (hOld19.bl_ge g hg).1)
          refine WL.assign rfl rfl ?_
          refine WL.done ?_
          refine W.seq ?_
          refine W.seq ?_
          refine W.region ?_
          refine WL.move rfl rfl ?_
          refine WL.len Try.underlying35 rfl rfl ?_
          refine WL.move rfl rfl ?_
          refine WL.len Try.underlying35 rfl rfl ?_
          refine WL.neq rfl rfl rfl (fun c20 => ?_) (fun c20 => ?_)
          · refine WL.done ?_
            refine W.condT rfl ?_
            refine W.seq ?_
            refine W.region ?_
            refine WL.move rfl rfl ?_
            refine WL.eql rfl rfl rfl (fun c21 => ?_) (fun c21 => ?_)
            · refine WL.move rfl rfl ?_
              refine WL.take rfl ?_
              refine WL.loadV (cs := [.bool false, .slice none 0 0, .slice none 0 0]) Try.el25 Try.agg25 rfl rfl hVg16.vcells rfl ?_
              refine WL.take rfl ?_
              refine WL.call Try.func17 rfl Try.nm17 rfl rfl (rNil_c) ?_
              rintro _ w22 ⟨rfl, hGw22⟩
              have hB := ext_trans hB hGw22
              refine WL.pick rfl rfl rfl ?_
              refine WL.assign rfl rfl ?_
              refine WL.done ?_
              refine W.ret ?_
              refine ⟨_, rfl, ?_⟩
              exact ⟨rfl, hB⟩
            · exfalso
              omega
          · exfalso
            omega
    · have hlom := hlom_t rfl
      refine WL.pick rfl rfl rfl ?_
      refine WL.done ?_
      refine W.condT rfl ?_
      refine W.seq ?_
      refine W.region ?_
      refine WL.assign rfl rfl ?_
      refine WL.done ?_
      refine W.ret ?_
      refine ⟨_, rfl, ?_⟩
      exact ⟨rfl, hB⟩
  · have hlol := hlol_t rfl
    refine WL.move rfl rfl ?_
    refine WL.pass rfl rfl rfl ?_
    refine WL.pass rfl rfl rfl ?_
    refine WL.pick rfl rfl rfl ?_
    refine WL.done ?_
    refine W.condT rfl ?_
    refine W.seq ?_
    refine W.region ?_
    refine WL.assign rfl rfl ?_
    refine WL.done ?_
    refine W.ret ?_
    refine ⟨_, rfl, ?_⟩
    exact ⟨rfl, hB⟩

theorem RationalDots_ok {w : World} {Bl BNl : Nat} {Al : Option Addr} {ml cl : Nat} {cel : List Value} {rl : List Fr3} (hl : Rd Bl w 3 Al ml cl cel) (hNl : RatsR BNl w cel rl) {Bm BNm : Nat} {Am : Option Addr} {mm cm : Nat} {cem : List Value} {rm : List Fr3} (hm : Rd Bm w 3 Am mm cm cem) (hNm : RatsR BNm w cem rm) (hLl : RLim rl) (hLm : RLim rm) (hKKl : RLen 140737488355328 rl) (hKKm : RLen 140737488355328 rm) (heq : ml = mm) :
    Calls Try.prog 4 #[.slice Al ml cl, .slice Am mm cm] w fun e w2 => ∃ v, e = .returned v ∧ (fun v w2 => v = .bool true ∧ w.grownBy w2 none) v w2 := by
  have hl := hl.norm
  have hNl := hNl.norm
  have hl_n := hl.len
  have hl_nn := hNl.len
  have hl_l : rl.length = ml := by omega
  have hl_x := hl.max
  simp only [maxLen] at hl_x
  have hl_c := hl.cap
  have hl0 := hl
  have hNl0 := hNl
  have hm := hm.norm
  have hNm := hNm.norm
  have hm_n := hm.len
  have hm_nn := hNm.len
  have hm_l : rm.length = mm := by omega
  have hm_x := hm.max
  simp only [maxLen] at hm_x
  have hm_c := hm.cap
  have hm0 := hm
  have hNm0 := hNm
  have hB := ext_refl w
  refine calls_of_W (vs := [.slice Al ml cl, .slice Am mm cm]) [4] Try.func4 rfl rfl rfl rfl ?_
  refine W.seq ?_
  refine W.region ?_
  refine WL.assign rfl rfl ?_
  refine WL.done ?_
  refine W.seq ?_
  refine W.seq ?_
  refine W.region ?_
  refine WL.move rfl rfl ?_
  refine WL.call Try.func6 rfl Try.nm6 rfl rfl (long_c hl hNl rfl hKKl) ?_
  rintro _ w11 ⟨bhlol, rfl, hGw11, hlol_t, hlol_f⟩
  have hB := ext_trans hB hGw11
  have hl := hl0.ext hB
  have hNl := hNl0.ext hB
  have hm := hm0.ext hB
  have hNm := hNm0.ext hB
  rcases bhlol with _ | _
  · have hlol := hlol_f rfl
    have hKl : RLen 4 rl := rlen_of hlol
    refine WL.move rfl rfl ?_
    refine WL.take rfl ?_
    refine WL.move rfl rfl ?_
    refine WL.take rfl ?_
    refine WL.call Try.func6 rfl Try.nm6 rfl rfl (long_c hm hNm rfl hKKm) ?_
    rintro _ w12 ⟨bhlom, rfl, hGw12, hlom_t, hlom_f⟩
    have hB := ext_trans hB hGw12
    have hl := hl0.ext hB
    have hNl := hNl0.ext hB
    have hm := hm0.ext hB
    have hNm := hNm0.ext hB
    rcases bhlom with _ | _
    · have hlom := hlom_f rfl
      have hKm : RLen 4 rm := rlen_of hlom
      refine WL.pick rfl rfl rfl ?_
      refine WL.done ?_
      refine W.condF rfl ?_
      refine W.skip ?_
      refine W.seq ?_
      refine W.seq ?_
      refine W.region ?_
      refine WL.move rfl rfl ?_
      refine WL.len Try.underlying35 rfl rfl ?_
      refine WL.gtr rfl rfl rfl (fun hl16 => ?_) (fun hl16 => ?_)
      · refine WL.move rfl rfl ?_
        refine WL.pass rfl rfl rfl ?_
        refine WL.pass rfl rfl rfl ?_
        refine WL.pass rfl rfl rfl ?_
        refine WL.pick rfl rfl rfl ?_
        refine WL.done ?_
        refine W.condT rfl ?_
        refine W.seq ?_
        refine W.region ?_
        refine WL.assign rfl rfl ?_
        refine WL.done ?_
        refine W.ret ?_
        refine ⟨_, rfl, ?_⟩
        exact ⟨rfl, hB⟩
      · refine WL.move rfl rfl ?_
        refine WL.take rfl ?_
        refine WL.move rfl rfl ?_
        refine WL.take rfl ?_
        refine WL.len Try.underlying35 rfl rfl ?_
        refine WL.take rfl ?_
        refine WL.gtr rfl rfl rfl (fun hm16 => ?_) (fun hm16 => ?_)
        · refine WL.pick rfl rfl rfl ?_
          refine WL.done ?_
          refine W.condT rfl ?_
          refine W.seq ?_
          refine W.region ?_
          refine WL.assign rfl rfl ?_
          refine WL.done ?_
          refine W.ret ?_
          refine ⟨_, rfl, ?_⟩
          exact ⟨rfl, hB⟩
        · refine WL.pick rfl rfl rfl ?_
          refine WL.done ?_
          refine W.condF rfl ?_
          refine W.skip ?_
          refine W.seq ?_
          refine W.region ?_
          refine WL.move rfl rfl ?_
          refine WL.move rfl rfl ?_
          refine WL.call Try.func16 rfl Try.nm16 rfl rfl (qDot_ok hl hNl hm hNm hLl hLm hKl hKm (by omega) (by omega)) ?_
          rintro _ w15 ⟨A16, m17, c18, A19, m20, c21, rfl, hGw15, d1n, d1d, d1m⟩
          have d1n := d1n.low (b' := w.heap.size) hB.size
          have d1d := d1d.low (b' := w.heap.size) hB.size
          have hB := ext_trans hB hGw15
          have hl := hl0.ext hB
          have hNl := hNl0.ext hB
          have hm := hm0.ext hB
          have hNm := hNm0.ext hB
          have d1n_l := d1n.rd.ulen
          have d1d_l := d1d.rd.ulen
          refine WL.move rfl rfl ?_
          refine WL.extract rfl rfl rfl ?_
          refine WL.extract rfl rfl rfl ?_
          refine WL.alloc Try.el25 rfl ?_
          intro g22 w23 hg_g22 hVg22 hGw23
          change Own _ _ _ _ _ _ _ [.bool false, .slice none 0 0, .slice none 0 0] at hVg22
          have hap_d1n_g22 := ap_old d1n hg_g22
          have hap_d1d_g22 := ap_old d1d hg_g22
          have hVg22 := hVg22.low (b' := w.heap.size) hB.size
          have hB := ext_trans hB hGw23
          have hl := hl0.ext hB
          have hNl := hNl0.ext hB
          have hm := hm0.ext hB
          have hNm := hNm0.ext hB
          have d1n := d1n.ext hGw23
          have d1d := d1d.ext hGw23
          refine WL.storeV Try.el25 rfl rfl rfl rfl hVg22 ?_
          have hOld25 := hVg22
          intro w24 hVg22 hGw24
          change Own _ _ _ _ _ _ _ [.bool (qneg (dsum rl rm ml)), .slice A16 m17 c18, .slice A19 m20 c21] at hVg22
          have hB := ext_own hB hGw24 (fun g hg => (hOld25.bl_ge g hg).1)
          have hl := hl0.ext hB
          have hNl := hNl0.ext hB
          have hm := hm0.ext hB
          have hNm := hNm0.ext hB
          have d1n := d1n.grown hGw24 (ap_row hap_d1n_g22)
          have d1d := d1d.grown hGw24 (ap_row hap_d1d_g22)
          refine WL.assign rfl rfl ?_
          refine WL.done ?_
          refine W.seq ?_
          refine W.seq ?_
          refine W.region ?_
          refine WL.move rfl rfl ?_
          refine WL.len Try.underlying35 rfl rfl ?_
          refine WL.move rfl rfl ?_
          refine WL.len Try.underlying35 rfl rfl ?_
          refine WL.neq rfl rfl rfl (fun c26 => ?_) (fun c26 => ?_)
          · exfalso
            omega
          · refine WL.done ?_
            refine W.condF rfl ?_
            refine W.skip ?_
            refine W.seq ?_
            refine W.drawT 7 [⟨[], [6], true⟩, ⟨[0], [], true⟩, ⟨[1], [], true⟩, ⟨[2], [5], false⟩, ⟨[2], [0], true⟩, ⟨[2], [1], true⟩, ⟨[2, 4, 5], [], false⟩] [[(6, .int .i64 (0 : Int))], [], [], [(5, .pointer (some ⟨g22, 0, none⟩))], [(0, .slice Al ml cl)], [(1, .slice Am mm cm)], []] (fun iQ => [fun v wQ => v = .int .i64 (0 : Int), fun v wQ => v = .bool true, fun v wQ => v = .bool true, fun v wQ => v = .agg #[.bool (qneg (dsum rl rm ml)), .slice A16 m17 c18, .slice A19 m20 c21], fun v wQ => v = .slice Al ml cl, fun v wQ => v = .slice Am mm cm, fun v wQ => ∃ A35 m36 c37 A38 m39 c40, v = .agg #[.bool (qneg (dsum rl rm ml)), .slice A35 m36 c37, .slice A38 m39 c40] ∧ (Own w.heap.size wQ 48 1 A35 m36 c37 (us (digs (qnum (dsum rl rm ml))))) ∧ (Own w.heap.size wQ 48 1 A38 m39 c40 (us (digs (Rat.den (dsum rl rm ml))))) ∧ (m36 ≤ 259 ∧ m39 ≤ 259) ∧ (∀ k, bl A35 = some k → k ≠ g22) ∧ (∀ k, bl A38 = some k → k ≠ g22)].getD iQ (fun _ _ => True)) Try.mixed (by kernel_rfl) ?_ ?_ ?_
            · refine Vs_monoT _ ?_
              intro VQ hVQ vQ wQ1 wQ2 hQ1 hQ2
              simp only [List.mem_cons, List.not_mem_nil, or_false] at hVQ
              rcases hVQ with rfl | rfl | rfl | rfl | rfl | rfl | rfl
              · exact hQ1
              · exact hQ1
              · exact hQ1
              · exact hQ1
              · exact hQ1
              · exact hQ1
              · obtain ⟨A35, m36, c37, A38, m39, c40, hQe, d2n, d2d, d2m, hap_d2n_g22, hap_d2d_g22⟩ := hQ1
                exact ⟨A35, m36, c37, A38, m39, c40, hQe, d2n.ext hQ2, d2d.ext hQ2, d2m, hap_d2n_g22, hap_d2d_g22⟩
            · refine ⟨⟨rfl, ⟨rfl, trivial⟩, ?_⟩, ⟨rfl, trivial, ?_⟩, ⟨rfl, trivial, ?_⟩, ⟨rfl, ⟨rfl, trivial⟩, ?_⟩, ⟨rfl, ⟨rfl, trivial⟩, ?_⟩, ⟨rfl, ⟨rfl, trivial⟩, ?_⟩, ⟨rfl, trivial, ?_⟩, trivial⟩
              · intro w27 hE
                intro R
                refine WL.move rfl rfl ?_
                exact WL.done ⟨_, rfl, rfl, rfl⟩
              · intro w28 hE
                rintro _ rfl
                intro R
                refine WL.eqlD rfl rfl rfl ?_
                exact WL.done ⟨_, rfl, rfl, rfl⟩
              · intro w29 hE
                rintro _ rfl
                intro R
                refine WL.move rfl rfl ?_
                exact WL.done ⟨_, rfl, rfl, rfl⟩
              · intro w30 hE
                have hE := hE rfl
                have hB := ext_trans hB hE
                have hVg22 := hVg22.ext hE
                rintro _ rfl
                intro R
                refine WL.take rfl ?_
                refine WL.loadV (cs := [.bool (qneg (dsum rl rm ml)), .slice A16 m17 c18, .slice A19 m20 c21]) Try.el25 Try.agg25 rfl rfl hVg22.vcells rfl ?_
                exact WL.done ⟨_, rfl, ext_refl _, rfl⟩
              · intro w31 hE
                rintro _ rfl
                intro R
                refine WL.take rfl ?_
                refine WL.move rfl rfl ?_
                exact WL.done ⟨_, rfl, rfl, rfl⟩
              · intro w32 hE
                rintro _ rfl
                intro R
                refine WL.take rfl ?_
                refine WL.move rfl rfl ?_
                exact WL.done ⟨_, rfl, rfl, rfl⟩
              · intro w33 hE
                have hE := hE rfl
                have hB := ext_trans hB hE
                have hl := hl0.ext hB
                have hNl := hNl0.ext hB
                have hm := hm0.ext hB
                have hNm := hNm0.ext hB
                have hVg22 := hVg22.ext hE
                rintro _ rfl
                rintro _ rfl
                rintro _ rfl
                intro R
                refine WL.take rfl ?_
                refine WL.call Try.func18 rfl Try.nm18 rfl rfl (rqDot_c hl hNl hm hNm hLl hLm hKl hKm (by omega) (by omega)) ?_
                rintro _ w34 ⟨A35, m36, c37, A38, m39, c40, rfl, hGw34, d2n, d2d, d2m⟩
                have hap_d2n_g22 := ap_new d2n (hVg22.bl_ge _ rfl).2
                have hap_d2d_g22 := ap_new d2d (hVg22.bl_ge _ rfl).2
                have d2n := d2n.low (b' := w.heap.size) hB.size
                have d2d := d2d.low (b' := w.heap.size) hB.size
                have hB := ext_trans hB hGw34
                have d2n_l := d2n.rd.ulen
                have d2d_l := d2d.rd.ulen
                exact WL.done ⟨_, rfl, hGw34, ⟨A35, m36, c37, A38, m39, c40, rfl, d2n, d2d, d2m, hap_d2n_g22, hap_d2d_g22⟩⟩
            · intro vals w41 hT hVs
              have hB := ext_trans hB hT
              have d1n := d1n.ext hT
              have d1d := d1d.ext hT
              have hv0 : vals 0 = _ := hVs 0 (by decide)
              have hv1 : vals 1 = _ := hVs 1 (by decide)
              have hv2 : vals 2 = _ := hVs 2 (by decide)
              have hv3 : vals 3 = _ := hVs 3 (by decide)
              have hv4 : vals 4 = _ := hVs 4 (by decide)
              have hv5 : vals 5 = _ := hVs 5 (by decide)
              obtain ⟨A35, m36, c37, A38, m39, c40, hv6, d2n, d2d, d2m, hap_d2n_g22, hap_d2d_g22⟩ := hVs 6 (by decide)
              rw [show (List.filterMap (fun i => Option.map (fun t => (t, vals i)) (dstAt _ i)) (List.range _)) = [(38, .int .i64 (0 : Int)), (39, .bool true), (40, .bool true), (41, .agg #[.bool (qneg (dsum rl rm ml)), .slice A16 m17 c18, .slice A19 m20 c21]), (42, .slice Al ml cl), (43, .slice Am mm cm), (44, .agg #[.bool (qneg (dsum rl rm ml)), .slice A35 m36 c37, .slice A38 m39 c40])] from by
                show [(38, vals 0), (39, vals 1), (40, vals 2), (41, vals 3), (42, vals 4), (43, vals 5), (44, vals 6)] = _
                rw [hv0, hv1, hv2, hv3, hv4, hv5, hv6]]
              refine WA.step [7] (by decide +kernel) rfl ?_
              intro iQ hQ
              simp only [List.mem_cons, List.not_mem_nil, or_false] at hQ
              obtain rfl := hQ
              · refine ⟨_, rfl, ?_⟩
                refine WL.take rfl ?_
                refine WL.call Try.func11 rfl Try.nm11 rfl rfl (qsame_t d1n.rd d1d.rd d2n.rd d2d.rd ⟨rfl, rfl, rfl⟩) ?_
                rintro _ w42 ⟨rfl, hGw42⟩
                have hB := ext_trans hB hGw42
                refine WL.done ?_
                refine WA.step [8] (by decide +kernel) rfl ?_
                intro iQ hQ
                simp only [List.mem_cons, List.not_mem_nil, or_false] at hQ
                obtain rfl := hQ
                · refine ⟨_, rfl, ?_⟩
                  refine WL.pick rfl rfl rfl ?_
                  refine WL.done ?_
                  refine WA.step [9] (by decide +kernel) rfl ?_
                  intro iQ hQ
                  simp only [List.mem_cons, List.not_mem_nil, or_false] at hQ
                  obtain rfl := hQ
                  · refine ⟨_, rfl, ?_⟩
                    refine WL.assign rfl rfl ?_
                    refine WL.done ?_
                    refine WA.done (by decide +kernel) ?_
                    refine W.ret ?_
                    refine ⟨_, rfl, ?_⟩
                    exact ⟨rfl, hB⟩
    · have hlom := hlom_t rfl
      refine WL.pick rfl rfl rfl ?_
      refine WL.done ?_
      refine W.condT rfl ?_
      refine W.seq ?_
      refine W.region ?_
      refine WL.assign rfl rfl ?_
      refine WL.done ?_
      refine W.ret ?_
      refine ⟨_, rfl, ?_⟩
      exact ⟨rfl, hB⟩
  · have hlol := hlol_t rfl
    refine WL.move rfl rfl ?_
    refine WL.pass rfl rfl rfl ?_
    refine WL.pass rfl rfl rfl ?_
    refine WL.pick rfl rfl rfl ?_
    refine WL.done ?_
    refine W.condT rfl ?_
    refine W.seq ?_
    refine W.region ?_
    refine WL.assign rfl rfl ?_
    refine WL.done ?_
    refine W.ret ?_
    refine ⟨_, rfl, ?_⟩
    exact ⟨rfl, hB⟩

theorem RationalDots_c {w : World} {Bl BNl : Nat} {Al : Option Addr} {ml cl : Nat} {cel : List Value} {rl : List Fr3} (hl : Rd Bl w 3 Al ml cl cel) (hNl : RatsR BNl w cel rl) {Bm BNm : Nat} {Am : Option Addr} {mm cm : Nat} {cem : List Value} {rm : List Fr3} (hm : Rd Bm w 3 Am mm cm cem) (hNm : RatsR BNm w cem rm) (hLl : RLim rl) (hLm : RLim rm) (hKKl : RLen 140737488355328 rl) (hKKm : RLen 140737488355328 rm) : Calls Try.prog 4 #[.slice Al ml cl, .slice Am mm cm] w fun e w2 => ∃ v, e = .returned v ∧ (fun v w2 => v = .bool true ∧ w.grownBy w2 none) v w2 := by
  by_cases h : ml = mm
  · exact RationalDots_ok hl hNl hm hNm hLl hLm hKKl hKKm h
  · exact RationalDots_ne hl hNl hm hNm hLl hLm hKKl hKKm h
end Go.Proofs.Ythfpcebcfjlkmac
