/- Contracts of functions of the program, and what they lean on. -/
import Derived.Test.YthfpcebcfjlkmabW20
set_option linter.unusedSimpArgs false
set_option linter.unusedVariables false
namespace Go.Proofs.Ythfpcebcfjlkmab
open Go.RowKit
theorem fold_sum_z {w : World} {Bl BNl : Nat} {Al : Option Addr} {ml cl : Nat} {cel : List Value} {rl : List Fr3} (hl : Rd Bl w 3 Al ml cl cel) (hNl : RatsR BNl w cel rl) {ne : Bool} {An Ad : Option Addr} {mn cn md cd : Nat} (hm : ml = 0) :
    Calls Try.prog 64 #[.slice Al ml cl, .agg #[.bool ne, .slice An mn cn, .slice Ad md cd], .func (.func 65) #[] #[]] w fun e w2 => ∃ v, e = .returned v ∧ (fun v w2 => v = .agg #[.bool ne, .slice An mn cn, .slice Ad md cd] ∧ w.grownBy w2 none) v w2 := by
  have hl := hl.norm
  have hNl := hNl.norm
  have hl_n := hl.len
  have hl_nn := hNl.len
  have hl_l : rl.length = ml := by omega
  have hl_x := hl.max
  simp only [maxLen] at hl_x
  have hl_c := hl.cap
  have hl0 := hl
  have hNl0 := hNl
  have hB := ext_refl w
  refine calls_of_Wc (vs := [.slice Al ml cl, .agg #[.bool ne, .slice An mn cn, .slice Ad md cd], .func (.func 65) #[] #[]]) [.cell 6 31] Try.func64 rfl rfl rfl rfl ?_
  refine W.seq ?_
  refine W.region ?_
  refine WL.box Try.el31 rfl rfl rfl ?_
  intro g11 w12 hg_g11 hVg11 hGw12
  change Own _ _ _ _ _ _ _ [.bool ne, .slice An mn cn, .slice Ad md cd] at hVg11
  have hVg11 := hVg11.low (b' := w.heap.size) hB.size
  have hB := ext_trans hB hGw12
  refine WL.alloc Try.el31 rfl ?_
  intro g13 w14 hg_g13 hVg13 hGw14
  change Own _ _ _ _ _ _ _ [.bool false, .slice none 0 0, .slice none 0 0] at hVg13
  have hlt_g11_g13 : g11 < g13 := by rw [hg_g13]; exact (hVg11.bl_ge _ rfl).2
  have hVg13 := hVg13.low (b' := w.heap.size) hB.size
  have hB := ext_trans hB hGw14
  have hVg11 := hVg11.ext hGw14
  refine WL.done ?_
  refine W.seq ?_
  refine W.seq ?_
  refine W.region ?_
  refine WL.move rfl rfl ?_
  refine WL.len Try.underlying44 rfl rfl ?_
  refine WL.eql rfl rfl rfl (fun c15 => ?_) (fun c15 => ?_)
  · refine WL.done ?_
    refine W.condT rfl ?_
    refine W.seq ?_
    refine W.region ?_
    refine WL.loadV (cs := [.bool ne, .slice An mn cn, .slice Ad md cd]) Try.el31 Try.agg31 rfl rfl hVg11.vcells rfl ?_
    refine WL.storeV Try.el31 rfl rfl rfl rfl hVg13 ?_
    have hOld17 := hVg13
    intro w16 hVg13 hGw16
    change Own _ _ _ _ _ _ _ [.bool ne, .slice An mn cn, .slice Ad md cd] at hVg13
    have hB := ext_own hB hGw16 (fun g hg => (hOld17.bl_ge g hg).1)
    refine WL.done ?_
    refine W.ret ?_
    refine ⟨[.agg #[.bool ne, .slice An mn cn, .slice Ad md cd]], ⟨_, _, _, rfl, rfl, run_loadV (cs := [.bool ne, .slice An mn cn, .slice Ad md cd]) Try.el31 Try.agg31 rfl hVg13.vcells, rfl⟩, ?_⟩
    exact ⟨rfl, hB⟩
  · exfalso
    omega

theorem fold_sum {w : World} {Bl BNl : Nat} {Al : Option Addr} {ml cl : Nat} {cel : List Value} {rl : List Fr3} (hl : Rd Bl w 3 Al ml cl cel) (hNl : RatsR BNl w cel rl) (hLl : RLim rl) {ne : Bool} {An Ad : Option Addr} {mn cn md cd : Nat} (K : Nat) (hK : RLen K rl) (hfb : fb K ml ≤ 4194304) (hm : 0 < ml) :
    Calls Try.prog 64 #[.slice Al ml cl, .agg #[.bool ne, .slice An mn cn, .slice Ad md cd], .func (.func 65) #[] #[]] w fun e w2 => ∃ v, e = .returned v ∧ (fun v w2 => ∃ A2 m2 c2 A3 m3 c3, v = .agg #[.bool (qneg (qsum rl)), .slice A2 m2 c2, .slice A3 m3 c3] ∧ w.grownBy w2 none ∧ Own w.heap.size w2 43 1 A2 m2 c2 (us (digs (qnum (qsum rl)))) ∧ Own w.heap.size w2 43 1 A3 m3 c3 (us (digs (Rat.den (qsum rl)))) ∧ m2 ≤ fb K ml ∧ m3 ≤ fb K ml) v w2 := by
  have hl := hl.norm
  have hNl := hNl.norm
  have hl_n := hl.len
  have hl_nn := hNl.len
  have hl_l : rl.length = ml := by omega
  have hl_x := hl.max
  simp only [maxLen] at hl_x
  have hl_c := hl.cap
  have hl0 := hl
  have hNl0 := hNl
  have hf0 := fb_zero K
  have hfm := fb_mono (K := K) (Nat.zero_le rl.length)
  have hfb2 := hfb
  rw [← hl_l] at hfb2
  have hdl : (rl.drop 2).length = ml - 2 := by simp; omega
  have hB := ext_refl w
  refine calls_of_Wc (vs := [.slice Al ml cl, .agg #[.bool ne, .slice An mn cn, .slice Ad md cd], .func (.func 65) #[] #[]]) [.cell 6 31] Try.func64 rfl rfl rfl rfl ?_
  refine W.seq ?_
  refine W.region ?_
  refine WL.box Try.el31 rfl rfl rfl ?_
  intro ge w11 hg_ge hVge hGw11
  change Own _ _ _ _ _ _ _ [.bool ne, .slice An mn cn, .slice Ad md cd] at hVge
  have hVge := hVge.low (b' := w.heap.size) hB.size
  have hB := ext_trans hB hGw11
  have hl := hl0.ext hB
  have hNl := hNl0.ext hB
  refine WL.alloc Try.el31 rfl ?_
  intro go w12 hg_go hVgo hGw12
  change Own _ _ _ _ _ _ _ [.bool false, .slice none 0 0, .slice none 0 0] at hVgo
  have hlt_ge_go : ge < go := by rw [hg_go]; exact (hVge.bl_ge _ rfl).2
  have hVgo := hVgo.low (b' := w.heap.size) hB.size
  have hB := ext_trans hB hGw12
  have hl := hl0.ext hB
  have hNl := hNl0.ext hB
  have hVge := hVge.ext hGw12
  refine WL.done ?_
  refine W.seq ?_
  refine W.seq ?_
  refine W.region ?_
  refine WL.move rfl rfl ?_
  refine WL.len Try.underlying44 rfl rfl ?_
  refine WL.eql rfl rfl rfl (fun hm0 => ?_) (fun hm0 => ?_)
  · exfalso
    omega
  · refine WL.done ?_
    refine W.condF rfl ?_
    refine W.skip ?_
    refine W.seq ?_
    refine W.seq ?_
    refine W.region ?_
    refine WL.move rfl rfl ?_
    refine WL.len Try.underlying44 rfl rfl ?_
    refine WL.eql rfl rfl rfl (fun hm1 => ?_) (fun hm1 => ?_)
    · refine WL.done ?_
      refine W.condT rfl ?_
      refine W.seq ?_
      have hk0 := hK 0 (by omega); have hu0 := (hNl0.rd1 0 (by omega)).ulen; have hu1 := (hNl0.rd2 0 (by omega)).ulen
      · refine W.region ?_
        refine WL.move rfl rfl ?_
        refine WL.index (0) Try.underlying44 Try.el31 rfl rfl (by omega) (by omega) hl rfl ?_
        refine WL.loadV (cs := [.bool (rl.getD 0 fr0).1, .slice (sA (cel.getD (0 * 3 + 1) undef)) (sM (cel.getD (0 * 3 + 1) undef)) (sC (cel.getD (0 * 3 + 1) undef)), .slice (sA (cel.getD (0 * 3 + 2) undef)) (sM (cel.getD (0 * 3 + 2) undef)) (sC (cel.getD (0 * 3 + 2) undef))]) Try.el31 Try.agg31 rfl rfl (hNl.load hl 0 (by omega)) rfl ?_
        refine WL.call Try.func19 rfl Try.nm19 rfl rfl (qTrim_c (hNl.rd1 0 (by omega)) (hNl.rd2 0 (by omega)) (hLl 0 (by omega)).1 (hLl 0 (by omega)).2 (qv (rl.getD 0 fr0)) rfl (by omega)) ?_
        rintro _ w15 ⟨A16, m17, c18, A19, m20, c21, rfl, hGw15, hrn, hrd, hrm⟩
        have hap_hrn_go := ap_new hrn (hVgo.bl_ge _ rfl).2
        have hap_hrd_go := ap_new hrd (hVgo.bl_ge _ rfl).2
        have hrn := hrn.low (b' := w.heap.size) hB.size
        have hrd := hrd.low (b' := w.heap.size) hB.size
        have hB := ext_trans hB hGw15
        have hVgo := hVgo.ext hGw15
        have hrn_l := hrn.rd.ulen
        have hrd_l := hrd.rd.ulen
        refine WL.storeV Try.el31 rfl rfl rfl rfl hVgo ?_
        have hOld23 := hVgo
        intro w22 hVgo hGw22
        change Own _ _ _ _ _ _ _ [.bool (qneg ((qv (rl.getD 0 fr0)))), .slice A16 m17 c18, .slice A19 m20 c21] at hVgo
        have hB := ext_own hB hGw22 (fun g hg => (hOld23.bl_ge g hg).1)
        have hrn := hrn.grown hGw22 (ap_row hap_hrn_go)
        have hrd := hrd.grown hGw22 (ap_row hap_hrd_go)
        refine WL.done ?_
        refine W.ret ?_
        refine ⟨[.agg #[.bool (qneg ((qv (rl.getD 0 fr0)))), .slice A16 m17 c18, .slice A19 m20 c21]], ⟨_, _, _, rfl, rfl, run_loadV (cs := [.bool (qneg ((qv (rl.getD 0 fr0)))), .slice A16 m17 c18, .slice A19 m20 c21]) Try.el31 Try.agg31 rfl hVgo.vcells, rfl⟩, ?_⟩
        have e1 := qsum_one (rs := rl) (by omega)
        rw [e1]
        rw [hl_l] at hfm
        exact ⟨_, _, _, _, _, _, rfl, hB, hrn, hrd, by omega⟩
    · refine WL.done ?_
      refine W.condF rfl ?_
      refine W.skip ?_
      refine W.seq ?_
      have hk0 := hK 0 (by omega); have hk1 := hK 1 (by omega); have hu0 := (hNl0.rd1 0 (by omega)).ulen; have hu1 := (hNl0.rd2 0 (by omega)).ulen; have hu2 := (hNl0.rd1 1 (by omega)).ulen; have hu3 := (hNl0.rd2 1 (by omega)).ulen
      · refine W.drawT 9 [⟨[], [2], true⟩, ⟨[], [0], true⟩, ⟨[1], [], true⟩, ⟨[2], [], false⟩, ⟨[], [0], true⟩, ⟨[4], [], true⟩, ⟨[5], [], false⟩, ⟨[0, 3, 6], [], false⟩, ⟨[], [], false⟩] [[(2, .func (.func 65) #[] #[])], [(0, .slice Al ml cl)], [], [], [(0, .slice Al ml cl)], [], [], [], []] (fun iQ => [fun v wQ => v = .func (.func 65) #[] #[], fun v wQ => v = .slice Al ml cl, fun v wQ => v = .pointer (some ((adOf Al).add (0 * 3))), fun v wQ => v = .agg #[.bool (rl.getD 0 fr0).1, .slice (sA (cel.getD (0 * 3 + 1) undef)) (sM (cel.getD (0 * 3 + 1) undef)) (sC (cel.getD (0 * 3 + 1) undef)), .slice (sA (cel.getD (0 * 3 + 2) undef)) (sM (cel.getD (0 * 3 + 2) undef)) (sC (cel.getD (0 * 3 + 2) undef))], fun v wQ => v = .slice Al ml cl, fun v wQ => v = .pointer (some ((adOf Al).add (1 * 3))), fun v wQ => v = .agg #[.bool (rl.getD 1 fr0).1, .slice (sA (cel.getD (1 * 3 + 1) undef)) (sM (cel.getD (1 * 3 + 1) undef)) (sC (cel.getD (1 * 3 + 1) undef)), .slice (sA (cel.getD (1 * 3 + 2) undef)) (sM (cel.getD (1 * 3 + 2) undef)) (sC (cel.getD (1 * 3 + 2) undef))], fun v wQ => ∃ A33 m34 c35 A36 m37 c38, v = .agg #[.bool (qneg ((qv (rl.getD 0 fr0)) + (qv (rl.getD 1 fr0)))), .slice A33 m34 c35, .slice A36 m37 c38] ∧ (Own w.heap.size wQ 43 1 A33 m34 c35 (us (digs (qnum ((qv (rl.getD 0 fr0)) + (qv (rl.getD 1 fr0))))))) ∧ (Own w.heap.size wQ 43 1 A36 m37 c38 (us (digs (Rat.den ((qv (rl.getD 0 fr0)) + (qv (rl.getD 1 fr0))))))) ∧ (m34 ≤ max ((sM (cel.getD (0 * 3 + 1) undef)) + (sM (cel.getD (1 * 3 + 2) undef))) ((sM (cel.getD (1 * 3 + 1) undef)) + (sM (cel.getD (0 * 3 + 2) undef))) + 1 ∧ m37 ≤ (sM (cel.getD (0 * 3 + 2) undef)) + (sM (cel.getD (1 * 3 + 2) undef)) + 1) ∧ (∀ k, bl A33 = some k → k ≠ ge) ∧ (∀ k, bl A33 = some k → k ≠ go) ∧ (∀ k, bl A36 = some k → k ≠ ge) ∧ (∀ k, bl A36 = some k → k ≠ go), fun v wQ => ∃ gj, v = .pointer (some ⟨gj, 0, none⟩) ∧ (Own w.heap.size wQ 31 3 (some ⟨gj, 0, none⟩) 1 1 [.bool false, .slice none 0 0, .slice none 0 0]) ∧ (ge < gj) ∧ (go < gj)].getD iQ (fun _ _ => True)) Try.mixed (by kernel_rfl) ?_ ?_ ?_
        · refine Vs_monoT _ ?_
          intro VQ hVQ vQ wQ1 wQ2 hQ1 hQ2
          simp only [List.mem_cons, List.not_mem_nil, or_false] at hVQ
          rcases hVQ with rfl | rfl | rfl | rfl | rfl | rfl | rfl | rfl | rfl
          · exact hQ1
          · exact hQ1
          · exact hQ1
          · exact hQ1
          · exact hQ1
          · exact hQ1
          · exact hQ1
          · obtain ⟨A33, m34, c35, A36, m37, c38, hQe, hjn, hjd, hjm, hap_hjn_ge, hap_hjn_go, hap_hjd_ge, hap_hjd_go⟩ := hQ1
            exact ⟨A33, m34, c35, A36, m37, c38, hQe, hjn.ext hQ2, hjd.ext hQ2, hjm, hap_hjn_ge, hap_hjn_go, hap_hjd_ge, hap_hjd_go⟩
          · obtain ⟨gj, hQe, hVgj, hlt_ge_gj, hlt_go_gj⟩ := hQ1
            exact ⟨gj, hQe, hVgj.ext hQ2, hlt_ge_gj, hlt_go_gj⟩
        · refine ⟨⟨rfl, ⟨rfl, trivial⟩, ?_⟩, ⟨rfl, ⟨rfl, trivial⟩, ?_⟩, ⟨rfl, trivial, ?_⟩, ⟨rfl, trivial, ?_⟩, ⟨rfl, ⟨rfl, trivial⟩, ?_⟩, ⟨rfl, trivial, ?_⟩, ⟨rfl, trivial, ?_⟩, ⟨rfl, trivial, ?_⟩, ⟨rfl, trivial, ?_⟩, trivial⟩
          · intro w24 hE
            intro R
            refine WL.move rfl rfl ?_
            exact WL.done ⟨_, rfl, rfl, rfl⟩
          · intro w25 hE
            intro R
            refine WL.move rfl rfl ?_
            exact WL.done ⟨_, rfl, rfl, rfl⟩
          · intro w26 hE
            rintro _ rfl
            intro R
            refine WL.index (0) Try.underlying44 Try.el31 rfl rfl (by omega) (by omega) hl rfl ?_
            exact WL.done ⟨_, rfl, rfl, rfl⟩
          · intro w27 hE
            have hE := hE rfl
            have hB := ext_trans hB hE
            have hl := hl0.ext hB
            have hNl := hNl0.ext hB
            rintro _ rfl
            intro R
            refine WL.loadV (cs := [.bool (rl.getD 0 fr0).1, .slice (sA (cel.getD (0 * 3 + 1) undef)) (sM (cel.getD (0 * 3 + 1) undef)) (sC (cel.getD (0 * 3 + 1) undef)), .slice (sA (cel.getD (0 * 3 + 2) undef)) (sM (cel.getD (0 * 3 + 2) undef)) (sC (cel.getD (0 * 3 + 2) undef))]) Try.el31 Try.agg31 rfl rfl (hNl.load hl 0 (by omega)) rfl ?_
            exact WL.done ⟨_, rfl, ext_refl _, rfl⟩
          · intro w28 hE
            intro R
            refine WL.move rfl rfl ?_
            exact WL.done ⟨_, rfl, rfl, rfl⟩
          · intro w29 hE
            rintro _ rfl
            intro R
            refine WL.index (1) Try.underlying44 Try.el31 rfl rfl (by omega) (by omega) hl rfl ?_
            exact WL.done ⟨_, rfl, rfl, rfl⟩
          · intro w30 hE
            have hE := hE rfl
            have hB := ext_trans hB hE
            have hl := hl0.ext hB
            have hNl := hNl0.ext hB
            rintro _ rfl
            intro R
            refine WL.loadV (cs := [.bool (rl.getD 1 fr0).1, .slice (sA (cel.getD (1 * 3 + 1) undef)) (sM (cel.getD (1 * 3 + 1) undef)) (sC (cel.getD (1 * 3 + 1) undef)), .slice (sA (cel.getD (1 * 3 + 2) undef)) (sM (cel.getD (1 * 3 + 2) undef)) (sC (cel.getD (1 * 3 + 2) undef))]) Try.el31 Try.agg31 rfl rfl (hNl.load hl 1 (by omega)) rfl ?_
            exact WL.done ⟨_, rfl, ext_refl _, rfl⟩
          · intro w31 hE
            have hE := hE rfl
            have hB := ext_trans hB hE
            have hNl := hNl0.ext hB
            have hVge := hVge.ext hE
            have hVgo := hVgo.ext hE
            rintro _ rfl
            rintro _ rfl
            rintro _ rfl
            intro R
            refine WL.callv rfl Try.func65 rfl Try.nm65 rfl rfl (sum_c (hNl.rd1 0 (by omega)) (hNl.rd2 0 (by omega)) (hNl.rd1 1 (by omega)) (hNl.rd2 1 (by omega)) (hLl 0 (by omega)).1 (hLl 0 (by omega)).2 (qv (rl.getD 0 fr0)) rfl (hLl 1 (by omega)).1 (hLl 1 (by omega)).2 (qv (rl.getD 1 fr0)) rfl (by omega) (by omega)) ?_
            rintro _ w32 ⟨A33, m34, c35, A36, m37, c38, rfl, hGw32, hjn, hjd, hjm⟩
            have hap_hjn_ge := ap_new hjn (hVge.bl_ge _ rfl).2
            have hap_hjn_go := ap_new hjn (hVgo.bl_ge _ rfl).2
            have hap_hjd_ge := ap_new hjd (hVge.bl_ge _ rfl).2
            have hap_hjd_go := ap_new hjd (hVgo.bl_ge _ rfl).2
            have hjn := hjn.low (b' := w.heap.size) hB.size
            have hjd := hjd.low (b' := w.heap.size) hB.size
            have hB := ext_trans hB hGw32
            have hjn_l := hjn.rd.ulen
            have hjd_l := hjd.rd.ulen
            exact WL.done ⟨_, rfl, hGw32, ⟨A33, m34, c35, A36, m37, c38, rfl, hjn, hjd, hjm, hap_hjn_ge, hap_hjn_go, hap_hjd_ge, hap_hjd_go⟩⟩
          · intro w39 hE
            have hE := hE rfl
            have hB := ext_trans hB hE
            have hVge := hVge.ext hE
            have hVgo := hVgo.ext hE
            intro R
            refine WL.alloc Try.el31 rfl ?_
            intro gj w40 hg_gj hVgj hGw40
            change Own _ _ _ _ _ _ _ [.bool false, .slice none 0 0, .slice none 0 0] at hVgj
            have hlt_ge_gj : ge < gj := by rw [hg_gj]; exact (hVge.bl_ge _ rfl).2
            have hlt_go_gj : go < gj := by rw [hg_gj]; exact (hVgo.bl_ge _ rfl).2
            have hVgj := hVgj.low (b' := w.heap.size) hB.size
            have hB := ext_trans hB hGw40
            exact WL.done ⟨_, rfl, hGw40, ⟨gj, rfl, hVgj, hlt_ge_gj, hlt_go_gj⟩⟩
        · intro vals w41 hT hVs
          have hB := ext_trans hB hT
          have hl := hl0.ext hB
          have hNl := hNl0.ext hB
          have hVgo := hVgo.ext hT
          have hv0 : vals 0 = _ := hVs 0 (by decide)
          have hv1 : vals 1 = _ := hVs 1 (by decide)
          have hv2 : vals 2 = _ := hVs 2 (by decide)
          have hv3 : vals 3 = _ := hVs 3 (by decide)
          have hv4 : vals 4 = _ := hVs 4 (by decide)
          have hv5 : vals 5 = _ := hVs 5 (by decide)
          have hv6 : vals 6 = _ := hVs 6 (by decide)
          obtain ⟨A33, m34, c35, A36, m37, c38, hv7, hjn, hjd, hjm, hap_hjn_ge, hap_hjn_go, hap_hjd_ge, hap_hjd_go⟩ := hVs 7 (by decide)
          obtain ⟨gj, hv8, hVgj, hlt_ge_gj, hlt_go_gj⟩ := hVs 8 (by decide)
          have hap_hjn_gj := ap_type hjn hVgj (by decide)
          have hap_hjd_gj := ap_type hjd hVgj (by decide)
          rw [show (List.filterMap (fun i => Option.map (fun t => (t, vals i)) (dstAt _ i)) (List.range _)) = [(21, .func (.func 65) #[] #[]), (22, .slice Al ml cl), (23, .pointer (some ((adOf Al).add (0 * 3)))), (24, .agg #[.bool (rl.getD 0 fr0).1, .slice (sA (cel.getD (0 * 3 + 1) undef)) (sM (cel.getD (0 * 3 + 1) undef)) (sC (cel.getD (0 * 3 + 1) undef)), .slice (sA (cel.getD (0 * 3 + 2) undef)) (sM (cel.getD (0 * 3 + 2) undef)) (sC (cel.getD (0 * 3 + 2) undef))]), (25, .slice Al ml cl), (26, .pointer (some ((adOf Al).add (1 * 3)))), (27, .agg #[.bool (rl.getD 1 fr0).1, .slice (sA (cel.getD (1 * 3 + 1) undef)) (sM (cel.getD (1 * 3 + 1) undef)) (sC (cel.getD (1 * 3 + 1) undef)), .slice (sA (cel.getD (1 * 3 + 2) undef)) (sM (cel.getD (1 * 3 + 2) undef)) (sC (cel.getD (1 * 3 + 2) undef))]), (28, .agg #[.bool (qneg ((qv (rl.getD 0 fr0)) + (qv (rl.getD 1 fr0)))), .slice A33 m34 c35, .slice A36 m37 c38]), (7, .pointer (some ⟨gj, 0, none⟩))] from by
            show [(21, vals 0), (22, vals 1), (23, vals 2), (24, vals 3), (25, vals 4), (26, vals 5), (27, vals 6), (28, vals 7), (7, vals 8)] = _
            rw [hv0, hv1, hv2, hv3, hv4, hv5, hv6, hv7, hv8]]
          refine WA.step [9] (by decide +kernel) rfl ?_
          intro iQ hQ
          simp only [List.mem_cons, List.not_mem_nil, or_false] at hQ
          obtain rfl := hQ
          · refine ⟨_, rfl, ?_⟩
            refine WL.storeV Try.el31 rfl rfl rfl rfl hVgj ?_
            have hOld43 := hVgj
            intro w42 hVgj hGw42
            change Own _ _ _ _ _ _ _ [.bool (qneg ((qv (rl.getD 0 fr0)) + (qv (rl.getD 1 fr0)))), .slice A33 m34 c35, .slice A36 m37 c38] at hVgj
            have hB := ext_own hB hGw42 (fun g hg => (hOld43.bl_ge g hg).1)
            have hl := hl0.ext hB
            have hNl := hNl0.ext hB
            have hVgo := hVgo.grown hGw42 (apart (by omega))
            have hjn := hjn.grown hGw42 (ap_row hap_hjn_gj)
            have hjd := hjd.grown hGw42 (ap_row hap_hjd_gj)
            refine WL.done ?_
            refine WA.done (by decide +kernel) ?_
            refine W.seq ?_
            refine W.seq ?_
            refine W.region ?_
            refine WL.move rfl rfl ?_
            refine WL.slFrom (2) Try.underlying44 Try.el31 rfl rfl (by omega) (by omega) rfl ?_
            refine WL.len Try.underlying44 rfl rfl ?_
            refine WL.move rfl rfl ?_
            refine WL.done ?_
            refine W.block ?_
            refine W.loop (σ := Nat × Option Addr × Nat × Nat × Option Addr × Nat × Nat × Nat) (fun s w1 => match s with | (j, Aj, mj, cj, Ak, mk, ck, gx) => w.grownBy w1 none ∧ j ≤ ml - 2 ∧ Own w.heap.size w1 43 1 Aj mj cj (us (digs (qnum (qv (rl.getD 0 fr0) + qv (rl.getD 1 fr0) + qsum ((rl.drop 2).take j))))) ∧ Own w.heap.size w1 43 1 Ak mk ck (us (digs (Rat.den (qv (rl.getD 0 fr0) + qv (rl.getD 1 fr0) + qsum ((rl.drop 2).take j))))) ∧ mj ≤ fb K j ∧ mk ≤ fb K j ∧ gx = 0 ∧ Own w.heap.size w1 31 3 (some ⟨gj, 0, none⟩) 1 1 [.bool (qneg (qv (rl.getD 0 fr0) + qv (rl.getD 1 fr0) + qsum ((rl.drop 2).take j))), .slice Aj mj cj, .slice Ak mk ck] ∧ Own w.heap.size w1 31 3 (some ⟨go, 0, none⟩) 1 1 [.bool false, .slice none 0 0, .slice none 0 0]) (fun s => match s with | (j, Aj, mj, cj, Ak, mk, ck, gx) => [(0, .slice Al ml cl), (2, .func (.func 65) #[] #[]), (6, .pointer (some ⟨go, 0, none⟩)), (7, .pointer (some ⟨gj, 0, none⟩)), (30, .slice (if cl = 2 then Al else (Al).map (·.add (2 * 3))) (ml - 2) (cl - 2)), (31, .int .i64 ((ml - 2 : Nat) : Int)), (32, .int .i64 ((j : Nat) : Int))]) (fun s => match s with | (j, Aj, mj, cj, Ak, mk, ck, gx) => ml - 2 - j) (0, A33, m34, c35, A36, m37, c38, 0) ?_ ?_ ?_
            · have e0 : qv (rl.getD 0 fr0) + qv (rl.getD 1 fr0) = qv (rl.getD 0 fr0) + qv (rl.getD 1 fr0) + qsum ((rl.drop 2).take 0) := by rw [List.take_zero]; exact (Rat.add_zero _).symm
              rw [e0] at hjn hjd hVgj
              exact ⟨hB, by omega, hjn, hjd, by rw [hf0]; omega, by rw [hf0]; omega, rfl, hVgj, hVgo⟩
            · exact ⟨rfl, rfl, rfl, rfl, rfl, iv (by omega), iv (by omega), trivial⟩
            · rintro ⟨j, Aj, mj, cj, Ak, mk, ck, gx⟩ w44 ⟨hB, hj, hjn, hjd, hbj, hbk, hgx, hVgj, hVgo⟩
              have hl := hl0.ext hB
              have hNl := hNl0.ext hB
              have hjn_l := hjn.rd.ulen
              have hjd_l := hjd.rd.ulen
              have hap_hjn_go := ap_type hjn hVgo (by decide)
              have hap_hjd_go := ap_type hjd hVgo (by decide)
              refine W.seq ?_
              refine W.region ?_
              refine WL.lss rfl rfl rfl (fun c45 => ?_) (fun c45 => ?_)
              · refine WL.done ?_
                refine W.seq ?_
                refine W.condT rfl ?_
                refine W.skip ?_
                refine W.seq ?_
                refine W.block ?_
                refine W.seq ?_
                skip; have hkj := hK (2 + j) (by omega); have hv1 := ((hNl0.drop 2).rd1 j (by simp; omega)).ulen; have hv2 := ((hNl0.drop 2).rd2 j (by simp; omega)).ulen; rw [getD_frdrop] at hv1 hv2; have hfs := fb_succ K j; have hfj := fb_mono (K := K) (show j ≤ rl.length by omega)
                · refine W.region ?_
                  refine WL.index (j) Try.underlying44 Try.el31 rfl rfl (by omega) (by omega) (hl.drop (k := 2) (by omega)) rfl ?_
                  refine WL.loadV (cs := [.bool ((rl.drop 2).getD j fr0).1, .slice (sA ((cel.drop (2 * 3)).getD (j * 3 + 1) undef)) (sM ((cel.drop (2 * 3)).getD (j * 3 + 1) undef)) (sC ((cel.drop (2 * 3)).getD (j * 3 + 1) undef)), .slice (sA ((cel.drop (2 * 3)).getD (j * 3 + 2) undef)) (sM ((cel.drop (2 * 3)).getD (j * 3 + 2) undef)) (sC ((cel.drop (2 * 3)).getD (j * 3 + 2) undef))]) Try.el31 Try.agg31 rfl rfl ((hNl.drop 2).load (hl.drop (k := 2) (by omega)) j (by omega)) rfl ?_
                  refine WL.alloc Try.el31 rfl ?_
                  intro gn w46 hg_gn hVgn hGw46
                  change Own _ _ _ _ _ _ _ [.bool false, .slice none 0 0, .slice none 0 0] at hVgn
                  have hlt_go_gn : go < gn := by rw [hg_gn]; exact (hVgo.bl_ge _ rfl).2
                  have hlt_gj_gn : gj < gn := by rw [hg_gn]; exact (hVgj.bl_ge _ rfl).2
                  have hap_hjn_gn := ap_old hjn hg_gn
                  have hap_hjd_gn := ap_old hjd hg_gn
                  have hVgn := hVgn.low (b' := w.heap.size) hB.size
                  have hB := ext_trans hB hGw46
                  have hNl := hNl0.ext hB
                  have hjn := hjn.ext hGw46
                  have hjd := hjd.ext hGw46
                  have hVgj := hVgj.ext hGw46
                  have hVgo := hVgo.ext hGw46
                  refine WL.storeV Try.el31 rfl rfl rfl rfl hVgn ?_
                  have hOld48 := hVgn
                  intro w47 hVgn hGw47
                  change Own _ _ _ _ _ _ _ [.bool ((rl.drop 2).getD j fr0).1, .slice (sA ((cel.drop (2 * 3)).getD (j * 3 + 1) undef)) (sM ((cel.drop (2 * 3)).getD (j * 3 + 1) undef)) (sC ((cel.drop (2 * 3)).getD (j * 3 + 1) undef)), .slice (sA ((cel.drop (2 * 3)).getD (j * 3 + 2) undef)) (sM ((cel.drop (2 * 3)).getD (j * 3 + 2) undef)) (sC ((cel.drop (2 * 3)).getD (j * 3 + 2) undef))] at hVgn
                  have hB := ext_own hB hGw47 (fun g hg => (hOld48.bl_ge g hg).1)
                  have hNl := hNl0.ext hB
                  have hjn := hjn.grown hGw47 (ap_row hap_hjn_gn)
                  have hjd := hjd.grown hGw47 (ap_row hap_hjd_gn)
                  have hVgj := hVgj.grown hGw47 (apart (by omega))
                  have hVgo := hVgo.grown hGw47 (apart (by omega))
                  refine WL.done ?_
                  refine W.region ?_
                  refine WL.move rfl rfl ?_
                  refine WL.loadV (cs := [.bool (qneg (qv (rl.getD 0 fr0) + qv (rl.getD 1 fr0) + qsum ((rl.drop 2).take j))), .slice Aj mj cj, .slice Ak mk ck]) Try.el31 Try.agg31 rfl rfl hVgj.vcells rfl ?_
                  refine WL.loadV (cs := [.bool ((rl.drop 2).getD j fr0).1, .slice (sA ((cel.drop (2 * 3)).getD (j * 3 + 1) undef)) (sM ((cel.drop (2 * 3)).getD (j * 3 + 1) undef)) (sC ((cel.drop (2 * 3)).getD (j * 3 + 1) undef)), .slice (sA ((cel.drop (2 * 3)).getD (j * 3 + 2) undef)) (sM ((cel.drop (2 * 3)).getD (j * 3 + 2) undef)) (sC ((cel.drop (2 * 3)).getD (j * 3 + 2) undef))]) Try.el31 Try.agg31 rfl rfl hVgn.vcells rfl ?_
                  refine WL.callv rfl Try.func65 rfl Try.nm65 rfl rfl (sum_c hjn.rd hjd.rd ((hNl.drop 2).rd1 j (by omega)) ((hNl.drop 2).rd2 j (by omega)) (digs_lim _) (digs_lim _) (qv (rl.getD 0 fr0) + qv (rl.getD 1 fr0) + qsum ((rl.drop 2).take j)) (val_canon _) ((hLl.drop 2) j (by omega)).1 ((hLl.drop 2) j (by omega)).2 (qv ((rl.drop 2).getD j fr0)) rfl (by omega) (by omega)) ?_
                  rintro _ w49 ⟨A50, m51, c52, A53, m54, c55, rfl, hGw49, hrn, hrd, hrm⟩
                  have hap_hrn_gj := ap_new hrn (hVgj.bl_ge _ rfl).2
                  have hap_hrd_gj := ap_new hrd (hVgj.bl_ge _ rfl).2
                  have hrn := hrn.low (b' := w.heap.size) hB.size
                  have hrd := hrd.low (b' := w.heap.size) hB.size
                  have hB := ext_trans hB hGw49
                  have hjn := hjn.ext hGw49
                  have hjd := hjd.ext hGw49
                  have hVgj := hVgj.ext hGw49
                  have hVgo := hVgo.ext hGw49
                  have hrn_l := hrn.rd.ulen
                  have hrd_l := hrd.rd.ulen
                  refine WL.storeV Try.el31 rfl rfl rfl rfl hVgj ?_
                  have hOld57 := hVgj
                  intro w56 hVgj hGw56
                  change Own _ _ _ _ _ _ _ [.bool (qneg ((qv (rl.getD 0 fr0) + qv (rl.getD 1 fr0) + qsum ((rl.drop 2).take j)) + (qv ((rl.drop 2).getD j fr0)))), .slice A50 m51 c52, .slice A53 m54 c55] at hVgj
                  have hB := ext_own hB hGw56 (fun g hg => (hOld57.bl_ge g hg).1)
                  have hVgo := hVgo.grown hGw56 (apart (by omega))
                  have hrn := hrn.grown hGw56 (ap_row hap_hrn_gj)
                  have hrd := hrd.grown hGw56 (ap_row hap_hrd_gj)
                  refine WL.done ?_
                  refine W.region ?_
                  refine WL.add (r := ((j + 1 : Nat) : Int)) rfl rfl (wi64 (by omega) (by omega) (by omega)) rfl ?_
                  refine WL.move rfl rfl ?_
                  refine WL.done ?_
                  refine ⟨(j + 1, A50, m51, c52, A53, m54, c55, 0), ⟨rfl, rfl, rfl, rfl, rfl, iv (by omega), iv (by omega), trivial⟩, by (dsimp only; omega), ?_⟩
                  clear hjn hjd
                  have e1 : qv (rl.getD 0 fr0) + qv (rl.getD 1 fr0) + qsum ((rl.drop 2).take j) + qv ((rl.drop 2).getD j fr0) = qv (rl.getD 0 fr0) + qv (rl.getD 1 fr0) + qsum ((rl.drop 2).take (j + 1)) := by rw [qsum_take (by simp; omega)]; simp only [Rat.add_assoc]
                  rw [e1] at hrn hrd hVgj
                  exact ⟨hB, by omega, hrn, hrd, by omega, by omega, rfl, hVgj, hVgo⟩
              · refine WL.done ?_
                refine W.seq ?_
                refine W.condF rfl ?_
                refine W.exit ?_
                refine W.seq ?_
                refine W.region ?_
                refine WL.loadV (cs := [.bool (qneg (qv (rl.getD 0 fr0) + qv (rl.getD 1 fr0) + qsum ((rl.drop 2).take j))), .slice Aj mj cj, .slice Ak mk ck]) Try.el31 Try.agg31 rfl rfl hVgj.vcells rfl ?_
                refine WL.storeV Try.el31 rfl rfl rfl rfl hVgo ?_
                have hOld59 := hVgo
                intro w58 hVgo hGw58
                change Own _ _ _ _ _ _ _ [.bool (qneg (qv (rl.getD 0 fr0) + qv (rl.getD 1 fr0) + qsum ((rl.drop 2).take j))), .slice Aj mj cj, .slice Ak mk ck] at hVgo
                have hB := ext_own hB hGw58 (fun g hg => (hOld59.bl_ge g hg).1)
                have hjn := hjn.grown hGw58 (ap_row hap_hjn_go)
                have hjd := hjd.grown hGw58 (ap_row hap_hjd_go)
                refine WL.done ?_
                refine W.ret ?_
                refine ⟨[.agg #[.bool (qneg (qv (rl.getD 0 fr0) + qv (rl.getD 1 fr0) + qsum ((rl.drop 2).take j))), .slice Aj mj cj, .slice Ak mk ck]], ⟨_, _, _, rfl, rfl, run_loadV (cs := [.bool (qneg (qv (rl.getD 0 fr0) + qv (rl.getD 1 fr0) + qsum ((rl.drop 2).take j))), .slice Aj mj cj, .slice Ak mk ck]) Try.el31 Try.agg31 rfl hVgo.vcells, rfl⟩, ?_⟩
                have e2 : qv (rl.getD 0 fr0) + qv (rl.getD 1 fr0) + qsum ((rl.drop 2).take j) = qsum rl := by rw [List.take_of_length_le (by simp; omega), ← qsum_two (by omega)]
                rw [e2] at hjn hjd ⊢
                have hfl := fb_mono (K := K) (show j ≤ rl.length by omega)
                rw [hl_l] at hfl
                exact ⟨_, _, _, _, _, _, rfl, hB, hjn, hjd, by omega⟩

theorem fold_prod_z {w : World} {Bl BNl : Nat} {Al : Option Addr} {ml cl : Nat} {cel : List Value} {rl : List Fr3} (hl : Rd Bl w 3 Al ml cl cel) (hNl : RatsR BNl w cel rl) {ne : Bool} {An Ad : Option Addr} {mn cn md cd : Nat} (hm : ml = 0) :
    Calls Try.prog 64 #[.slice Al ml cl, .agg #[.bool ne, .slice An mn cn, .slice Ad md cd], .func (.func 67) #[] #[]] w fun e w2 => ∃ v, e = .returned v ∧ (fun v w2 => v = .agg #[.bool ne, .slice An mn cn, .slice Ad md cd] ∧ w.grownBy w2 none) v w2 := by
  have hl := hl.norm
  have hNl := hNl.norm
  have hl_n := hl.len
  have hl_nn := hNl.len
  have hl_l : rl.length = ml := by omega
  have hl_x := hl.max
  simp only [maxLen] at hl_x
  have hl_c := hl.cap
  have hl0 := hl
  have hNl0 := hNl
  have hB := ext_refl w
  refine calls_of_Wc (vs := [.slice Al ml cl, .agg #[.bool ne, .slice An mn cn, .slice Ad md cd], .func (.func 67) #[] #[]]) [.cell 6 31] Try.func64 rfl rfl rfl rfl ?_
  refine W.seq ?_
  refine W.region ?_
  refine WL.box Try.el31 rfl rfl rfl ?_
  intro g11 w12 hg_g11 hVg11 hGw12
  change Own _ _ _ _ _ _ _ [.bool ne, .slice An mn cn, .slice Ad md cd] at hVg11
  have hVg11 := hVg11.low (b' := w.heap.size) hB.size
  have hB := ext_trans hB hGw12
  refine WL.alloc Try.el31 rfl ?_
  intro g13 w14 hg_g13 hVg13 hGw14
  change Own _ _ _ _ _ _ _ [.bool false, .slice none 0 0, .slice none 0 0] at hVg13
  have hlt_g11_g13 : g11 < g13 := by rw [hg_g13]; exact (hVg11.bl_ge _ rfl).2
  have hVg13 := hVg13.low (b' := w.heap.size) hB.size
  have hB := ext_trans hB hGw14
  have hVg11 := hVg11.ext hGw14
  refine WL.done ?_
  refine W.seq ?_
  refine W.seq ?_
  refine W.region ?_
  refine WL.move rfl rfl ?_
  refine WL.len Try.underlying44 rfl rfl ?_
  refine WL.eql rfl rfl rfl (fun c15 => ?_) (fun c15 => ?_)
  · refine WL.done ?_
    refine W.condT rfl ?_
    refine W.seq ?_
    refine W.region ?_
    refine WL.loadV (cs := [.bool ne, .slice An mn cn, .slice Ad md cd]) Try.el31 Try.agg31 rfl rfl hVg11.vcells rfl ?_
    refine WL.storeV Try.el31 rfl rfl rfl rfl hVg13 ?_
    have hOld17 := hVg13
    intro w16 hVg13 hGw16
    change Own _ _ _ _ _ _ _ [.bool ne, .slice An mn cn, .slice Ad md cd] at hVg13
    have hB := ext_own hB hGw16 (fun g hg => (hOld17.bl_ge g hg).1)
    refine WL.done ?_
    refine W.ret ?_
    refine ⟨[.agg #[.bool ne, .slice An mn cn, .slice Ad md cd]], ⟨_, _, _, rfl, rfl, run_loadV (cs := [.bool ne, .slice An mn cn, .slice Ad md cd]) Try.el31 Try.agg31 rfl hVg13.vcells, rfl⟩, ?_⟩
    exact ⟨rfl, hB⟩
  · exfalso
    omega

theorem fold_prod {w : World} {Bl BNl : Nat} {Al : Option Addr} {ml cl : Nat} {cel : List Value} {rl : List Fr3} (hl : Rd Bl w 3 Al ml cl cel) (hNl : RatsR BNl w cel rl) (hLl : RLim rl) {ne : Bool} {An Ad : Option Addr} {mn cn md cd : Nat} (K : Nat) (hK : RLen K rl) (hfb : fb K ml ≤ 4194304) (hm : 0 < ml) :
    Calls Try.prog 64 #[.slice Al ml cl, .agg #[.bool ne, .slice An mn cn, .slice Ad md cd], .func (.func 67) #[] #[]] w fun e w2 => ∃ v, e = .returned v ∧ (fun v w2 => ∃ A2 m2 c2 A3 m3 c3, v = .agg #[.bool (qneg (qprod rl)), .slice A2 m2 c2, .slice A3 m3 c3] ∧ w.grownBy w2 none ∧ Own w.heap.size w2 43 1 A2 m2 c2 (us (digs (qnum (qprod rl)))) ∧ Own w.heap.size w2 43 1 A3 m3 c3 (us (digs (Rat.den (qprod rl)))) ∧ m2 ≤ fb K ml ∧ m3 ≤ fb K ml) v w2 := by
  have hl := hl.norm
  have hNl := hNl.norm
  have hl_n := hl.len
  have hl_nn := hNl.len
  have hl_l : rl.length = ml := by omega
  have hl_x := hl.max
  simp only [maxLen] at hl_x
  have hl_c := hl.cap
  have hl0 := hl
  have hNl0 := hNl
  have hf0 := fb_zero K
  have hfm := fb_mono (K := K) (Nat.zero_le rl.length)
  have hfb2 := hfb
  rw [← hl_l] at hfb2
  have hdl : (rl.drop 2).length = ml - 2 := by simp; omega
  have hB := ext_refl w
  refine calls_of_Wc (vs := [.slice Al ml cl, .agg #[.bool ne, .slice An mn cn, .slice Ad md cd], .func (.func 67) #[] #[]]) [.cell 6 31] Try.func64 rfl rfl rfl rfl ?_
  refine W.seq ?_
  refine W.region ?_
  refine WL.box Try.el31 rfl rfl rfl ?_
  intro ge w11 hg_ge hVge hGw11
  change Own _ _ _ _ _ _ _ [.bool ne, .slice An mn cn, .slice Ad md cd] at hVge
  have hVge := hVge.low (b' := w.heap.size) hB.size
  have hB := ext_trans hB hGw11
  have hl := hl0.ext hB
  have hNl := hNl0.ext hB
  refine WL.alloc Try.el31 rfl ?_
  intro go w12 hg_go hVgo hGw12
  change Own _ _ _ _ _ _ _ [.bool false, .slice none 0 0, .slice none 0 0] at hVgo
  have hlt_ge_go : ge < go := by rw [hg_go]; exact (hVge.bl_ge _ rfl).2
  have hVgo := hVgo.low (b' := w.heap.size) hB.size
  have hB := ext_trans hB hGw12
  have hl := hl0.ext hB
  have hNl := hNl0.ext hB
  have hVge := hVge.ext hGw12
  refine WL.done ?_
  refine W.seq ?_
  refine W.seq ?_
  refine W.region ?_
  refine WL.move rfl rfl ?_
  refine WL.len Try.underlying44 rfl rfl ?_
  refine WL.eql rfl rfl rfl (fun hm0 => ?_) (fun hm0 => ?_)
  · exfalso
    omega
  · refine WL.done ?_
    refine W.condF rfl ?_
    refine W.skip ?_
    refine W.seq ?_
    refine W.seq ?_
    refine W.region ?_
    refine WL.move rfl rfl ?_
    refine WL.len Try.underlying44 rfl rfl ?_
    refine WL.eql rfl rfl rfl (fun hm1 => ?_) (fun hm1 => ?_)
    · refine WL.done ?_
      refine W.condT rfl ?_
      refine W.seq ?_
      have hk0 := hK 0 (by omega); have hu0 := (hNl0.rd1 0 (by omega)).ulen; have hu1 := (hNl0.rd2 0 (by omega)).ulen
      · refine W.region ?_
        refine WL.move rfl rfl ?_
        refine WL.index (0) Try.underlying44 Try.el31 rfl rfl (by omega) (by omega) hl rfl ?_
        refine WL.loadV (cs := [.bool (rl.getD 0 fr0).1, .slice (sA (cel.getD (0 * 3 + 1) undef)) (sM (cel.getD (0 * 3 + 1) undef)) (sC (cel.getD (0 * 3 + 1) undef)), .slice (sA (cel.getD (0 * 3 + 2) undef)) (sM (cel.getD (0 * 3 + 2) undef)) (sC (cel.getD (0 * 3 + 2) undef))]) Try.el31 Try.agg31 rfl rfl (hNl.load hl 0 (by omega)) rfl ?_
        refine WL.call Try.func19 rfl Try.nm19 rfl rfl (qTrim_c (hNl.rd1 0 (by omega)) (hNl.rd2 0 (by omega)) (hLl 0 (by omega)).1 (hLl 0 (by omega)).2 (qv (rl.getD 0 fr0)) rfl (by omega)) ?_
        rintro _ w15 ⟨A16, m17, c18, A19, m20, c21, rfl, hGw15, hrn, hrd, hrm⟩
        have hap_hrn_go := ap_new hrn (hVgo.bl_ge _ rfl).2
        have hap_hrd_go := ap_new hrd (hVgo.bl_ge _ rfl).2
        have hrn := hrn.low (b' := w.heap.size) hB.size
        have hrd := hrd.low (b' := w.heap.size) hB.size
        have hB := ext_trans hB hGw15
        have hVgo := hVgo.ext hGw15
        have hrn_l := hrn.rd.ulen
        have hrd_l := hrd.rd.ulen
        refine WL.storeV Try.el31 rfl rfl rfl rfl hVgo ?_
        have hOld23 := hVgo
        intro w22 hVgo hGw22
        change Own _ _ _ _ _ _ _ [.bool (qneg ((qv (rl.getD 0 fr0)))), .slice A16 m17 c18, .slice A19 m20 c21] at hVgo
        have hB := ext_own hB hGw22 (fun g hg => (hOld23.bl_ge g hg).1)
        have hrn := hrn.grown hGw22 (ap_row hap_hrn_go)
        have hrd := hrd.grown hGw22 (ap_row hap_hrd_go)
        refine WL.done ?_
        refine W.ret ?_
        refine ⟨[.agg #[.bool (qneg ((qv (rl.getD 0 fr0)))), .slice A16 m17 c18, .slice A19 m20 c21]], ⟨_, _, _, rfl, rfl, run_loadV (cs := [.bool (qneg ((qv (rl.getD 0 fr0)))), .slice A16 m17 c18, .slice A19 m20 c21]) Try.el31 Try.agg31 rfl hVgo.vcells, rfl⟩, ?_⟩
        have e1 := qprod_one (rs := rl) (by omega)
        rw [e1]
        rw [hl_l] at hfm
        exact ⟨_, _, _, _, _, _, rfl, hB, hrn, hrd, by omega⟩
    · refine WL.done ?_
      refine W.condF rfl ?_
      refine W.skip ?_
      refine W.seq ?_
      have hk0 := hK 0 (by omega); have hk1 := hK 1 (by omega); have hu0 := (hNl0.rd1 0 (by omega)).ulen; have hu1 := (hNl0.rd2 0 (by omega)).ulen; have hu2 := (hNl0.rd1 1 (by omega)).ulen; have hu3 := (hNl0.rd2 1 (by omega)).ulen
      · refine W.drawT 9 [⟨[], [2], true⟩, ⟨[], [0], true⟩, ⟨[1], [], true⟩, ⟨[2], [], false⟩, ⟨[], [0], true⟩, ⟨[4], [], true⟩, ⟨[5], [], false⟩, ⟨[0, 3, 6], [], false⟩, ⟨[], [], false⟩] [[(2, .func (.func 67) #[] #[])], [(0, .slice Al ml cl)], [], [], [(0, .slice Al ml cl)], [], [], [], []] (fun iQ => [fun v wQ => v = .func (.func 67) #[] #[], fun v wQ => v = .slice Al ml cl, fun v wQ => v = .pointer (some ((adOf Al).add (0 * 3))), fun v wQ => v = .agg #[.bool (rl.getD 0 fr0).1, .slice (sA (cel.getD (0 * 3 + 1) undef)) (sM (cel.getD (0 * 3 + 1) undef)) (sC (cel.getD (0 * 3 + 1) undef)), .slice (sA (cel.getD (0 * 3 + 2) undef)) (sM (cel.getD (0 * 3 + 2) undef)) (sC (cel.getD (0 * 3 + 2) undef))], fun v wQ => v = .slice Al ml cl, fun v wQ => v = .pointer (some ((adOf Al).add (1 * 3))), fun v wQ => v = .agg #[.bool (rl.getD 1 fr0).1, .slice (sA (cel.getD (1 * 3 + 1) undef)) (sM (cel.getD (1 * 3 + 1) undef)) (sC (cel.getD (1 * 3 + 1) undef)), .slice (sA (cel.getD (1 * 3 + 2) undef)) (sM (cel.getD (1 * 3 + 2) undef)) (sC (cel.getD (1 * 3 + 2) undef))], fun v wQ => ∃ A33 m34 c35 A36 m37 c38, v = .agg #[.bool (qneg ((qv (rl.getD 0 fr0)) * (qv (rl.getD 1 fr0)))), .slice A33 m34 c35, .slice A36 m37 c38] ∧ (Own w.heap.size wQ 43 1 A33 m34 c35 (us (digs (qnum ((qv (rl.getD 0 fr0)) * (qv (rl.getD 1 fr0))))))) ∧ (Own w.heap.size wQ 43 1 A36 m37 c38 (us (digs (Rat.den ((qv (rl.getD 0 fr0)) * (qv (rl.getD 1 fr0))))))) ∧ (m34 ≤ (sM (cel.getD (0 * 3 + 1) undef)) + (sM (cel.getD (1 * 3 + 1) undef)) ∧ m37 ≤ (sM (cel.getD (0 * 3 + 2) undef)) + (sM (cel.getD (1 * 3 + 2) undef)) + 1) ∧ (∀ k, bl A33 = some k → k ≠ ge) ∧ (∀ k, bl A33 = some k → k ≠ go) ∧ (∀ k, bl A36 = some k → k ≠ ge) ∧ (∀ k, bl A36 = some k → k ≠ go), fun v wQ => ∃ gj, v = .pointer (some ⟨gj, 0, none⟩) ∧ (Own w.heap.size wQ 31 3 (some ⟨gj, 0, none⟩) 1 1 [.bool false, .slice none 0 0, .slice none 0 0]) ∧ (ge < gj) ∧ (go < gj)].getD iQ (fun _ _ => True)) Try.mixed (by kernel_rfl) ?_ ?_ ?_
        · refine Vs_monoT _ ?_
          intro VQ hVQ vQ wQ1 wQ2 hQ1 hQ2
          simp only [List.mem_cons, List.not_mem_nil, or_false] at hVQ
          rcases hVQ with rfl | rfl | rfl | rfl | rfl | rfl | rfl | rfl | rfl
          · exact hQ1
          · exact hQ1
          · exact hQ1
          · exact hQ1
          · exact hQ1
          · exact hQ1
          · exact hQ1
          · obtain ⟨A33, m34, c35, A36, m37, c38, hQe, hjn, hjd, hjm, hap_hjn_ge, hap_hjn_go, hap_hjd_ge, hap_hjd_go⟩ := hQ1
            exact ⟨A33, m34, c35, A36, m37, c38, hQe, hjn.ext hQ2, hjd.ext hQ2, hjm, hap_hjn_ge, hap_hjn_go, hap_hjd_ge, hap_hjd_go⟩
          · obtain ⟨gj, hQe, hVgj, hlt_ge_gj, hlt_go_gj⟩ := hQ1
            exact ⟨gj, hQe, hVgj.ext hQ2, hlt_ge_gj, hlt_go_gj⟩
        · refine ⟨⟨rfl, ⟨rfl, trivial⟩, ?_⟩, ⟨rfl, ⟨rfl, trivial⟩, ?_⟩, ⟨rfl, trivial, ?_⟩, ⟨rfl, trivial, ?_⟩, ⟨rfl, ⟨rfl, trivial⟩, ?_⟩, ⟨rfl, trivial, ?_⟩, ⟨rfl, trivial, ?_⟩, ⟨rfl, trivial, ?_⟩, ⟨rfl, trivial, ?_⟩, trivial⟩
          · intro w24 hE
            intro R
            refine WL.move rfl rfl ?_
            exact WL.done ⟨_, rfl, rfl, rfl⟩
          · intro w25 hE
            intro R
            refine WL.move rfl rfl ?_
            exact WL.done ⟨_, rfl, rfl, rfl⟩
          · intro w26 hE
            rintro _ rfl
            intro R
            refine WL.index (0) Try.underlying44 Try.el31 rfl rfl (by omega) (by omega) hl rfl ?_
            exact WL.done ⟨_, rfl, rfl, rfl⟩
          · intro w27 hE
            have hE := hE rfl
            have hB := ext_trans hB hE
            have hl := hl0.ext hB
            have hNl := hNl0.ext hB
            rintro _ rfl
            intro R
            refine WL.loadV (cs := [.bool (rl.getD 0 fr0).1, .slice (sA (cel.getD (0 * 3 + 1) undef)) (sM (cel.getD (0 * 3 + 1) undef)) (sC (cel.getD (0 * 3 + 1) undef)), .slice (sA (cel.getD (0 * 3 + 2) undef)) (sM (cel.getD (0 * 3 + 2) undef)) (sC (cel.getD (0 * 3 + 2) undef))]) Try.el31 Try.agg31 rfl rfl (hNl.load hl 0 (by omega)) rfl ?_
            exact WL.done ⟨_, rfl, ext_refl _, rfl⟩
          · intro w28 hE
            intro R
            refine WL.move rfl rfl ?_
            exact WL.done ⟨_, rfl, rfl, rfl⟩
          · intro w29 hE
            rintro _ rfl
            intro R
            refine WL.index (1) Try.underlying44 Try.el31 rfl rfl (by omega) (by omega) hl rfl ?_
            exact WL.done ⟨_, rfl, rfl, rfl⟩
          · intro w30 hE
            have hE := hE rfl
            have hB := ext_trans hB hE
            have hl := hl0.ext hB
            have hNl := hNl0.ext hB
            rintro _ rfl
            intro R
            refine WL.loadV (cs := [.bool (rl.getD 1 fr0).1, .slice (sA (cel.getD (1 * 3 + 1) undef)) (sM (cel.getD (1 * 3 + 1) undef)) (sC (cel.getD (1 * 3 + 1) undef)), .slice (sA (cel.getD (1 * 3 + 2) undef)) (sM (cel.getD (1 * 3 + 2) undef)) (sC (cel.getD (1 * 3 + 2) undef))]) Try.el31 Try.agg31 rfl rfl (hNl.load hl 1 (by omega)) rfl ?_
            exact WL.done ⟨_, rfl, ext_refl _, rfl⟩
          · intro w31 hE
            have hE := hE rfl
            have hB := ext_trans hB hE
            have hNl := hNl0.ext hB
            have hVge := hVge.ext hE
            have hVgo := hVgo.ext hE
            rintro _ rfl
            rintro _ rfl
            rintro _ rfl
            intro R
            refine WL.callv rfl Try.func67 rfl Try.nm67 rfl rfl (prod_c (hNl.rd1 0 (by omega)) (hNl.rd2 0 (by omega)) (hNl.rd1 1 (by omega)) (hNl.rd2 1 (by omega)) (hLl 0 (by omega)).1 (hLl 0 (by omega)).2 (qv (rl.getD 0 fr0)) rfl (hLl 1 (by omega)).1 (hLl 1 (by omega)).2 (qv (rl.getD 1 fr0)) rfl (by omega) (by omega)) ?_
            rintro _ w32 ⟨A33, m34, c35, A36, m37, c38, rfl, hGw32, hjn, hjd, hjm⟩
            have hap_hjn_ge := ap_new hjn (hVge.bl_ge _ rfl).2
            have hap_hjn_go := ap_new hjn (hVgo.bl_ge _ rfl).2
            have hap_hjd_ge := ap_new hjd (hVge.bl_ge _ rfl).2
            have hap_hjd_go := ap_new hjd (hVgo.bl_ge _ rfl).2
            have hjn := hjn.low (b' := w.heap.size) hB.size
            have hjd := hjd.low (b' := w.heap.size) hB.size
            have hB := ext_trans hB hGw32
            have hjn_l := hjn.rd.ulen
            have hjd_l := hjd.rd.ulen
            exact WL.done ⟨_, rfl, hGw32, ⟨A33, m34, c35, A36, m37, c38, rfl, hjn, hjd, hjm, hap_hjn_ge, hap_hjn_go, hap_hjd_ge, hap_hjd_go⟩⟩
          · intro w39 hE
            have hE := hE rfl
            have hB := ext_trans hB hE
            have hVge := hVge.ext hE
            have hVgo := hVgo.ext hE
            intro R
            refine WL.alloc Try.el31 rfl ?_
            intro gj w40 hg_gj hVgj hGw40
            change Own _ _ _ _ _ _ _ [.bool false, .slice none 0 0, .slice none 0 0] at hVgj
            have hlt_ge_gj : ge < gj := by rw [hg_gj]; exact (hVge.bl_ge _ rfl).2
            have hlt_go_gj : go < gj := by rw [hg_gj]; exact (hVgo.bl_ge _ rfl).2
            have hVgj := hVgj.low (b' := w.heap.size) hB.size
            have hB := ext_trans hB hGw40
            exact WL.done ⟨_, rfl, hGw40, ⟨gj, rfl, hVgj, hlt_ge_gj, hlt_go_gj⟩⟩
        · intro vals w41 hT hVs
          have hB := ext_trans hB hT
          have hl := hl0.ext hB
          have hNl := hNl0.ext hB
          have hVgo := hVgo.ext hT
          have hv0 : vals 0 = _ := hVs 0 (by decide)
          have hv1 : vals 1 = _ := hVs 1 (by decide)
          have hv2 : vals 2 = _ := hVs 2 (by decide)
          have hv3 : vals 3 = _ := hVs 3 (by decide)
          have hv4 : vals 4 = _ := hVs 4 (by decide)
          have hv5 : vals 5 = _ := hVs 5 (by decide)
          have hv6 : vals 6 = _ := hVs 6 (by decide)
          obtain ⟨A33, m34, c35, A36, m37, c38, hv7, hjn, hjd, hjm, hap_hjn_ge, hap_hjn_go, hap_hjd_ge, hap_hjd_go⟩ := hVs 7 (by decide)
          obtain ⟨gj, hv8, hVgj, hlt_ge_gj, hlt_go_gj⟩ := hVs 8 (by decide)
          have hap_hjn_gj := ap_type hjn hVgj (by decide)
          have hap_hjd_gj := ap_type hjd hVgj (by decide)
          rw [show (List.filterMap (fun i => Option.map (fun t => (t, vals i)) (dstAt _ i)) (List.range _)) = [(21, .func (.func 67) #[] #[]), (22, .slice Al ml cl), (23, .pointer (some ((adOf Al).add (0 * 3)))), (24, .agg #[.bool (rl.getD 0 fr0).1, .slice (sA (cel.getD (0 * 3 + 1) undef)) (sM (cel.getD (0 * 3 + 1) undef)) (sC (cel.getD (0 * 3 + 1) undef)), .slice (sA (cel.getD (0 * 3 + 2) undef)) (sM (cel.getD (0 * 3 + 2) undef)) (sC (cel.getD (0 * 3 + 2) undef))]), (25, .slice Al ml cl), (26, .pointer (some ((adOf Al).add (1 * 3)))), (27, .agg #[.bool (rl.getD 1 fr0).1, .slice (sA (cel.getD (1 * 3 + 1) undef)) (sM (cel.getD (1 * 3 + 1) undef)) (sC (cel.getD (1 * 3 + 1) undef)), .slice (sA (cel.getD (1 * 3 + 2) undef)) (sM (cel.getD (1 * 3 + 2) undef)) (sC (cel.getD (1 * 3 + 2) undef))]), (28, .agg #[.bool (qneg ((qv (rl.getD 0 fr0)) * (qv (rl.getD 1 fr0)))), .slice A33 m34 c35, .slice A36 m37 c38]), (7, .pointer (some ⟨gj, 0, none⟩))] from by
            show [(21, vals 0), (22, vals 1), (23, vals 2), (24, vals 3), (25, vals 4), (26, vals 5), (27, vals 6), (28, vals 7), (7, vals 8)] = _
            rw [hv0, hv1, hv2, hv3, hv4, hv5, hv6, hv7, hv8]]
          refine WA.step [9] (by decide +kernel) rfl ?_
          intro iQ hQ
          simp only [List.mem_cons, List.not_mem_nil, or_false] at hQ
          obtain rfl := hQ
          · refine ⟨_, rfl, ?_⟩
            refine WL.storeV Try.el31 rfl rfl rfl rfl hVgj ?_
            have hOld43 := hVgj
            intro w42 hVgj hGw42
            change Own _ _ _ _ _ _ _ [.bool (qneg ((qv (rl.getD 0 fr0)) * (qv (rl.getD 1 fr0)))), .slice A33 m34 c35, .slice A36 m37 c38] at hVgj
            have hB := ext_own hB hGw42 (fun g hg => (hOld43.bl_ge g hg).1)
            have hl := hl0.ext hB
            have hNl := hNl0.ext hB
            have hVgo := hVgo.grown hGw42 (apart (by omega))
            have hjn := hjn.grown hGw42 (ap_row hap_hjn_gj)
            have hjd := hjd.grown hGw42 (ap_row hap_hjd_gj)
            refine WL.done ?_
            refine WA.done (by decide +kernel) ?_
            refine W.seq ?_
            refine W.seq ?_
            refine W.region ?_
            refine WL.move rfl rfl ?_
            refine WL.slFrom (2) Try.underlying44 Try.el31 rfl rfl (by omega) (by omega) rfl ?_
            refine WL.len Try.underlying44 rfl rfl ?_
            refine WL.move rfl rfl ?_
            refine WL.done ?_
            refine W.block ?_
            refine W.loop (σ := Nat × Option Addr × Nat × Nat × Option Addr × Nat × Nat × Nat) (fun s w1 => match s with | (j, Aj, mj, cj, Ak, mk, ck, gx) => w.grownBy w1 none ∧ j ≤ ml - 2 ∧ Own w.heap.size w1 43 1 Aj mj cj (us (digs (qnum (qv (rl.getD 0 fr0) * qv (rl.getD 1 fr0) * qprod ((rl.drop 2).take j))))) ∧ Own w.heap.size w1 43 1 Ak mk ck (us (digs (Rat.den (qv (rl.getD 0 fr0) * qv (rl.getD 1 fr0) * qprod ((rl.drop 2).take j))))) ∧ mj ≤ fb K j ∧ mk ≤ fb K j ∧ gx = 0 ∧ Own w.heap.size w1 31 3 (some ⟨gj, 0, none⟩) 1 1 [.bool (qneg (qv (rl.getD 0 fr0) * qv (rl.getD 1 fr0) * qprod ((rl.drop 2).take j))), .slice Aj mj cj, .slice Ak mk ck] ∧ Own w.heap.size w1 31 3 (some ⟨go, 0, none⟩) 1 1 [.bool false, .slice none 0 0, .slice none 0 0]) (fun s => match s with | (j, Aj, mj, cj, Ak, mk, ck, gx) => [(0, .slice Al ml cl), (2, .func (.func 67) #[] #[]), (6, .pointer (some ⟨go, 0, none⟩)), (7, .pointer (some ⟨gj, 0, none⟩)), (30, .slice (if cl = 2 then Al else (Al).map (·.add (2 * 3))) (ml - 2) (cl - 2)), (31, .int .i64 ((ml - 2 : Nat) : Int)), (32, .int .i64 ((j : Nat) : Int))]) (fun s => match s with | (j, Aj, mj, cj, Ak, mk, ck, gx) => ml - 2 - j) (0, A33, m34, c35, A36, m37, c38, 0) ?_ ?_ ?_
            · have e0 : qv (rl.getD 0 fr0) * qv (rl.getD 1 fr0) = qv (rl.getD 0 fr0) * qv (rl.getD 1 fr0) * qprod ((rl.drop 2).take 0) := by rw [List.take_zero]; exact (Rat.mul_one _).symm
              rw [e0] at hjn hjd hVgj
              exact ⟨hB, by omega, hjn, hjd, by rw [hf0]; omega, by rw [hf0]; omega, rfl, hVgj, hVgo⟩
            · exact ⟨rfl, rfl, rfl, rfl, rfl, iv (by omega), iv (by omega), trivial⟩
            · rintro ⟨j, Aj, mj, cj, Ak, mk, ck, gx⟩ w44 ⟨hB, hj, hjn, hjd, hbj, hbk, hgx, hVgj, hVgo⟩
              have hl := hl0.ext hB
              have hNl := hNl0.ext hB
              have hjn_l := hjn.rd.ulen
              have hjd_l := hjd.rd.ulen
              have hap_hjn_go := ap_type hjn hVgo (by decide)
              have hap_hjd_go := ap_type hjd hVgo (by decide)
              refine W.seq ?_
              refine W.region ?_
              refine WL.lss rfl rfl rfl (fun c45 => ?_) (fun c45 => ?_)
              · refine WL.done ?_
                refine W.seq ?_
                refine W.condT rfl ?_
                refine W.skip ?_
                refine W.seq ?_
                refine W.block ?_
                refine W.seq ?_
                skip; have hkj := hK (2 + j) (by omega); have hv1 := ((hNl0.drop 2).rd1 j (by simp; omega)).ulen; have hv2 := ((hNl0.drop 2).rd2 j (by simp; omega)).ulen; rw [getD_frdrop] at hv1 hv2; have hfs := fb_succ K j; have hfj := fb_mono (K := K) (show j ≤ rl.length by omega)
                · refine W.region ?_
                  refine WL.index (j) Try.underlying44 Try.el31 rfl rfl (by omega) (by omega) (hl.drop (k := 2) (by omega)) rfl ?_
                  refine WL.loadV (cs := [.bool ((rl.drop 2).getD j fr0).1, .slice (sA ((cel.drop (2 * 3)).getD (j * 3 + 1) undef)) (sM ((cel.drop (2 * 3)).getD (j * 3 + 1) undef)) (sC ((cel.drop (2 * 3)).getD (j * 3 + 1) undef)), .slice (sA ((cel.drop (2 * 3)).getD (j * 3 + 2) undef)) (sM ((cel.drop (2 * 3)).getD (j * 3 + 2) undef)) (sC ((cel.drop (2 * 3)).getD (j * 3 + 2) undef))]) Try.el31 Try.agg31 rfl rfl ((hNl.drop 2).load (hl.drop (k := 2) (by omega)) j (by omega)) rfl ?_
                  refine WL.alloc Try.el31 rfl ?_
                  intro gn w46 hg_gn hVgn hGw46
                  change Own _ _ _ _ _ _ _ [.bool false, .slice none 0 0, .slice none 0 0] at hVgn
                  have hlt_go_gn : go < gn := by rw [hg_gn]; exact (hVgo.bl_ge _ rfl).2
                  have hlt_gj_gn : gj < gn := by rw [hg_gn]; exact (hVgj.bl_ge _ rfl).2
                  have hap_hjn_gn := ap_old hjn hg_gn
                  have hap_hjd_gn := ap_old hjd hg_gn
                  have hVgn := hVgn.low (b' := w.heap.size) hB.size
                  have hB := ext_trans hB hGw46
                  have hNl := hNl0.ext hB
                  have hjn := hjn.ext hGw46
                  have hjd := hjd.ext hGw46
                  have hVgj := hVgj.ext hGw46
                  have hVgo := hVgo.ext hGw46
                  refine WL.storeV Try.el31 rfl rfl rfl rfl hVgn ?_
                  have hOld48 := hVgn
                  intro w47 hVgn hGw47
                  change Own _ _ _ _ _ _ _ [.bool ((rl.drop 2).getD j fr0).1, .slice (sA ((cel.drop (2 * 3)).getD (j * 3 + 1) undef)) (sM ((cel.drop (2 * 3)).getD (j * 3 + 1) undef)) (sC ((cel.drop (2 * 3)).getD (j * 3 + 1) undef)), .slice (sA ((cel.drop (2 * 3)).getD (j * 3 + 2) undef)) (sM ((cel.drop (2 * 3)).getD (j * 3 + 2) undef)) (sC ((cel.drop (2 * 3)).getD (j * 3 + 2) undef))] at hVgn
                  have hB := ext_own hB hGw47 (fun g hg => (hOld48.bl_ge g hg).1)
                  have hNl := hNl0.ext hB
                  have hjn := hjn.grown hGw47 (ap_row hap_hjn_gn)
                  have hjd := hjd.grown hGw47 (ap_row hap_hjd_gn)
                  have hVgj := hVgj.grown hGw47 (apart (by omega))
                  have hVgo := hVgo.grown hGw47 (apart (by omega))
                  refine WL.done ?_
                  refine W.region ?_
                  refine WL.move rfl rfl ?_
                  refine WL.loadV (cs := [.bool (qneg (qv (rl.getD 0 fr0) * qv (rl.getD 1 fr0) * qprod ((rl.drop 2).take j))), .slice Aj mj cj, .slice Ak mk ck]) Try.el31 Try.agg31 rfl rfl hVgj.vcells rfl ?_
                  refine WL.loadV (cs := [.bool ((rl.drop 2).getD j fr0).1, .slice (sA ((cel.drop (2 * 3)).getD (j * 3 + 1) undef)) (sM ((cel.drop (2 * 3)).getD (j * 3 + 1) undef)) (sC ((cel.drop (2 * 3)).getD (j * 3 + 1) undef)), .slice (sA ((cel.drop (2 * 3)).getD (j * 3 + 2) undef)) (sM ((cel.drop (2 * 3)).getD (j * 3 + 2) undef)) (sC ((cel.drop (2 * 3)).getD (j * 3 + 2) undef))]) Try.el31 Try.agg31 rfl rfl hVgn.vcells rfl ?_
                  refine WL.callv rfl Try.func67 rfl Try.nm67 rfl rfl (prod_c hjn.rd hjd.rd ((hNl.drop 2).rd1 j (by omega)) ((hNl.drop 2).rd2 j (by omega)) (digs_lim _) (digs_lim _) (qv (rl.getD 0 fr0) * qv (rl.getD 1 fr0) * qprod ((rl.drop 2).take j)) (val_canon _) ((hLl.drop 2) j (by omega)).1 ((hLl.drop 2) j (by omega)).2 (qv ((rl.drop 2).getD j fr0)) rfl (by omega) (by omega)) ?_
                  rintro _ w49 ⟨A50, m51, c52, A53, m54, c55, rfl, hGw49, hrn, hrd, hrm⟩
                  have hap_hrn_gj := ap_new hrn (hVgj.bl_ge _ rfl).2
                  have hap_hrd_gj := ap_new hrd (hVgj.bl_ge _ rfl).2
                  have hrn := hrn.low (b' := w.heap.size) hB.size
                  have hrd := hrd.low (b' := w.heap.size) hB.size
                  have hB := ext_trans hB hGw49
                  have hjn := hjn.ext hGw49
                  have hjd := hjd.ext hGw49
                  have hVgj := hVgj.ext hGw49
                  have hVgo := hVgo.ext hGw49
                  have hrn_l := hrn.rd.ulen
                  have hrd_l := hrd.rd.ulen
                  refine WL.storeV Try.el31 rfl rfl rfl rfl hVgj ?_
                  have hOld57 := hVgj
                  intro w56 hVgj hGw56
                  change Own _ _ _ _ _ _ _ [.bool (qneg ((qv (rl.getD 0 fr0) * qv (rl.getD 1 fr0) * qprod ((rl.drop 2).take j)) * (qv ((rl.drop 2).getD j fr0)))), .slice A50 m51 c52, .slice A53 m54 c55] at hVgj
                  have hB := ext_own hB hGw56 (fun g hg => (hOld57.bl_ge g hg).1)
                  have hVgo := hVgo.grown hGw56 (apart (by omega))
                  have hrn := hrn.grown hGw56 (ap_row hap_hrn_gj)
                  have hrd := hrd.grown hGw56 (ap_row hap_hrd_gj)
                  refine WL.done ?_
                  refine W.region ?_
                  refine WL.add (r := ((j + 1 : Nat) : Int)) rfl rfl (wi64 (by omega) (by omega) (by omega)) rfl ?_
                  refine WL.move rfl rfl ?_
                  refine WL.done ?_
                  refine ⟨(j + 1, A50, m51, c52, A53, m54, c55, 0), ⟨rfl, rfl, rfl, rfl, rfl, iv (by omega), iv (by omega), trivial⟩, by (dsimp only; omega), ?_⟩
                  clear hjn hjd
                  have e1 : qv (rl.getD 0 fr0) * qv (rl.getD 1 fr0) * qprod ((rl.drop 2).take j) * qv ((rl.drop 2).getD j fr0) = qv (rl.getD 0 fr0) * qv (rl.getD 1 fr0) * qprod ((rl.drop 2).take (j + 1)) := by rw [qprod_take (by simp; omega)]; simp only [Rat.mul_assoc]
                  rw [e1] at hrn hrd hVgj
                  exact ⟨hB, by omega, hrn, hrd, by omega, by omega, rfl, hVgj, hVgo⟩
              · refine WL.done ?_
                refine W.seq ?_
                refine W.condF rfl ?_
                refine W.exit ?_
                refine W.seq ?_
                refine W.region ?_
                refine WL.loadV (cs := [.bool (qneg (qv (rl.getD 0 fr0) * qv (rl.getD 1 fr0) * qprod ((rl.drop 2).take j))), .slice Aj mj cj, .slice Ak mk ck]) Try.el31 Try.agg31 rfl rfl hVgj.vcells rfl ?_
                refine WL.storeV Try.el31 rfl rfl rfl rfl hVgo ?_
                have hOld59 := hVgo
                intro w58 hVgo hGw58
                change Own _ _ _ _ _ _ _ [.bool (qneg (qv (rl.getD 0 fr0) * qv (rl.getD 1 fr0) * qprod ((rl.drop 2).take j))), .slice Aj mj cj, .slice Ak mk ck] at hVgo
                have hB := ext_own hB hGw58 (fun g hg => (hOld59.bl_ge g hg).1)
                have hjn := hjn.grown hGw58 (ap_row hap_hjn_go)
                have hjd := hjd.grown hGw58 (ap_row hap_hjd_go)
                refine WL.done ?_
                refine W.ret ?_
                refine ⟨[.agg #[.bool (qneg (qv (rl.getD 0 fr0) * qv (rl.getD 1 fr0) * qprod ((rl.drop 2).take j))), .slice Aj mj cj, .slice Ak mk ck]], ⟨_, _, _, rfl, rfl, run_loadV (cs := [.bool (qneg (qv (rl.getD 0 fr0) * qv (rl.getD 1 fr0) * qprod ((rl.drop 2).take j))), .slice Aj mj cj, .slice Ak mk ck]) Try.el31 Try.agg31 rfl hVgo.vcells, rfl⟩, ?_⟩
                have e2 : qv (rl.getD 0 fr0) * qv (rl.getD 1 fr0) * qprod ((rl.drop 2).take j) = qprod rl := by rw [List.take_of_length_le (by simp; omega), ← qprod_two (by omega)]
                rw [e2] at hjn hjd ⊢
                have hfl := fb_mono (K := K) (show j ≤ rl.length by omega)
                rw [hl_l] at hfl
                exact ⟨_, _, _, _, _, _, rfl, hB, hjn, hjd, by omega⟩
end Go.Proofs.Ythfpcebcfjlkmab
