/- Contracts of functions of the program, and what they lean on: W21, W22, W25, Rs. -/
import Derived.Test.YthfpcebcfjlkmacG8
set_option linter.unusedSimpArgs false
set_option linter.unusedVariables false
namespace Go.Proofs.Ythfpcebcfjlkmac
open Go.RowKit
theorem fold_sum_z {w : World} {Bl BNl : Nat} {Al : Option Addr} {ml cl : Nat} {cel : List Value} {rl : List Fr3} (hl : Rd Bl w 3 Al ml cl cel) (hNl : RatsR BNl w cel rl) {ne : Bool} {An Ad : Option Addr} {mn cn md cd : Nat} (hm : ml = 0) :
    Calls Try.prog 37 #[.slice Al ml cl, .agg #[.bool ne, .slice An mn cn, .slice Ad md cd], .func (.func 38) #[] #[]] w fun e w2 => ∃ v, e = .returned v ∧ (fun v w2 => v = .agg #[.bool ne, .slice An mn cn, .slice Ad md cd] ∧ w.grownBy w2 none) v w2 := by
  have hl := hl.norm
  have hNl := hNl.norm
  have hl_n := hl.len
  have hl_nn := hNl.len
  have hl_l : rl.length = ml := by omega
  have hl_x := hl.max
  simp only [maxLen] at hl_x
  have hl_c := hl.cap
  have hl0 := hl
  have hNl0 := hNl
  have hB := ext_refl w
  refine calls_of_Wc (vs := [.slice Al ml cl, .agg #[.bool ne, .slice An mn cn, .slice Ad md cd], .func (.func 38) #[] #[]]) [.cell 6 25] Try.func37 rfl rfl rfl rfl ?_
  refine W.seq ?_
  refine W.region ?_
  refine WL.box Try.el25 rfl rfl rfl ?_
  intro g11 w12 hg_g11 hVg11 hGw12
  change Own _ _ _ _ _ _ _ [.bool ne, .slice An mn cn, .slice Ad md cd] at hVg11
  have hVg11 := hVg11.low (b' := w.heap.size) hB.size
  have hB := ext_trans hB hGw12
  refine WL.alloc Try.el25 rfl ?_
  intro g13 w14 hg_g13 hVg13 hGw14
  change Own _ _ _ _ _ _ _ [.bool false, .slice none 0 0, .slice none 0 0] at hVg13
  have hlt_g11_g13 : g11 < g13 := by rw [hg_g13]; exact (hVg11.bl_ge _ rfl).2
  have hVg13 := hVg13.low (b' := w.heap.size) hB.size
  have hB := ext_trans hB hGw14
  have hVg11 := hVg11.ext hGw14
  refine WL.done ?_
  refine W.seq ?_
  refine W.seq ?_
  refine W.region ?_
  refine WL.move rfl rfl ?_
  refine WL.len Try.underlying35 rfl rfl ?_
  refine WL.eql rfl rfl rfl (fun c15 => ?_) (fun c15 => ?_)
  · refine WL.done ?_
    refine W.condT rfl ?_
    refine W.seq ?_
    refine W.region ?_
    refine WL.loadV (cs := [.bool ne, .slice An mn cn, .slice Ad md cd]) Try.el25 Try.agg25 rfl rfl hVg11.vcells rfl ?_
    refine WL.storeV Try.el25 rfl rfl rfl rfl hVg13 ?_
    have hOld17 := hVg13
    intro w16 hVg13 hGw16
    change Own _ _ _ _ _ _ _ [.bool ne, .slice An mn cn, .slice Ad md cd] at hVg13
    have hB := ext_own hB hGw16 (fun g hg => (hOld17.bl_ge g hg).1)
    refine WL.done ?_
    refine W.ret ?_
    refine ⟨[.agg #[.bool ne, .slice An mn cn, .slice Ad md cd]], ⟨_, _, _, rfl, rfl, run_loadV (cs := [.bool ne, .slice An mn cn, .slice Ad md cd]) Try.el25 Try.agg25 rfl hVg13.vcells, rfl⟩, ?_⟩
    exact ⟨rfl, hB⟩
  · exfalso
    omega

theorem fold_sum {w : World} {Bl BNl : Nat} {Al : Option Addr} {ml cl : Nat} {cel : List Value} {rl : List Fr3} (hl : Rd Bl w 3 Al ml cl cel) (hNl : RatsR BNl w cel rl) (hLl : RLim rl) {ne : Bool} {An Ad : Option Addr} {mn cn md cd : Nat} (K : Nat) (hK : RLen K rl) (hfb : fb K ml ≤ 4194304) (hm : 0 < ml) :
    Calls Try.prog 37 #[.slice Al ml cl, .agg #[.bool ne, .slice An mn cn, .slice Ad md cd], .func (.func 38) #[] #[]] w fun e w2 => ∃ v, e = .returned v ∧ (fun v w2 => ∃ A2 m2 c2 A3 m3 c3, v = .agg #[.bool (qneg (qsum rl)), .slice A2 m2 c2, .slice A3 m3 c3] ∧ w.grownBy w2 none ∧ Own w.heap.size w2 48 1 A2 m2 c2 (us (digs (qnum (qsum rl)))) ∧ Own w.heap.size w2 48 1 A3 m3 c3 (us (digs (Rat.den (qsum rl)))) ∧ m2 ≤ fb K ml ∧ m3 ≤ fb K ml) v w2 := by
  have hl := hl.norm
  have hNl := hNl.norm
  have hl_n := hl.len
  have hl_nn := hNl.len
  have hl_l : rl.length = ml := by omega
  have hl_x := hl.max
  simp only [maxLen] at hl_x
  have hl_c := hl.cap
  have hl0 := hl
  have hNl0 := hNl
  have hf0 := fb_zero K
  have hfm := fb_mono (K := K) (Nat.zero_le rl.length)
  have hfb2 := hfb
  rw [← hl_l] at hfb2
  have hdl : (rl.drop 2).length = ml - 2 := by simp; omega
  have hB := ext_refl w
  refine calls_of_Wc (vs := [.slice Al ml cl, .agg #[.bool ne, .slice An mn cn, .slice Ad md cd], .func (.func 38) #[] #[]]) [.cell 6 25] Try.func37 rfl rfl rfl rfl ?_
  refine W.seq ?_
  refine W.region ?_
  refine WL.box Try.el25 rfl rfl rfl ?_
  intro ge w11 hg_ge hVge hGw11
  change Own _ _ _ _ _ _ _ [.bool ne, .slice An mn cn, .slice Ad md cd] at hVge
  have hVge := hVge.low (b' := w.heap.size) hB.size
  have hB := ext_trans hB hGw11
  have hl := hl0.ext hB
  have hNl := hNl0.ext hB
  refine WL.alloc Try.el25 rfl ?_
  intro go w12 hg_go hVgo hGw12
  change Own _ _ _ _ _ _ _ [.bool false, .slice none 0 0, .slice none 0 0] at hVgo
  have hlt_ge_go : ge < go := by rw [hg_go]; exact (hVge.bl_ge _ rfl).2
  have hVgo := hVgo.low (b' := w.heap.size) hB.size
  have hB := ext_trans hB hGw12
  have hl := hl0.ext hB
  have hNl := hNl0.ext hB
  have hVge := hVge.ext hGw12
  refine WL.done ?_
  refine W.seq ?_
  refine W.seq ?_
  refine W.region ?_
  refine WL.move rfl rfl ?_
  refine WL.len Try.underlying35 rfl rfl ?_
  refine WL.eql rfl rfl rfl (fun hm0 => ?_) (fun hm0 => ?_)
  · exfalso
    omega
  · refine WL.done ?_
    refine W.condF rfl ?_
    refine W.skip ?_
    refine W.seq ?_
    refine W.seq ?_
    refine W.region ?_
    refine WL.move rfl rfl ?_
    refine WL.len Try.underlying35 rfl rfl ?_
    refine WL.eql rfl rfl rfl (fun hm1 => ?_) (fun hm1 => ?_)
    · refine WL.done ?_
      refine W.condT rfl ?_
      refine W.seq ?_
      have hk0 := hK 0 (by omega); have hu0 := (hNl0.rd1 0 (by omega)).ulen; have hu1 := (hNl0.rd2 0 (by omega)).ulen
      · refine W.region ?_
        refine WL.move rfl rfl ?_
        refine WL.index (0) Try.underlying35 Try.el25 rfl rfl (by omega) (by omega) hl rfl ?_
        refine WL.loadV (cs := [.bool (rl.getD 0 fr0).1, .slice (sA (cel.getD (0 * 3 + 1) undef)) (sM (cel.getD (0 * 3 + 1) undef)) (sC (cel.getD (0 * 3 + 1) undef)), .slice (sA (cel.getD (0 * 3 + 2) undef)) (sM (cel.getD (0 * 3 + 2) undef)) (sC (cel.getD (0 * 3 + 2) undef))]) Try.el25 Try.agg25 rfl rfl (hNl.load hl 0 (by omega)) rfl ?_
        refine WL.call Try.func15 rfl Try.nm15 rfl rfl (qTrim_c (hNl.rd1 0 (by omega)) (hNl.rd2 0 (by omega)) (hLl 0 (by omega)).1 (hLl 0 (by omega)).2 (qv (rl.getD 0 fr0)) rfl (by omega)) ?_
        rintro _ w15 ⟨A16, m17, c18, A19, m20, c21, rfl, hGw15, hrn, hrd, hrm⟩
        have hap_hrn_go := ap_new hrn (hVgo.bl_ge _ rfl).2
        have hap_hrd_go := ap_new hrd (hVgo.bl_ge _ rfl).2
        have hrn := hrn.low (b' := w.heap.size) hB.size
        have hrd := hrd.low (b' := w.heap.size) hB.size
        have hB := ext_trans hB hGw15
        have hVgo := hVgo.ext hGw15
        have hrn_l := hrn.rd.ulen
        have hrd_l := hrd.rd.ulen
        refine WL.storeV Try.el25 rfl rfl rfl rfl hVgo ?_
        have hOld23 := hVgo
        intro w22 hVgo hGw22
        change Own _ _ _ _ _ _ _ [.bool (qneg ((qv (rl.getD 0 fr0)))), .slice A16 m17 c18, .slice A19 m20 c21] at hVgo
        have hB := ext_own hB hGw22 (fun g hg => (hOld23.bl_ge g hg).1)
        have hrn := hrn.grown hGw22 (ap_row hap_hrn_go)
        have hrd := hrd.grown hGw22 (ap_row hap_hrd_go)
        refine WL.done ?_
        refine W.ret ?_
        refine ⟨[.agg #[.bool (qneg ((qv (rl.getD 0 fr0)))), .slice A16 m17 c18, .slice A19 m20 c21]], ⟨_, _, _, rfl, rfl, run_loadV (cs := [.bool (qneg ((qv (rl.getD 0 fr0)))), .slice A16 m17 c18, .slice A19 m20 c21]) Try.el25 Try.agg25 rfl hVgo.vcells, rfl⟩, ?_⟩
        have e1 := qsum_one (rs := rl) (by omega)
        rw [e1]
        rw [hl_l] at hfm
        exact ⟨_, _, _, _, _, _, rfl, hB, hrn, hrd, by omega⟩
    · refine WL.done ?_
      refine W.condF rfl ?_
      refine W.skip ?_
      refine W.seq ?_
      have hk0 := hK 0 (by omega); have hk1 := hK 1 (by omega); have hu0 := (hNl0.rd1 0 (by omega)).ulen; have hu1 := (hNl0.rd2 0 (by omega)).ulen; have hu2 := (hNl0.rd1 1 (by omega)).ulen; have hu3 := (hNl0.rd2 1 (by omega)).ulen
      · refine W.drawT 9 [⟨[], [2], true⟩, ⟨[], [0], true⟩, ⟨[1], [], true⟩, ⟨[2], [], false⟩, ⟨[], [0], true⟩, ⟨[4], [], true⟩, ⟨[5], [], false⟩, ⟨[0, 3, 6], [], false⟩, ⟨[], [], false⟩] [[(2, .func (.func 38) #[] #[])], [(0, .slice Al ml cl)], [], [], [(0, .slice Al ml cl)], [], [], [], []] (fun iQ => [fun v wQ => v = .func (.func 38) #[] #[], fun v wQ => v = .slice Al ml cl, fun v wQ => v = .pointer (some ((adOf Al).add (0 * 3))), fun v wQ => v = .agg #[.bool (rl.getD 0 fr0).1, .slice (sA (cel.getD (0 * 3 + 1) undef)) (sM (cel.getD (0 * 3 + 1) undef)) (sC (cel.getD (0 * 3 + 1) undef)), .slice (sA (cel.getD (0 * 3 + 2) undef)) (sM (cel.getD (0 * 3 + 2) undef)) (sC (cel.getD (0 * 3 + 2) undef))], fun v wQ => v = .slice Al ml cl, fun v wQ => v = .pointer (some ((adOf Al).add (1 * 3))), fun v wQ => v = .agg #[.bool (rl.getD 1 fr0).1, .slice (sA (cel.getD (1 * 3 + 1) undef)) (sM (cel.getD (1 * 3 + 1) undef)) (sC (cel.getD (1 * 3 + 1) undef)), .slice (sA (cel.getD (1 * 3 + 2) undef)) (sM (cel.getD (1 * 3 + 2) undef)) (sC (cel.getD (1 * 3 + 2) undef))], fun v wQ => ∃ A33 m34 c35 A36 m37 c38, v = .agg #[.bool (qneg ((qv (rl.getD 0 fr0)) + (qv (rl.getD 1 fr0)))), .slice A33 m34 c35, .slice A36 m37 c38] ∧ (Own w.heap.size wQ 48 1 A33 m34 c35 (us (digs (qnum ((qv (rl.getD 0 fr0)) + (qv (rl.getD 1 fr0))))))) ∧ (Own w.heap.size wQ 48 1 A36 m37 c38 (us (digs (Rat.den ((qv (rl.getD 0 fr0)) + (qv (rl.getD 1 fr0))))))) ∧ (m34 ≤ max ((sM (cel.getD (0 * 3 + 1) undef)) + (sM (cel.getD (1 * 3 + 2) undef))) ((sM (cel.getD (1 * 3 + 1) undef)) + (sM (cel.getD (0 * 3 + 2) undef))) + 1 ∧ m37 ≤ (sM (cel.getD (0 * 3 + 2) undef)) + (sM (cel.getD (1 * 3 + 2) undef)) + 1) ∧ (∀ k, bl A33 = some k → k ≠ ge) ∧ (∀ k, bl A33 = some k → k ≠ go) ∧ (∀ k, bl A36 = some k → k ≠ ge) ∧ (∀ k, bl A36 = some k → k ≠ go), fun v wQ => ∃ gj, v = .pointer (some ⟨gj, 0, none⟩) ∧ (Own w.heap.size wQ 25 3 (some ⟨gj, 0, none⟩) 1 1 [.bool false, .slice none 0 0, .slice none 0 0]) ∧ (ge < gj) ∧ (go < gj)].getD iQ (fun _ _ => True)) Try.mixed (by kernel_rfl) ?_ ?_ ?_
        · refine Vs_monoT _ ?_
          intro VQ hVQ vQ wQ1 wQ2 hQ1 hQ2
          simp only [List.mem_cons, List.not_mem_nil, or_false] at hVQ
          rcases hVQ with rfl | rfl | rfl | rfl | rfl | rfl | rfl | rfl | rfl
          · exact hQ1
          · exact hQ1
          · exact hQ1
          · exact hQ1
          · exact hQ1
          · exact hQ1
          · exact hQ1
          · obtain ⟨A33, m34, c35, A36, m37, c38, hQe, hjn, hjd, hjm, hap_hjn_ge, hap_hjn_go, hap_hjd_ge, hap_hjd_go⟩ := hQ1
            exact ⟨A33, m34, c35, A36, m37, c38, hQe, hjn.ext hQ2, hjd.ext hQ2, hjm, hap_hjn_ge, hap_hjn_go, hap_hjd_ge, hap_hjd_go⟩
          · obtain ⟨gj, hQe, hVgj, hlt_ge_gj, hlt_go_gj⟩ := hQ1
            exact ⟨gj, hQe, hVgj.ext hQ2, hlt_ge_gj, hlt_go_gj⟩
        · refine ⟨⟨rfl, ⟨rfl, trivial⟩, ?_⟩, ⟨rfl, ⟨rfl, trivial⟩, ?_⟩, ⟨rfl, trivial, ?_⟩, ⟨rfl, trivial, ?_⟩, ⟨rfl, ⟨rfl, trivial⟩, ?_⟩, ⟨rfl, trivial, ?_⟩, ⟨rfl, trivial, ?_⟩, ⟨rfl, trivial, ?_⟩, ⟨rfl, trivial, ?_⟩, trivial⟩
          · intro w24 hE
            intro R
            refine WL.move rfl rfl ?_
            exact WL.done ⟨_, rfl, rfl, rfl⟩
          · intro w25 hE
            intro R
            refine WL.move rfl rfl ?_
            exact WL.done ⟨_, rfl, rfl, rfl⟩
          · intro w26 hE
            rintro _ rfl
            intro R
            refine WL.index (0) Try.underlying35 Try.el25 rfl rfl (by omega) (by omega) hl rfl ?_
            exact WL.done ⟨_, rfl, rfl, rfl⟩
          · intro w27 hE
            have hE := hE rfl
            have hB := ext_trans hB hE
            have hl := hl0.ext hB
            have hNl := hNl0.ext hB
            rintro _ rfl
            intro R
            refine WL.loadV (cs := [.bool (rl.getD 0 fr0).1, .slice (sA (cel.getD (0 * 3 + 1) undef)) (sM (cel.getD (0 * 3 + 1) undef)) (sC (cel.getD (0 * 3 + 1) undef)), .slice (sA (cel.getD (0 * 3 + 2) undef)) (sM (cel.getD (0 * 3 + 2) undef)) (sC (cel.getD (0 * 3 + 2) undef))]) Try.el25 Try.agg25 rfl rfl (hNl.load hl 0 (by omega)) rfl ?_
            exact WL.done ⟨_, rfl, ext_refl _, rfl⟩
          · intro w28 hE
            intro R
            refine WL.move rfl rfl ?_
            exact WL.done ⟨_, rfl, rfl, rfl⟩
          · intro w29 hE
            rintro _ rfl
            intro R
            refine WL.index (1) Try.underlying35 Try.el25 rfl rfl (by omega) (by omega) hl rfl ?_
            exact WL.done ⟨_, rfl, rfl, rfl⟩
          · intro w30 hE
            have hE := hE rfl
            have hB := ext_trans hB hE
            have hl := hl0.ext hB
            have hNl := hNl0.ext hB
            rintro _ rfl
            intro R
            refine WL.loadV (cs := [.bool (rl.getD 1 fr0).1, .slice (sA (cel.getD (1 * 3 + 1) undef)) (sM (cel.getD (1 * 3 + 1) undef)) (sC (cel.getD (1 * 3 + 1) undef)), .slice (sA (cel.getD (1 * 3 + 2) undef)) (sM (cel.getD (1 * 3 + 2) undef)) (sC (cel.getD (1 * 3 + 2) undef))]) Try.el25 Try.agg25 rfl rfl (hNl.load hl 1 (by omega)) rfl ?_
            exact WL.done ⟨_, rfl, ext_refl _, rfl⟩
          · intro w31 hE
            have hE := hE rfl
            have hB := ext_trans hB hE
            have hNl := hNl0.ext hB
            have hVge := hVge.ext hE
            have hVgo := hVgo.ext hE
            rintro _ rfl
            rintro _ rfl
            rintro _ rfl
            intro R
            refine WL.callv rfl Try.func38 rfl Try.nm38 rfl rfl (sum_c (hNl.rd1 0 (by omega)) (hNl.rd2 0 (by omega)) (hNl.rd1 1 (by omega)) (hNl.rd2 1 (by omega)) (hLl 0 (by omega)).1 (hLl 0 (by omega)).2 (qv (rl.getD 0 fr0)) rfl (hLl 1 (by omega)).1 (hLl 1 (by omega)).2 (qv (rl.getD 1 fr0)) rfl (by omega) (by omega)) ?_
            rintro _ w32 ⟨A33, m34, c35, A36, m37, c38, rfl, hGw32, hjn, hjd, hjm⟩
            have hap_hjn_ge := ap_new hjn (hVge.bl_ge _ rfl).2
            have hap_hjn_go := ap_new hjn (hVgo.bl_ge _ rfl).2
            have hap_hjd_ge := ap_new hjd (hVge.bl_ge _ rfl).2
            have hap_hjd_go := ap_new hjd (hVgo.bl_ge _ rfl).2
            have hjn := hjn.low (b' := w.heap.size) hB.size
            have hjd := hjd.low (b' := w.heap.size) hB.size
            have hB := ext_trans hB hGw32
            have hjn_l := hjn.rd.ulen
            have hjd_l := hjd.rd.ulen
            exact WL.done ⟨_, rfl, hGw32, ⟨A33, m34, c35, A36, m37, c38, rfl, hjn, hjd, hjm, hap_hjn_ge, hap_hjn_go, hap_hjd_ge, hap_hjd_go⟩⟩
          · intro w39 hE
            have hE := hE rfl
            have hB := ext_trans hB hE
            have hVge := hVge.ext hE
            have hVgo := hVgo.ext hE
            intro R
            refine WL.alloc Try.el25 rfl ?_
            intro gj w40 hg_gj hVgj hGw40
            change Own _ _ _ _ _ _ _ [.bool false, .slice none 0 0, .slice none 0 0] at hVgj
            have hlt_ge_gj : ge < gj := by rw [hg_gj]; exact (hVge.bl_ge _ rfl).2
            have hlt_go_gj : go < gj := by rw [hg_gj]; exact (hVgo.bl_ge _ rfl).2
            have hVgj := hVgj.low (b' := w.heap.size) hB.size
            have hB := ext_trans hB hGw40
            exact WL.done ⟨_, rfl, hGw40, ⟨gj, rfl, hVgj, hlt_ge_gj, hlt_go_gj⟩⟩
        · intro vals w41 hT hVs
          have hB := ext_trans hB hT
          have hl := hl0.ext hB
          have hNl := hNl0.ext hB
          have hVgo := hVgo.ext hT
          have hv0 : vals 0 = _ := hVs 0 (by decide)
          have hv1 : vals 1 = _ := hVs 1 (by decide)
          have hv2 : vals 2 = _ := hVs 2 (by decide)
          have hv3 : vals 3 = _ := hVs 3 (by decide)
          have hv4 : vals 4 = _ := hVs 4 (by decide)
          have hv5 : vals 5 = _ := hVs 5 (by decide)
          have hv6 : vals 6 = _ := hVs 6 (by decide)
          obtain ⟨A33, m34, c35, A36, m37, c38, hv7, hjn, hjd, hjm, hap_hjn_ge, hap_hjn_go, hap_hjd_ge, hap_hjd_go⟩ := hVs 7 (by decide)
          obtain ⟨gj, hv8, hVgj, hlt_ge_gj, hlt_go_gj⟩ := hVs 8 (by decide)
          have hap_hjn_gj := ap_type hjn hVgj (by decide)
          have hap_hjd_gj := ap_type hjd hVgj (by decide)
          rw [show (List.filterMap (fun i => Option.map (fun t => (t, vals i)) (dstAt _ i)) (List.range _)) = [(21, .func (.func 38) #[] #[]), (22, .slice Al ml cl), (23, .pointer (some ((adOf Al).add (0 * 3)))), (24, .agg #[.bool (rl.getD 0 fr0).1, .slice (sA (cel.getD (0 * 3 + 1) undef)) (sM (cel.getD (0 * 3 + 1) undef)) (sC (cel.getD (0 * 3 + 1) undef)), .slice (sA (cel.getD (0 * 3 + 2) undef)) (sM (cel.getD (0 * 3 + 2) undef)) (sC (cel.getD (0 * 3 + 2) undef))]), (25, .slice Al ml cl), (26, .pointer (some ((adOf Al).add (1 * 3)))), (27, .agg #[.bool (rl.getD 1 fr0).1, .slice (sA (cel.getD (1 * 3 + 1) undef)) (sM (cel.getD (1 * 3 + 1) undef)) (sC (cel.getD (1 * 3 + 1) undef)), .slice (sA (cel.getD (1 * 3 + 2) undef)) (sM (cel.getD (1 * 3 + 2) undef)) (sC (cel.getD (1 * 3 + 2) undef))]), (28, .agg #[.bool (qneg ((qv (rl.getD 0 fr0)) + (qv (rl.getD 1 fr0)))), .slice A33 m34 c35, .slice A36 m37 c38]), (7, .pointer (some ⟨gj, 0, none⟩))] from by
            show [(21, vals 0), (22, vals 1), (23, vals 2), (24, vals 3), (25, vals 4), (26, vals 5), (27, vals 6), (28, vals 7), (7, vals 8)] = _
            rw [hv0, hv1, hv2, hv3, hv4, hv5, hv6, hv7, hv8]]
          refine WA.step [9] (by decide +kernel) rfl ?_
          intro iQ hQ
          simp only [List.mem_cons, List.not_mem_nil, or_false] at hQ
          obtain rfl := hQ
          · refine ⟨_, rfl, ?_⟩
            refine WL.storeV Try.el25 rfl rfl rfl rfl hVgj ?_
            have hOld43 := hVgj
            intro w42 hVgj hGw42
            change Own _ _ _ _ _ _ _ [.bool (qneg ((qv (rl.getD 0 fr0)) + (qv (rl.getD 1 fr0)))), .slice A33 m34 c35, .slice A36 m37 c38] at hVgj
            have hB := ext_own hB hGw42 (fun g hg => (hOld43.bl_ge g hg).1)
            have hl := hl0.ext hB
            have hNl := hNl0.ext hB
            have hVgo := hVgo.grown hGw42 (apart (by omega))
            have hjn := hjn.grown hGw42 (ap_row hap_hjn_gj)
            have hjd := hjd.grown hGw42 (ap_row hap_hjd_gj)
            refine WL.done ?_
            refine WA.done (by decide +kernel) ?_
            refine W.seq ?_
            refine W.seq ?_
            refine W.region ?_
            refine WL.move rfl rfl ?_
            refine WL.slFrom (2) Try.underlying35 Try.el25 rfl rfl (by omega) (by omega) rfl ?_
            refine WL.len Try.underlying35 rfl rfl ?_
            refine WL.move rfl rfl ?_
            refine WL.done ?_
            refine W.block ?_
            refine W.loop (σ := Nat × Option Addr × Nat × Nat × Option Addr × Nat × Nat × Nat) (fun s w1 => match s with | (j, Aj, mj, cj, Ak, mk, ck, gx) => w.grownBy w1 none ∧ j ≤ ml - 2 ∧ Own w.heap.size w1 48 1 Aj mj cj (us (digs (qnum (qv (rl.getD 0 fr0) + qv (rl.getD 1 fr0) + qsum ((rl.drop 2).take j))))) ∧ Own w.heap.size w1 48 1 Ak mk ck (us (digs (Rat.den (qv (rl.getD 0 fr0) + qv (rl.getD 1 fr0) + qsum ((rl.drop 2).take j))))) ∧ mj ≤ fb K j ∧ mk ≤ fb K j ∧ gx = 0 ∧ Own w.heap.size w1 25 3 (some ⟨gj, 0, none⟩) 1 1 [.bool (qneg (qv (rl.getD 0 fr0) + qv (rl.getD 1 fr0) + qsum ((rl.drop 2).take j))), .slice Aj mj cj, .slice Ak mk ck] ∧ Own w.heap.size w1 25 3 (some ⟨go, 0, none⟩) 1 1 [.bool false, .slice none 0 0, .slice none 0 0]) (fun s => match s with | (j, Aj, mj, cj, Ak, mk, ck, gx) => [(0, .slice Al ml cl), (2, .func (.func 38) #[] #[]), (6, .pointer (some ⟨go, 0, none⟩)), (7, .pointer (some ⟨gj, 0, none⟩)), (30, .slice (if cl = 2 then Al else (Al).map (·.add (2 * 3))) (ml - 2) (cl - 2)), (31, .int .i64 ((ml - 2 : Nat) : Int)), (32, .int .i64 ((j : Nat) : Int))]) (fun s => match s with | (j, Aj, mj, cj, Ak, mk, ck, gx) => ml - 2 - j) (0, A33, m34, c35, A36, m37, c38, 0) ?_ ?_ ?_
            · have e0 : qv (rl.getD 0 fr0) + qv (rl.getD 1 fr0) = qv (rl.getD 0 fr0) + qv (rl.getD 1 fr0) + qsum ((rl.drop 2).take 0) := by rw [List.take_zero]; exact (Rat.add_zero _).symm
              rw [e0] at hjn hjd hVgj
              exact ⟨hB, by omega, hjn, hjd, by rw [hf0]; omega, by rw [hf0]; omega, rfl, hVgj, hVgo⟩
            · exact ⟨rfl, rfl, rfl, rfl, rfl, iv (by omega), iv (by omega), trivial⟩
            · rintro ⟨j, Aj, mj, cj, Ak, mk, ck, gx⟩ w44 ⟨hB, hj, hjn, hjd, hbj, hbk, hgx, hVgj, hVgo⟩
              have hl := hl0.ext hB
              have hNl := hNl0.ext hB
              have hjn_l := hjn.rd.ulen
              have hjd_l := hjd.rd.ulen
              have hap_hjn_go := ap_type hjn hVgo (by decide)
              have hap_hjd_go := ap_type hjd hVgo (by decide)
              refine W.seq ?_
              refine W.region ?_
              refine WL.lss rfl rfl rfl (fun c45 => ?_) (fun c45 => ?_)
              · refine WL.done ?_
                refine W.seq ?_
                refine W.condT rfl ?_
                refine W.skip ?_
                refine W.seq ?_
                refine W.block ?_
                refine W.seq ?_
                skip; have hkj := hK (2 + j) (by omega); have hv1 := ((hNl0.drop 2).rd1 j (by simp; omega)).ulen; have hv2 := ((hNl0.drop 2).rd2 j (by simp; omega)).ulen; rw [getD_frdrop] at hv1 hv2; have hfs := fb_succ K j; have hfj := fb_mono (K := K) (show j ≤ rl.length by omega)
                · refine W.region ?_
                  refine WL.index (j) Try.underlying35 Try.el25 rfl rfl (by omega) (by omega) (hl.drop (k := 2) (by omega)) rfl ?_
                  refine WL.loadV (cs := [.bool ((rl.drop 2).getD j fr0).1, .slice (sA ((cel.drop (2 * 3)).getD (j * 3 + 1) undef)) (sM ((cel.drop (2 * 3)).getD (j * 3 + 1) undef)) (sC ((cel.drop (2 * 3)).getD (j * 3 + 1) undef)), .slice (sA ((cel.drop (2 * 3)).getD (j * 3 + 2) undef)) (sM ((cel.drop (2 * 3)).getD (j * 3 + 2) undef)) (sC ((cel.drop (2 * 3)).getD (j * 3 + 2) undef))]) Try.el25 Try.agg25 rfl rfl ((hNl.drop 2).load (hl.drop (k := 2) (by omega)) j (by omega)) rfl ?_
                  refine WL.alloc Try.el25 rfl ?_
                  intro gn w46 hg_gn hVgn hGw46
                  change Own _ _ _ _ _ _ _ [.bool false, .slice none 0 0, .slice none 0 0] at hVgn
                  have hlt_go_gn : go < gn := by rw [hg_gn]; exact (hVgo.bl_ge _ rfl).2
                  have hlt_gj_gn : gj < gn := by rw [hg_gn]; exact (hVgj.bl_ge _ rfl).2
                  have hap_hjn_gn := ap_old hjn hg_gn
                  have hap_hjd_gn := ap_old hjd hg_gn
                  have hVgn := hVgn.low (b' := w.heap.size) hB.size
                  have hB := ext_trans hB hGw46
                  have hNl := hNl0.ext hB
                  have hjn := hjn.ext hGw46
                  have hjd := hjd.ext hGw46
                  have hVgj := hVgj.ext hGw46
                  have hVgo := hVgo.ext hGw46
                  refine WL.storeV Try.el25 rfl rfl rfl rfl hVgn ?_
                  have hOld48 := hVgn
                  intro w47 hVgn hGw47
                  change Own _ _ _ _ _ _ _ [.bool ((rl.drop 2).getD j fr0).1, .slice (sA ((cel.drop (2 * 3)).getD (j * 3 + 1) undef)) (sM ((cel.drop (2 * 3)).getD (j * 3 + 1) undef)) (sC ((cel.drop (2 * 3)).getD (j * 3 + 1) undef)), .slice (sA ((cel.drop (2 * 3)).getD (j * 3 + 2) undef)) (sM ((cel.drop (2 * 3)).getD (j * 3 + 2) undef)) (sC ((cel.drop (2 * 3)).getD (j * 3 + 2) undef))] at hVgn
                  have hB := ext_own hB hGw47 (fun g hg => (hOld48.bl_ge g hg).1)
                  have hNl := hNl0.ext hB
                  have hjn := hjn.grown hGw47 (ap_row hap_hjn_gn)
                  have hjd := hjd.grown hGw47 (ap_row hap_hjd_gn)
                  have hVgj := hVgj.grown hGw47 (apart (by omega))
                  have hVgo := hVgo.grown hGw47 (apart (by omega))
                  refine WL.done ?_
                  refine W.region ?_
                  refine WL.move rfl rfl ?_
                  refine WL.loadV (cs := [.bool (qneg (qv (rl.getD 0 fr0) + qv (rl.getD 1 fr0) + qsum ((rl.drop 2).take j))), .slice Aj mj cj, .slice Ak mk ck]) Try.el25 Try.agg25 rfl rfl hVgj.vcells rfl ?_
                  refine WL.loadV (cs := [.bool ((rl.drop 2).getD j fr0).1, .slice (sA ((cel.drop (2 * 3)).getD (j * 3 + 1) undef)) (sM ((cel.drop (2 * 3)).getD (j * 3 + 1) undef)) (sC ((cel.drop (2 * 3)).getD (j * 3 + 1) undef)), .slice (sA ((cel.drop (2 * 3)).getD (j * 3 + 2) undef)) (sM ((cel.drop (2 * 3)).getD (j * 3 + 2) undef)) (sC ((cel.drop (2 * 3)).getD (j * 3 + 2) undef))]) Try.el25 Try.agg25 rfl rfl hVgn.vcells rfl ?_
                  refine WL.callv rfl Try.func38 rfl Try.nm38 rfl rfl (sum_c hjn.rd hjd.rd ((hNl.drop 2).rd1 j (by omega)) ((hNl.drop 2).rd2 j (by omega)) (digs_lim _) (digs_lim _) (qv (rl.getD 0 fr0) + qv (rl.getD 1 fr0) + qsum ((rl.drop 2).take j)) (val_canon _) ((hLl.drop 2) j (by omega)).1 ((hLl.drop 2) j (by omega)).2 (qv ((rl.drop 2).getD j fr0)) rfl (by omega) (by omega)) ?_
                  rintro _ w49 ⟨A50, m51, c52, A53, m54, c55, rfl, hGw49, hrn, hrd, hrm⟩
                  have hap_hrn_gj := ap_new hrn (hVgj.bl_ge _ rfl).2
                  have hap_hrd_gj := ap_new hrd (hVgj.bl_ge _ rfl).2
                  have hrn := hrn.low (b' := w.heap.size) hB.size
                  have hrd := hrd.low (b' := w.heap.size) hB.size
                  have hB := ext_trans hB hGw49
                  have hjn := hjn.ext hGw49
                  have hjd := hjd.ext hGw49
                  have hVgj := hVgj.ext hGw49
                  have hVgo := hVgo.ext hGw49
                  have hrn_l := hrn.rd.ulen
                  have hrd_l := hrd.rd.ulen
                  refine WL.storeV Try.el25 rfl rfl rfl rfl hVgj ?_
                  have hOld57 := hVgj
                  intro w56 hVgj hGw56
                  change Own _ _ _ _ _ _ _ [.bool (qneg ((qv (rl.getD 0 fr0) + qv (rl.getD 1 fr0) + qsum ((rl.drop 2).take j)) + (qv ((rl.drop 2).getD j fr0)))), .slice A50 m51 c52, .slice A53 m54 c55] at hVgj
                  have hB := ext_own hB hGw56 (fun g hg => (hOld57.bl_ge g hg).1)
                  have hVgo := hVgo.grown hGw56 (apart (by omega))
                  have hrn := hrn.grown hGw56 (ap_row hap_hrn_gj)
                  have hrd := hrd.grown hGw56 (ap_row hap_hrd_gj)
                  refine WL.done ?_
                  refine W.region ?_
                  refine WL.add (r := ((j + 1 : Nat) : Int)) rfl rfl (wi64 (by omega) (by omega) (by omega)) rfl ?_
                  refine WL.move rfl rfl ?_
                  refine WL.done ?_
                  refine ⟨(j + 1, A50, m51, c52, A53, m54, c55, 0), ⟨rfl, rfl, rfl, rfl, rfl, iv (by omega), iv (by omega), trivial⟩, by (dsimp only; omega), ?_⟩
                  clear hjn hjd
                  have e1 : qv (rl.getD 0 fr0) + qv (rl.getD 1 fr0) + qsum ((rl.drop 2).take j) + qv ((rl.drop 2).getD j fr0) = qv (rl.getD 0 fr0) + qv (rl.getD 1 fr0) + qsum ((rl.drop 2).take (j + 1)) := by rw [qsum_take (by simp; omega)]; simp only [Rat.add_assoc]
                  rw [e1] at hrn hrd hVgj
                  exact ⟨hB, by omega, hrn, hrd, by omega, by omega, rfl, hVgj, hVgo⟩
              · refine WL.done ?_
                refine W.seq ?_
                refine W.condF rfl ?_
                refine W.exit ?_
                refine W.seq ?_
                refine W.region ?_
                refine WL.loadV (cs := [.bool (qneg (qv (rl.getD 0 fr0) + qv (rl.getD 1 fr0) + qsum ((rl.drop 2).take j))), .slice Aj mj cj, .slice Ak mk ck]) Try.el25 Try.agg25 rfl rfl hVgj.vcells rfl ?_
                refine WL.storeV Try.el25 rfl rfl rfl rfl hVgo ?_
                have hOld59 := hVgo
                intro w58 hVgo hGw58
                change Own _ _ _ _ _ _ _ [.bool (qneg (qv (rl.getD 0 fr0) + qv (rl.getD 1 fr0) + qsum ((rl.drop 2).take j))), .slice Aj mj cj, .slice Ak mk ck] at hVgo
                have hB := ext_own hB hGw58 (fun g hg => (hOld59.bl_ge g hg).1)
                have hjn := hjn.grown hGw58 (ap_row hap_hjn_go)
                have hjd := hjd.grown hGw58 (ap_row hap_hjd_go)
                refine WL.done ?_
                refine W.ret ?_
                refine ⟨[.agg #[.bool (qneg (qv (rl.getD 0 fr0) + qv (rl.getD 1 fr0) + qsum ((rl.drop 2).take j))), .slice Aj mj cj, .slice Ak mk ck]], ⟨_, _, _, rfl, rfl, run_loadV (cs := [.bool (qneg (qv (rl.getD 0 fr0) + qv (rl.getD 1 fr0) + qsum ((rl.drop 2).take j))), .slice Aj mj cj, .slice Ak mk ck]) Try.el25 Try.agg25 rfl hVgo.vcells, rfl⟩, ?_⟩
                have e2 : qv (rl.getD 0 fr0) + qv (rl.getD 1 fr0) + qsum ((rl.drop 2).take j) = qsum rl := by rw [List.take_of_length_le (by simp; omega), ← qsum_two (by omega)]
                rw [e2] at hjn hjd ⊢
                have hfl := fb_mono (K := K) (show j ≤ rl.length by omega)
                rw [hl_l] at hfl
                exact ⟨_, _, _, _, _, _, rfl, hB, hjn, hjd, by omega⟩

theorem fold_prod_z {w : World} {Bl BNl : Nat} {Al : Option Addr} {ml cl : Nat} {cel : List Value} {rl : List Fr3} (hl : Rd Bl w 3 Al ml cl cel) (hNl : RatsR BNl w cel rl) {ne : Bool} {An Ad : Option Addr} {mn cn md cd : Nat} (hm : ml = 0) :
    Calls Try.prog 37 #[.slice Al ml cl, .agg #[.bool ne, .slice An mn cn, .slice Ad md cd], .func (.func 40) #[] #[]] w fun e w2 => ∃ v, e = .returned v ∧ (fun v w2 => v = .agg #[.bool ne, .slice An mn cn, .slice Ad md cd] ∧ w.grownBy w2 none) v w2 := by
  have hl := hl.norm
  have hNl := hNl.norm
  have hl_n := hl.len
  have hl_nn := hNl.len
  have hl_l : rl.length = ml := by omega
  have hl_x := hl.max
  simp only [maxLen] at hl_x
  have hl_c := hl.cap
  have hl0 := hl
  have hNl0 := hNl
  have hB := ext_refl w
  refine calls_of_Wc (vs := [.slice Al ml cl, .agg #[.bool ne, .slice An mn cn, .slice Ad md cd], .func (.func 40) #[] #[]]) [.cell 6 25] Try.func37 rfl rfl rfl rfl ?_
  refine W.seq ?_
  refine W.region ?_
  refine WL.box Try.el25 rfl rfl rfl ?_
  intro g11 w12 hg_g11 hVg11 hGw12
  change Own _ _ _ _ _ _ _ [.bool ne, .slice An mn cn, .slice Ad md cd] at hVg11
  have hVg11 := hVg11.low (b' := w.heap.size) hB.size
  have hB := ext_trans hB hGw12
  refine WL.alloc Try.el25 rfl ?_
  intro g13 w14 hg_g13 hVg13 hGw14
  change Own _ _ _ _ _ _ _ [.bool false, .slice none 0 0, .slice none 0 0] at hVg13
  have hlt_g11_g13 : g11 < g13 := by rw [hg_g13]; exact (hVg11.bl_ge _ rfl).2
  have hVg13 := hVg13.low (b' := w.heap.size) hB.size
  have hB := ext_trans hB hGw14
  have hVg11 := hVg11.ext hGw14
  refine WL.done ?_
  refine W.seq ?_
  refine W.seq ?_
  refine W.region ?_
  refine WL.move rfl rfl ?_
  refine WL.len Try.underlying35 rfl rfl ?_
  refine WL.eql rfl rfl rfl (fun c15 => ?_) (fun c15 => ?_)
  · refine WL.done ?_
    refine W.condT rfl ?_
    refine W.seq ?_
    refine W.region ?_
    refine WL.loadV (cs := [.bool ne, .slice An mn cn, .slice Ad md cd]) Try.el25 Try.agg25 rfl rfl hVg11.vcells rfl ?_
    refine WL.storeV Try.el25 rfl rfl rfl rfl hVg13 ?_
    have hOld17 := hVg13
    intro w16 hVg13 hGw16
    change Own _ _ _ _ _ _ _ [.bool ne, .slice An mn cn, .slice Ad md cd] at hVg13
    have hB := ext_own hB hGw16 (fun g hg => (hOld17.bl_ge g hg).1)
    refine WL.done ?_
    refine W.ret ?_
    refine ⟨[.agg #[.bool ne, .slice An mn cn, .slice Ad md cd]], ⟨_, _, _, rfl, rfl, run_loadV (cs := [.bool ne, .slice An mn cn, .slice Ad md cd]) Try.el25 Try.agg25 rfl hVg13.vcells, rfl⟩, ?_⟩
    exact ⟨rfl, hB⟩
  · exfalso
    omega

theorem fold_prod {w : World} {Bl BNl : Nat} {Al : Option Addr} {ml cl : Nat} {cel : List Value} {rl : List Fr3} (hl : Rd Bl w 3 Al ml cl cel) (hNl : RatsR BNl w cel rl) (hLl : RLim rl) {ne : Bool} {An Ad : Option Addr} {mn cn md cd : Nat} (K : Nat) (hK : RLen K rl) (hfb : fb K ml ≤ 4194304) (hm : 0 < ml) :
    Calls Try.prog 37 #[.slice Al ml cl, .agg #[.bool ne, .slice An mn cn, .slice Ad md cd], .func (.func 40) #[] #[]] w fun e w2 => ∃ v, e = .returned v ∧ (fun v w2 => ∃ A2 m2 c2 A3 m3 c3, v = .agg #[.bool (qneg (qprod rl)), .slice A2 m2 c2, .slice A3 m3 c3] ∧ w.grownBy w2 none ∧ Own w.heap.size w2 48 1 A2 m2 c2 (us (digs (qnum (qprod rl)))) ∧ Own w.heap.size w2 48 1 A3 m3 c3 (us (digs (Rat.den (qprod rl)))) ∧ m2 ≤ fb K ml ∧ m3 ≤ fb K ml) v w2 := by
  have hl := hl.norm
  have hNl := hNl.norm
  have hl_n := hl.len
  have hl_nn := hNl.len
  have hl_l : rl.length = ml := by omega
  have hl_x := hl.max
  simp only [maxLen] at hl_x
  have hl_c := hl.cap
  have hl0 := hl
  have hNl0 := hNl
  have hf0 := fb_zero K
  have hfm := fb_mono (K := K) (Nat.zero_le rl.length)
  have hfb2 := hfb
  rw [← hl_l] at hfb2
  have hdl : (rl.drop 2).length = ml - 2 := by simp; omega
  have hB := ext_refl w
  refine calls_of_Wc (vs := [.slice Al ml cl, .agg #[.bool ne, .slice An mn cn, .slice Ad md cd], .func (.func 40) #[] #[]]) [.cell 6 25] Try.func37 rfl rfl rfl rfl ?_
  refine W.seq ?_
  refine W.region ?_
  refine WL.box Try.el25 rfl rfl rfl ?_
  intro ge w11 hg_ge hVge hGw11
  change Own _ _ _ _ _ _ _ [.bool ne, .slice An mn cn, .slice Ad md cd] at hVge
  have hVge := hVge.low (b' := w.heap.size) hB.size
  have hB := ext_trans hB hGw11
  have hl := hl0.ext hB
  have hNl := hNl0.ext hB
  refine WL.alloc Try.el25 rfl ?_
  intro go w12 hg_go hVgo hGw12
  change Own _ _ _ _ _ _ _ [.bool false, .slice none 0 0, .slice none 0 0] at hVgo
  have hlt_ge_go : ge < go := by rw [hg_go]; exact (hVge.bl_ge _ rfl).2
  have hVgo := hVgo.low (b' := w.heap.size) hB.size
  have hB := ext_trans hB hGw12
  have hl := hl0.ext hB
  have hNl := hNl0.ext hB
  have hVge := hVge.ext hGw12
  refine WL.done ?_
  refine W.seq ?_
  refine W.seq ?_
  refine W.region ?_
  refine WL.move rfl rfl ?_
  refine WL.len Try.underlying35 rfl rfl ?_
  refine WL.eql rfl rfl rfl (fun hm0 => ?_) (fun hm0 => ?_)
  · exfalso
    omega
  · refine WL.done ?_
    refine W.condF rfl ?_
    refine W.skip ?_
    refine W.seq ?_
    refine W.seq ?_
    refine W.region ?_
    refine WL.move rfl rfl ?_
    refine WL.len Try.underlying35 rfl rfl ?_
    refine WL.eql rfl rfl rfl (fun hm1 => ?_) (fun hm1 => ?_)
    · refine WL.done ?_
      refine W.condT rfl ?_
      refine W.seq ?_
      have hk0 := hK 0 (by omega); have hu0 := (hNl0.rd1 0 (by omega)).ulen; have hu1 := (hNl0.rd2 0 (by omega)).ulen
      · refine W.region ?_
        refine WL.move rfl rfl ?_
        refine WL.index (0) Try.underlying35 Try.el25 rfl rfl (by omega) (by omega) hl rfl ?_
        refine WL.loadV (cs := [.bool (rl.getD 0 fr0).1, .slice (sA (cel.getD (0 * 3 + 1) undef)) (sM (cel.getD (0 * 3 + 1) undef)) (sC (cel.getD (0 * 3 + 1) undef)), .slice (sA (cel.getD (0 * 3 + 2) undef)) (sM (cel.getD (0 * 3 + 2) undef)) (sC (cel.getD (0 * 3 + 2) undef))]) Try.el25 Try.agg25 rfl rfl (hNl.load hl 0 (by omega)) rfl ?_
        refine WL.call Try.func15 rfl Try.nm15 rfl rfl (qTrim_c (hNl.rd1 0 (by omega)) (hNl.rd2 0 (by omega)) (hLl 0 (by omega)).1 (hLl 0 (by omega)).2 (qv (rl.getD 0 fr0)) rfl (by omega)) ?_
        rintro _ w15 ⟨A16, m17, c18, A19, m20, c21, rfl, hGw15, hrn, hrd, hrm⟩
        have hap_hrn_go := ap_new hrn (hVgo.bl_ge _ rfl).2
        have hap_hrd_go := ap_new hrd (hVgo.bl_ge _ rfl).2
        have hrn := hrn.low (b' := w.heap.size) hB.size
        have hrd := hrd.low (b' := w.heap.size) hB.size
        have hB := ext_trans hB hGw15
        have hVgo := hVgo.ext hGw15
        have hrn_l := hrn.rd.ulen
        have hrd_l := hrd.rd.ulen
        refine WL.storeV Try.el25 rfl rfl rfl rfl hVgo ?_
        have hOld23 := hVgo
        intro w22 hVgo hGw22
        change Own _ _ _ _ _ _ _ [.bool (qneg ((qv (rl.getD 0 fr0)))), .slice A16 m17 c18, .slice A19 m20 c21] at hVgo
        have hB := ext_own hB hGw22 (fun g hg => (hOld23.bl_ge g hg).1)
        have hrn := hrn.grown hGw22 (ap_row hap_hrn_go)
        have hrd := hrd.grown hGw22 (ap_row hap_hrd_go)
        refine WL.done ?_
        refine W.ret ?_
        refine ⟨[.agg #[.bool (qneg ((qv (rl.getD 0 fr0)))), .slice A16 m17 c18, .slice A19 m20 c21]], ⟨_, _, _, rfl, rfl, run_loadV (cs := [.bool (qneg ((qv (rl.getD 0 fr0)))), .slice A16 m17 c18, .slice A19 m20 c21]) Try.el25 Try.agg25 rfl hVgo.vcells, rfl⟩, ?_⟩
        have e1 := qprod_one (rs := rl) (by omega)
        rw [e1]
        rw [hl_l] at hfm
        exact ⟨_, _, _, _, _, _, rfl, hB, hrn, hrd, by omega⟩
    · refine WL.done ?_
      refine W.condF rfl ?_
      refine W.skip ?_
      refine W.seq ?_
      have hk0 := hK 0 (by omega); have hk1 := hK 1 (by omega); have hu0 := (hNl0.rd1 0 (by omega)).ulen; have hu1 := (hNl0.rd2 0 (by omega)).ulen; have hu2 := (hNl0.rd1 1 (by omega)).ulen; have hu3 := (hNl0.rd2 1 (by omega)).ulen
      · refine W.drawT 9 [⟨[], [2], true⟩, ⟨[], [0], true⟩, ⟨[1], [], true⟩, ⟨[2], [], false⟩, ⟨[], [0], true⟩, ⟨[4], [], true⟩, ⟨[5], [], false⟩, ⟨[0, 3, 6], [], false⟩, ⟨[], [], false⟩] [[(2, .func (.func 40) #[] #[])], [(0, .slice Al ml cl)], [], [], [(0, .slice Al ml cl)], [], [], [], []] (fun iQ => [fun v wQ => v = .func (.func 40) #[] #[], fun v wQ => v = .slice Al ml cl, fun v wQ => v = .pointer (some ((adOf Al).add (0 * 3))), fun v wQ => v = .agg #[.bool (rl.getD 0 fr0).1, .slice (sA (cel.getD (0 * 3 + 1) undef)) (sM (cel.getD (0 * 3 + 1) undef)) (sC (cel.getD (0 * 3 + 1) undef)), .slice (sA (cel.getD (0 * 3 + 2) undef)) (sM (cel.getD (0 * 3 + 2) undef)) (sC (cel.getD (0 * 3 + 2) undef))], fun v wQ => v = .slice Al ml cl, fun v wQ => v = .pointer (some ((adOf Al).add (1 * 3))), fun v wQ => v = .agg #[.bool (rl.getD 1 fr0).1, .slice (sA (cel.getD (1 * 3 + 1) undef)) (sM (cel.getD (1 * 3 + 1) undef)) (sC (cel.getD (1 * 3 + 1) undef)), .slice (sA (cel.getD (1 * 3 + 2) undef)) (sM (cel.getD (1 * 3 + 2) undef)) (sC (cel.getD (1 * 3 + 2) undef))], fun v wQ => ∃ A33 m34 c35 A36 m37 c38, v = .agg #[.bool (qneg ((qv (rl.getD 0 fr0)) * (qv (rl.getD 1 fr0)))), .slice A33 m34 c35, .slice A36 m37 c38] ∧ (Own w.heap.size wQ 48 1 A33 m34 c35 (us (digs (qnum ((qv (rl.getD 0 fr0)) * (qv (rl.getD 1 fr0))))))) ∧ (Own w.heap.size wQ 48 1 A36 m37 c38 (us (digs (Rat.den ((qv (rl.getD 0 fr0)) * (qv (rl.getD 1 fr0))))))) ∧ (m34 ≤ (sM (cel.getD (0 * 3 + 1) undef)) + (sM (cel.getD (1 * 3 + 1) undef)) ∧ m37 ≤ (sM (cel.getD (0 * 3 + 2) undef)) + (sM (cel.getD (1 * 3 + 2) undef)) + 1) ∧ (∀ k, bl A33 = some k → k ≠ ge) ∧ (∀ k, bl A33 = some k → k ≠ go) ∧ (∀ k, bl A36 = some k → k ≠ ge) ∧ (∀ k, bl A36 = some k → k ≠ go), fun v wQ => ∃ gj, v = .pointer (some ⟨gj, 0, none⟩) ∧ (Own w.heap.size wQ 25 3 (some ⟨gj, 0, none⟩) 1 1 [.bool false, .slice none 0 0, .slice none 0 0]) ∧ (ge < gj) ∧ (go < gj)].getD iQ (fun _ _ => True)) Try.mixed (by kernel_rfl) ?_ ?_ ?_
        · refine Vs_monoT _ ?_
          intro VQ hVQ vQ wQ1 wQ2 hQ1 hQ2
          simp only [List.mem_cons, List.not_mem_nil, or_false] at hVQ
          rcases hVQ with rfl | rfl | rfl | rfl | rfl | rfl | rfl | rfl | rfl
          · exact hQ1
          · exact hQ1
          · exact hQ1
          · exact hQ1
          · exact hQ1
          · exact hQ1
          · exact hQ1
          · obtain ⟨A33, m34, c35, A36, m37, c38, hQe, hjn, hjd, hjm, hap_hjn_ge, hap_hjn_go, hap_hjd_ge, hap_hjd_go⟩ := hQ1
            exact ⟨A33, m34, c35, A36, m37, c38, hQe, hjn.ext hQ2, hjd.ext hQ2, hjm, hap_hjn_ge, hap_hjn_go, hap_hjd_ge, hap_hjd_go⟩
          · obtain ⟨gj, hQe, hVgj, hlt_ge_gj, hlt_go_gj⟩ := hQ1
            exact ⟨gj, hQe, hVgj.ext hQ2, hlt_ge_gj, hlt_go_gj⟩
        · refine ⟨⟨rfl, ⟨rfl, trivial⟩, ?_⟩, ⟨rfl, ⟨rfl, trivial⟩, ?_⟩, ⟨rfl, trivial, ?_⟩, ⟨rfl, trivial, ?_⟩, ⟨rfl, ⟨rfl, trivial⟩, ?_⟩, ⟨rfl, trivial, ?_⟩, ⟨rfl, trivial, ?_⟩, ⟨rfl, trivial, ?_⟩, ⟨rfl, trivial, ?_⟩, trivial⟩
          · intro w24 hE
            intro R
            refine WL.move rfl rfl ?_
            exact WL.done ⟨_, rfl, rfl, rfl⟩
          · intro w25 hE
            intro R
            refine WL.move rfl rfl ?_
            exact WL.done ⟨_, rfl, rfl, rfl⟩
          · intro w26 hE
            rintro _ rfl
            intro R
            refine WL.index (0) Try.underlying35 Try.el25 rfl rfl (by omega) (by omega) hl rfl ?_
            exact WL.done ⟨_, rfl, rfl, rfl⟩
          · intro w27 hE
            have hE := hE rfl
            have hB := ext_trans hB hE
            have hl := hl0.ext hB
            have hNl := hNl0.ext hB
            rintro _ rfl
            intro R
            refine WL.loadV (cs := [.bool (rl.getD 0 fr0).1, .slice (sA (cel.getD (0 * 3 + 1) undef)) (sM (cel.getD (0 * 3 + 1) undef)) (sC (cel.getD (0 * 3 + 1) undef)), .slice (sA (cel.getD (0 * 3 + 2) undef)) (sM (cel.getD (0 * 3 + 2) undef)) (sC (cel.getD (0 * 3 + 2) undef))]) Try.el25 Try.agg25 rfl rfl (hNl.load hl 0 (by omega)) rfl ?_
            exact WL.done ⟨_, rfl, ext_refl _, rfl⟩
          · intro w28 hE
            intro R
            refine WL.move rfl rfl ?_
            exact WL.done ⟨_, rfl, rfl, rfl⟩
          · intro w29 hE
            rintro _ rfl
            intro R
            refine WL.index (1) Try.underlying35 Try.el25 rfl rfl (by omega) (by omega) hl rfl ?_
            exact WL.done ⟨_, rfl, rfl, rfl⟩
          · intro w30 hE
            have hE := hE rfl
            have hB := ext_trans hB hE
            have hl := hl0.ext hB
            have hNl := hNl0.ext hB
            rintro _ rfl
            intro R
            refine WL.loadV (cs := [.bool (rl.getD 1 fr0).1, .slice (sA (cel.getD (1 * 3 + 1) undef)) (sM (cel.getD (1 * 3 + 1) undef)) (sC (cel.getD (1 * 3 + 1) undef)), .slice (sA (cel.getD (1 * 3 + 2) undef)) (sM (cel.getD (1 * 3 + 2) undef)) (sC (cel.getD (1 * 3 + 2) undef))]) Try.el25 Try.agg25 rfl rfl (hNl.load hl 1 (by omega)) rfl ?_
            exact WL.done ⟨_, rfl, ext_refl _, rfl⟩
          · intro w31 hE
            have hE := hE rfl
            have hB := ext_trans hB hE
            have hNl := hNl0.ext hB
            have hVge := hVge.ext hE
            have hVgo := hVgo.ext hE
            rintro _ rfl
            rintro _ rfl
            rintro _ rfl
            intro R
            refine WL.callv rfl Try.func40 rfl Try.nm40 rfl rfl (prod_c (hNl.rd1 0 (by omega)) (hNl.rd2 0 (by omega)) (hNl.rd1 1 (by omega)) (hNl.rd2 1 (by omega)) (hLl 0 (by omega)).1 (hLl 0 (by omega)).2 (qv (rl.getD 0 fr0)) rfl (hLl 1 (by omega)).1 (hLl 1 (by omega)).2 (qv (rl.getD 1 fr0)) rfl (by omega) (by omega)) ?_
            rintro _ w32 ⟨A33, m34, c35, A36, m37, c38, rfl, hGw32, hjn, hjd, hjm⟩
            have hap_hjn_ge := ap_new hjn (hVge.bl_ge _ rfl).2
            have hap_hjn_go := ap_new hjn (hVgo.bl_ge _ rfl).2
            have hap_hjd_ge := ap_new hjd (hVge.bl_ge _ rfl).2
            have hap_hjd_go := ap_new hjd (hVgo.bl_ge _ rfl).2
            have hjn := hjn.low (b' := w.heap.size) hB.size
            have hjd := hjd.low (b' := w.heap.size) hB.size
            have hB := ext_trans hB hGw32
            have hjn_l := hjn.rd.ulen
            have hjd_l := hjd.rd.ulen
            exact WL.done ⟨_, rfl, hGw32, ⟨A33, m34, c35, A36, m37, c38, rfl, hjn, hjd, hjm, hap_hjn_ge, hap_hjn_go, hap_hjd_ge, hap_hjd_go⟩⟩
          · intro w39 hE
            have hE := hE rfl
            have hB := ext_trans hB hE
            have hVge := hVge.ext hE
            have hVgo := hVgo.ext hE
            intro R
            refine WL.alloc Try.el25 rfl ?_
            intro gj w40 hg_gj hVgj hGw40
            change Own _ _ _ _ _ _ _ [.bool false, .slice none 0 0, .slice none 0 0] at hVgj
            have hlt_ge_gj : ge < gj := by rw [hg_gj]; exact (hVge.bl_ge _ rfl).2
            have hlt_go_gj : go < gj := by rw [hg_gj]; exact (hVgo.bl_ge _ rfl).2
            have hVgj := hVgj.low (b' := w.heap.size) hB.size
            have hB := ext_trans hB hGw40
            exact WL.done ⟨_, rfl, hGw40, ⟨gj, rfl, hVgj, hlt_ge_gj, hlt_go_gj⟩⟩
        · intro vals w41 hT hVs
          have hB := ext_trans hB hT
          have hl := hl0.ext hB
          have hNl := hNl0.ext hB
          have hVgo := hVgo.ext hT
          have hv0 : vals 0 = _ := hVs 0 (by decide)
          have hv1 : vals 1 = _ := hVs 1 (by decide)
          have hv2 : vals 2 = _ := hVs 2 (by decide)
          have hv3 : vals 3 = _ := hVs 3 (by decide)
          have hv4 : vals 4 = _ := hVs 4 (by decide)
          have hv5 : vals 5 = _ := hVs 5 (by decide)
          have hv6 : vals 6 = _ := hVs 6 (by decide)
          obtain ⟨A33, m34, c35, A36, m37, c38, hv7, hjn, hjd, hjm, hap_hjn_ge, hap_hjn_go, hap_hjd_ge, hap_hjd_go⟩ := hVs 7 (by decide)
          obtain ⟨gj, hv8, hVgj, hlt_ge_gj, hlt_go_gj⟩ := hVs 8 (by decide)
          have hap_hjn_gj := ap_type hjn hVgj (by decide)
          have hap_hjd_gj := ap_type hjd hVgj (by decide)
          rw [show (List.filterMap (fun i => Option.map (fun t => (t, vals i)) (dstAt _ i)) (List.range _)) = [(21, .func (.func 40) #[] #[]), (22, .slice Al ml cl), (23, .pointer (some ((adOf Al).add (0 * 3)))), (24, .agg #[.bool (rl.getD 0 fr0).1, .slice (sA (cel.getD (0 * 3 + 1) undef)) (sM (cel.getD (0 * 3 + 1) undef)) (sC (cel.getD (0 * 3 + 1) undef)), .slice (sA (cel.getD (0 * 3 + 2) undef)) (sM (cel.getD (0 * 3 + 2) undef)) (sC (cel.getD (0 * 3 + 2) undef))]), (25, .slice Al ml cl), (26, .pointer (some ((adOf Al).add (1 * 3)))), (27, .agg #[.bool (rl.getD 1 fr0).1, .slice (sA (cel.getD (1 * 3 + 1) undef)) (sM (cel.getD (1 * 3 + 1) undef)) (sC (cel.getD (1 * 3 + 1) undef)), .slice (sA (cel.getD (1 * 3 + 2) undef)) (sM (cel.getD (1 * 3 + 2) undef)) (sC (cel.getD (1 * 3 + 2) undef))]), (28, .agg #[.bool (qneg ((qv (rl.getD 0 fr0)) * (qv (rl.getD 1 fr0)))), .slice A33 m34 c35, .slice A36 m37 c38]), (7, .pointer (some ⟨gj, 0, none⟩))] from by
            show [(21, vals 0), (22, vals 1), (23, vals 2), (24, vals 3), (25, vals 4), (26, vals 5), (27, vals 6), (28, vals 7), (7, vals 8)] = _
            rw [hv0, hv1, hv2, hv3, hv4, hv5, hv6, hv7, hv8]]
          refine WA.step [9] (by decide +kernel) rfl ?_
          intro iQ hQ
          simp only [List.mem_cons, List.not_mem_nil, or_false] at hQ
          obtain rfl := hQ
          · refine ⟨_, rfl, ?_⟩
            refine WL.storeV Try.el25 rfl rfl rfl rfl hVgj ?_
            have hOld43 := hVgj
            intro w42 hVgj hGw42
            change Own _ _ _ _ _ _ _ [.bool (qneg ((qv (rl.getD 0 fr0)) * (qv (rl.getD 1 fr0)))), .slice A33 m34 c35, .slice A36 m37 c38] at hVgj
            have hB := ext_own hB hGw42 (fun g hg => (hOld43.bl_ge g hg).1)
            have hl := hl0.ext hB
            have hNl := hNl0.ext hB
            have hVgo := hVgo.grown hGw42 (apart (by omega))
            have hjn := hjn.grown hGw42 (ap_row hap_hjn_gj)
            have hjd := hjd.grown hGw42 (ap_row hap_hjd_gj)
            refine WL.done ?_
            refine WA.done (by decide +kernel) ?_
            refine W.seq ?_
            refine W.seq ?_
            refine W.region ?_
            refine WL.move rfl rfl ?_
            refine WL.slFrom (2) Try.underlying35 Try.el25 rfl rfl (by omega) (by omega) rfl ?_
            refine WL.len Try.underlying35 rfl rfl ?_
            refine WL.move rfl rfl ?_
            refine WL.done ?_
            refine W.block ?_
            refine W.loop (σ := Nat × Option Addr × Nat × Nat × Option Addr × Nat × Nat × Nat) (fun s w1 => match s with | (j, Aj, mj, cj, Ak, mk, ck, gx) => w.grownBy w1 none ∧ j ≤ ml - 2 ∧ Own w.heap.size w1 48 1 Aj mj cj (us (digs (qnum (qv (rl.getD 0 fr0) * qv (rl.getD 1 fr0) * qprod ((rl.drop 2).take j))))) ∧ Own w.heap.size w1 48 1 Ak mk ck (us (digs (Rat.den (qv (rl.getD 0 fr0) * qv (rl.getD 1 fr0) * qprod ((rl.drop 2).take j))))) ∧ mj ≤ fb K j ∧ mk ≤ fb K j ∧ gx = 0 ∧ Own w.heap.size w1 25 3 (some ⟨gj, 0, none⟩) 1 1 [.bool (qneg (qv (rl.getD 0 fr0) * qv (rl.getD 1 fr0) * qprod ((rl.drop 2).take j))), .slice Aj mj cj, .slice Ak mk ck] ∧ Own w.heap.size w1 25 3 (some ⟨go, 0, none⟩) 1 1 [.bool false, .slice none 0 0, .slice none 0 0]) (fun s => match s with | (j, Aj, mj, cj, Ak, mk, ck, gx) => [(0, .slice Al ml cl), (2, .func (.func 40) #[] #[]), (6, .pointer (some ⟨go, 0, none⟩)), (7, .pointer (some ⟨gj, 0, none⟩)), (30, .slice (if cl = 2 then Al else (Al).map (·.add (2 * 3))) (ml - 2) (cl - 2)), (31, .int .i64 ((ml - 2 : Nat) : Int)), (32, .int .i64 ((j : Nat) : Int))]) (fun s => match s with | (j, Aj, mj, cj, Ak, mk, ck, gx) => ml - 2 - j) (0, A33, m34, c35, A36, m37, c38, 0) ?_ ?_ ?_
            · have e0 : qv (rl.getD 0 fr0) * qv (rl.getD 1 fr0) = qv (rl.getD 0 fr0) * qv (rl.getD 1 fr0) * qprod ((rl.drop 2).take 0) := by rw [List.take_zero]; exact (Rat.mul_one _).symm
              rw [e0] at hjn hjd hVgj
              exact ⟨hB, by omega, hjn, hjd, by rw [hf0]; omega, by rw [hf0]; omega, rfl, hVgj, hVgo⟩
            · exact ⟨rfl, rfl, rfl, rfl, rfl, iv (by omega), iv (by omega), trivial⟩
            · rintro ⟨j, Aj, mj, cj, Ak, mk, ck, gx⟩ w44 ⟨hB, hj, hjn, hjd, hbj, hbk, hgx, hVgj, hVgo⟩
              have hl := hl0.ext hB
              have hNl := hNl0.ext hB
              have hjn_l := hjn.rd.ulen
              have hjd_l := hjd.rd.ulen
              have hap_hjn_go := ap_type hjn hVgo (by decide)
              have hap_hjd_go := ap_type hjd hVgo (by decide)
              refine W.seq ?_
              refine W.region ?_
              refine WL.lss rfl rfl rfl (fun c45 => ?_) (fun c45 => ?_)
              · refine WL.done ?_
                refine W.seq ?_
                refine W.condT rfl ?_
                refine W.skip ?_
                refine W.seq ?_
                refine W.block ?_
                refine W.seq ?_
                skip; have hkj := hK (2 + j) (by omega); have hv1 := ((hNl0.drop 2).rd1 j (by simp; omega)).ulen; have hv2 := ((hNl0.drop 2).rd2 j (by simp; omega)).ulen; rw [getD_frdrop] at hv1 hv2; have hfs := fb_succ K j; have hfj := fb_mono (K := K) (show j ≤ rl.length by omega)
                · refine W.region ?_
                  refine WL.index (j) Try.underlying35 Try.el25 rfl rfl (by omega) (by omega) (hl.drop (k := 2) (by omega)) rfl ?_
                  refine WL.loadV (cs := [.bool ((rl.drop 2).getD j fr0).1, .slice (sA ((cel.drop (2 * 3)).getD (j * 3 + 1) undef)) (sM ((cel.drop (2 * 3)).getD (j * 3 + 1) undef)) (sC ((cel.drop (2 * 3)).getD (j * 3 + 1) undef)), .slice (sA ((cel.drop (2 * 3)).getD (j * 3 + 2) undef)) (sM ((cel.drop (2 * 3)).getD (j * 3 + 2) undef)) (sC ((cel.drop (2 * 3)).getD (j * 3 + 2) undef))]) Try.el25 Try.agg25 rfl rfl ((hNl.drop 2).load (hl.drop (k := 2) (by omega)) j (by omega)) rfl ?_
                  refine WL.alloc Try.el25 rfl ?_
                  intro gn w46 hg_gn hVgn hGw46
                  change Own _ _ _ _ _ _ _ [.bool false, .slice none 0 0, .slice none 0 0] at hVgn
                  have hlt_go_gn : go < gn := by rw [hg_gn]; exact (hVgo.bl_ge _ rfl).2
                  have hlt_gj_gn : gj < gn := by rw [hg_gn]; exact (hVgj.bl_ge _ rfl).2
                  have hap_hjn_gn := ap_old hjn hg_gn
                  have hap_hjd_gn := ap_old hjd hg_gn
                  have hVgn := hVgn.low (b' := w.heap.size) hB.size
                  have hB := ext_trans hB hGw46
                  have hNl := hNl0.ext hB
                  have hjn := hjn.ext hGw46
                  have hjd := hjd.ext hGw46
                  have hVgj := hVgj.ext hGw46
                  have hVgo := hVgo.ext hGw46
                  refine WL.storeV Try.el25 rfl rfl rfl rfl hVgn ?_
                  have hOld48 := hVgn
                  intro w47 hVgn hGw47
                  change Own _ _ _ _ _ _ _ [.bool ((rl.drop 2).getD j fr0).1, .slice (sA ((cel.drop (2 * 3)).getD (j * 3 + 1) undef)) (sM ((cel.drop (2 * 3)).getD (j * 3 + 1) undef)) (sC ((cel.drop (2 * 3)).getD (j * 3 + 1) undef)), .slice (sA ((cel.drop (2 * 3)).getD (j * 3 + 2) undef)) (sM ((cel.drop (2 * 3)).getD (j * 3 + 2) undef)) (sC ((cel.drop (2 * 3)).getD (j * 3 + 2) undef))] at hVgn
                  have hB := ext_own hB hGw47 (fun g hg => (hOld48.bl_ge g hg).1)
                  have hNl := hNl0.ext hB
                  have hjn := hjn.grown hGw47 (ap_row hap_hjn_gn)
                  have hjd := hjd.grown hGw47 (ap_row hap_hjd_gn)
                  have hVgj := hVgj.grown hGw47 (apart (by omega))
                  have hVgo := hVgo.grown hGw47 (apart (by omega))
                  refine WL.done ?_
                  refine W.region ?_
                  refine WL.move rfl rfl ?_
                  refine WL.loadV (cs := [.bool (qneg (qv (rl.getD 0 fr0) * qv (rl.getD 1 fr0) * qprod ((rl.drop 2).take j))), .slice Aj mj cj, .slice Ak mk ck]) Try.el25 Try.agg25 rfl rfl hVgj.vcells rfl ?_
                  refine WL.loadV (cs := [.bool ((rl.drop 2).getD j fr0).1, .slice (sA ((cel.drop (2 * 3)).getD (j * 3 + 1) undef)) (sM ((cel.drop (2 * 3)).getD (j * 3 + 1) undef)) (sC ((cel.drop (2 * 3)).getD (j * 3 + 1) undef)), .slice (sA ((cel.drop (2 * 3)).getD (j * 3 + 2) undef)) (sM ((cel.drop (2 * 3)).getD (j * 3 + 2) undef)) (sC ((cel.drop (2 * 3)).getD (j * 3 + 2) undef))]) Try.el25 Try.agg25 rfl rfl hVgn.vcells rfl ?_
                  refine WL.callv rfl Try.func40 rfl Try.nm40 rfl rfl (prod_c hjn.rd hjd.rd ((hNl.drop 2).rd1 j (by omega)) ((hNl.drop 2).rd2 j (by omega)) (digs_lim _) (digs_lim _) (qv (rl.getD 0 fr0) * qv (rl.getD 1 fr0) * qprod ((rl.drop 2).take j)) (val_canon _) ((hLl.drop 2) j (by omega)).1 ((hLl.drop 2) j (by omega)).2 (qv ((rl.drop 2).getD j fr0)) rfl (by omega) (by omega)) ?_
                  rintro _ w49 ⟨A50, m51, c52, A53, m54, c55, rfl, hGw49, hrn, hrd, hrm⟩
                  have hap_hrn_gj := ap_new hrn (hVgj.bl_ge _ rfl).2
                  have hap_hrd_gj := ap_new hrd (hVgj.bl_ge _ rfl).2
                  have hrn := hrn.low (b' := w.heap.size) hB.size
                  have hrd := hrd.low (b' := w.heap.size) hB.size
                  have hB := ext_trans hB hGw49
                  have hjn := hjn.ext hGw49
                  have hjd := hjd.ext hGw49
                  have hVgj := hVgj.ext hGw49
                  have hVgo := hVgo.ext hGw49
                  have hrn_l := hrn.rd.ulen
                  have hrd_l := hrd.rd.ulen
                  refine WL.storeV Try.el25 rfl rfl rfl rfl hVgj ?_
                  have hOld57 := hVgj
                  intro w56 hVgj hGw56
                  change Own _ _ _ _ _ _ _ [.bool (qneg ((qv (rl.getD 0 fr0) * qv (rl.getD 1 fr0) * qprod ((rl.drop 2).take j)) * (qv ((rl.drop 2).getD j fr0)))), .slice A50 m51 c52, .slice A53 m54 c55] at hVgj
                  have hB := ext_own hB hGw56 (fun g hg => (hOld57.bl_ge g hg).1)
                  have hVgo := hVgo.grown hGw56 (apart (by omega))
                  have hrn := hrn.grown hGw56 (ap_row hap_hrn_gj)
                  have hrd := hrd.grown hGw56 (ap_row hap_hrd_gj)
                  refine WL.done ?_
                  refine W.region ?_
                  refine WL.add (r := ((j + 1 : Nat) : Int)) rfl rfl (wi64 (by omega) (by omega) (by omega)) rfl ?_
                  refine WL.move rfl rfl ?_
                  refine WL.done ?_
                  refine ⟨(j + 1, A50, m51, c52, A53, m54, c55, 0), ⟨rfl, rfl, rfl, rfl, rfl, iv (by omega), iv (by omega), trivial⟩, by (dsimp only; omega), ?_⟩
                  clear hjn hjd
                  have e1 : qv (rl.getD 0 fr0) * qv (rl.getD 1 fr0) * qprod ((rl.drop 2).take j) * qv ((rl.drop 2).getD j fr0) = qv (rl.getD 0 fr0) * qv (rl.getD 1 fr0) * qprod ((rl.drop 2).take (j + 1)) := by rw [qprod_take (by simp; omega)]; simp only [Rat.mul_assoc]
                  rw [e1] at hrn hrd hVgj
                  exact ⟨hB, by omega, hrn, hrd, by omega, by omega, rfl, hVgj, hVgo⟩
              · refine WL.done ?_
                refine W.seq ?_
                refine W.condF rfl ?_
                refine W.exit ?_
                refine W.seq ?_
                refine W.region ?_
                refine WL.loadV (cs := [.bool (qneg (qv (rl.getD 0 fr0) * qv (rl.getD 1 fr0) * qprod ((rl.drop 2).take j))), .slice Aj mj cj, .slice Ak mk ck]) Try.el25 Try.agg25 rfl rfl hVgj.vcells rfl ?_
                refine WL.storeV Try.el25 rfl rfl rfl rfl hVgo ?_
                have hOld59 := hVgo
                intro w58 hVgo hGw58
                change Own _ _ _ _ _ _ _ [.bool (qneg (qv (rl.getD 0 fr0) * qv (rl.getD 1 fr0) * qprod ((rl.drop 2).take j))), .slice Aj mj cj, .slice Ak mk ck] at hVgo
                have hB := ext_own hB hGw58 (fun g hg => (hOld59.bl_ge g hg).1)
                have hjn := hjn.grown hGw58 (ap_row hap_hjn_go)
                have hjd := hjd.grown hGw58 (ap_row hap_hjd_go)
                refine WL.done ?_
                refine W.ret ?_
                refine ⟨[.agg #[.bool (qneg (qv (rl.getD 0 fr0) * qv (rl.getD 1 fr0) * qprod ((rl.drop 2).take j))), .slice Aj mj cj, .slice Ak mk ck]], ⟨_, _, _, rfl, rfl, run_loadV (cs := [.bool (qneg (qv (rl.getD 0 fr0) * qv (rl.getD 1 fr0) * qprod ((rl.drop 2).take j))), .slice Aj mj cj, .slice Ak mk ck]) Try.el25 Try.agg25 rfl hVgo.vcells, rfl⟩, ?_⟩
                have e2 : qv (rl.getD 0 fr0) * qv (rl.getD 1 fr0) * qprod ((rl.drop 2).take j) = qprod rl := by rw [List.take_of_length_le (by simp; omega), ← qprod_two (by omega)]
                rw [e2] at hjn hjd ⊢
                have hfl := fb_mono (K := K) (show j ≤ rl.length by omega)
                rw [hl_l] at hfl
                exact ⟨_, _, _, _, _, _, rfl, hB, hjn, hjd, by omega⟩
end Go.Proofs.Ythfpcebcfjlkmac
set_option linter.unusedSimpArgs false
set_option linter.unusedVariables false
namespace Go.Proofs.Ythfpcebcfjlkmac
open Go.RowKit
theorem qAdd_c {w : World} {Bl BNl : Nat} {Al : Option Addr} {ml cl : Nat} {cel : List Value} {rl : List Fr3} (hl : Rd Bl w 3 Al ml cl cel) (hNl : RatsR BNl w cel rl) (hLl : RLim rl) (K : Nat) (hK : RLen K rl) (hfb : fb K ml ≤ 4194304) :
    Calls Try.prog 14 #[.slice Al ml cl] w fun e w2 => ∃ v, e = .returned v ∧ (fun v w2 => ∃ A2 m2 c2 A3 m3 c3, v = .agg #[.bool (qneg (qsum rl)), .slice A2 m2 c2, .slice A3 m3 c3] ∧ w.grownBy w2 none ∧ Own w.heap.size w2 48 1 A2 m2 c2 (us (digs (qnum (qsum rl)))) ∧ Own w.heap.size w2 48 1 A3 m3 c3 (us (digs (Rat.den (qsum rl)))) ∧ m2 ≤ fb K ml ∧ m3 ≤ fb K ml) v w2 := by
  have hl := hl.norm
  have hNl := hNl.norm
  have hl_n := hl.len
  have hl_nn := hNl.len
  have hl_l : rl.length = ml := by omega
  have hl_x := hl.max
  simp only [maxLen] at hl_x
  have hl_c := hl.cap
  have hl0 := hl
  have hNl0 := hNl
  have hB := ext_refl w
  refine calls_of_Wc (vs := [.slice Al ml cl]) [.cell 2 25] Try.func14 rfl rfl rfl rfl ?_
  refine W.seq ?_
  refine W.region ?_
  refine WL.alloc Try.el25 rfl ?_
  intro g11 w12 hg_g11 hVg11 hGw12
  change Own _ _ _ _ _ _ _ [.bool false, .slice none 0 0, .slice none 0 0] at hVg11
  have hVg11 := hVg11.low (b' := w.heap.size) hB.size
  have hB := ext_trans hB hGw12
  have hl := hl0.ext hB
  have hNl := hNl0.ext hB
  refine WL.done ?_
  refine W.seq ?_
  rcases Nat.eq_zero_or_pos ml with hm | hm
  · refine W.region ?_
    refine WL.move rfl rfl ?_
    refine WL.call Try.func22 rfl Try.nm22 rfl rfl (zero_c) ?_
    rintro _ w13 ⟨A14, m15, c16, A17, m18, c19, rfl, hGw13, hzn, hzd, hzm⟩
    have hap_hzn_g11 := ap_new hzn (hVg11.bl_ge _ rfl).2
    have hap_hzd_g11 := ap_new hzd (hVg11.bl_ge _ rfl).2
    have hzn := hzn.low (b' := w.heap.size) hB.size
    have hzd := hzd.low (b' := w.heap.size) hB.size
    have hB := ext_trans hB hGw13
    have hl := hl0.ext hB
    have hNl := hNl0.ext hB
    have hVg11 := hVg11.ext hGw13
    have hzn_l := hzn.rd.ulen
    have hzd_l := hzd.rd.ulen
    refine WL.call Try.func37 rfl Try.nm37 rfl rfl (fold_sum_z hl hNl hm) ?_
    rintro _ w20 ⟨rfl, hGw20⟩
    have hB := ext_trans hB hGw20
    have hVg11 := hVg11.ext hGw20
    have hzn := hzn.ext hGw20
    have hzd := hzd.ext hGw20
    refine WL.storeV Try.el25 rfl rfl rfl rfl hVg11 ?_
    have hOld22 := hVg11
    intro w21 hVg11 hGw21
    change Own _ _ _ _ _ _ _ [.bool (qneg ((0 : Rat))), .slice A14 m15 c16, .slice A17 m18 c19] at hVg11
    have hB := ext_own hB hGw21 (fun g hg => (hOld22.bl_ge g hg).1)
    have hzn := hzn.grown hGw21 (ap_row hap_hzn_g11)
    have hzd := hzd.grown hGw21 (ap_row hap_hzd_g11)
    refine WL.done ?_
    refine W.ret ?_
    refine ⟨[.agg #[.bool (qneg ((0 : Rat))), .slice A14 m15 c16, .slice A17 m18 c19]], ⟨_, _, _, rfl, rfl, run_loadV (cs := [.bool (qneg ((0 : Rat))), .slice A14 m15 c16, .slice A17 m18 c19]) Try.el25 Try.agg25 rfl hVg11.vcells, rfl⟩, ?_⟩
    have e0 : qsum rl = 0 := by rw [List.eq_nil_of_length_eq_zero (show rl.length = 0 by omega)]; rfl
    rw [e0]
    have hf0 := fb_zero K
    have hfm := fb_mono (K := K) (Nat.zero_le ml)
    exact ⟨_, _, _, _, _, _, rfl, hB, hzn, hzd, by omega⟩
  · refine W.region ?_
    refine WL.move rfl rfl ?_
    refine WL.call Try.func22 rfl Try.nm22 rfl rfl (zero_c) ?_
    rintro _ w23 ⟨A24, m25, c26, A27, m28, c29, rfl, hGw23, hzn, hzd, hzm⟩
    have hzn := hzn.low (b' := w.heap.size) hB.size
    have hzd := hzd.low (b' := w.heap.size) hB.size
    have hB := ext_trans hB hGw23
    have hl := hl0.ext hB
    have hNl := hNl0.ext hB
    have hVg11 := hVg11.ext hGw23
    have hzn_l := hzn.rd.ulen
    have hzd_l := hzd.rd.ulen
    refine WL.call Try.func37 rfl Try.nm37 rfl rfl (fold_sum hl hNl hLl K hK hfb hm) ?_
    rintro _ w30 ⟨A31, m32, c33, A34, m35, c36, rfl, hGw30, hrn, hrd, hrm⟩
    have hap_hrn_g11 := ap_new hrn (hVg11.bl_ge _ rfl).2
    have hap_hrd_g11 := ap_new hrd (hVg11.bl_ge _ rfl).2
    have hrn := hrn.low (b' := w.heap.size) hB.size
    have hrd := hrd.low (b' := w.heap.size) hB.size
    have hB := ext_trans hB hGw30
    have hVg11 := hVg11.ext hGw30
    have hrn_l := hrn.rd.ulen
    have hrd_l := hrd.rd.ulen
    refine WL.storeV Try.el25 rfl rfl rfl rfl hVg11 ?_
    have hOld38 := hVg11
    intro w37 hVg11 hGw37
    change Own _ _ _ _ _ _ _ [.bool (qneg (qsum rl)), .slice A31 m32 c33, .slice A34 m35 c36] at hVg11
    have hB := ext_own hB hGw37 (fun g hg => (hOld38.bl_ge g hg).1)
    have hrn := hrn.grown hGw37 (ap_row hap_hrn_g11)
    have hrd := hrd.grown hGw37 (ap_row hap_hrd_g11)
    refine WL.done ?_
    refine W.ret ?_
    refine ⟨[.agg #[.bool (qneg (qsum rl)), .slice A31 m32 c33, .slice A34 m35 c36]], ⟨_, _, _, rfl, rfl, run_loadV (cs := [.bool (qneg (qsum rl)), .slice A31 m32 c33, .slice A34 m35 c36]) Try.el25 Try.agg25 rfl hVg11.vcells, rfl⟩, ?_⟩
    exact ⟨_, _, _, _, _, _, rfl, hB, hrn, hrd, by omega⟩

theorem qAdd2_c {w : World} {B BN : Nat} {A : Option Addr} {c : Nat} {na nb : Bool} {Aan Aad Abn Abd : Option Addr} {man can mad cad mbn cbn mbd cbd : Nat} {xan xad xbn xbd : List Nat}
    (hT : Rd B w 3 A 2 c [.bool na, .slice Aan man can, .slice Aad mad cad, .bool nb, .slice Abn mbn cbn, .slice Abd mbd cbd]) (hN : RatsR BN w [.bool na, .slice Aan man can, .slice Aad mad cad, .bool nb, .slice Abn mbn cbn, .slice Abd mbd cbd] [(na, xan, xad), (nb, xbn, xbd)])
    (hLan : Lim xan) (hLad : Lim xad) (hLbn : Lim xbn) (hLbd : Lim xbd) (qa : Rat) (hqa : val na (nv xan) (nv xad) = qa) (qb : Rat) (hqb : val nb (nv xbn) (nv xbd) = qb) (K : Nat) (hs : man ≤ K ∧ mad ≤ K ∧ mbn ≤ K ∧ mbd ≤ K) (hK : 4 * (K + 1) + 1 ≤ 4194304) :
    Calls Try.prog 14 #[.slice A 2 c] w fun e w2 => ∃ v, e = .returned v ∧ (fun v w2 => ∃ A2 m2 c2 A3 m3 c3, v = .agg #[.bool (qneg (qa + qb)), .slice A2 m2 c2, .slice A3 m3 c3] ∧ w.grownBy w2 none ∧ Own w.heap.size w2 48 1 A2 m2 c2 (us (digs (qnum (qa + qb)))) ∧ Own w.heap.size w2 48 1 A3 m3 c3 (us (digs (Rat.den (qa + qb)))) ∧ m2 ≤ 4 * (K + 1) + 1 ∧ m3 ≤ 4 * (K + 1) + 1) v w2 := by
  have h1 : xan.length = man := (hN.rd1 0 (by simp)).ulen
  have h2 : xad.length = mad := (hN.rd2 0 (by simp)).ulen
  have h3 : xbn.length = mbn := (hN.rd1 1 (by simp)).ulen
  have h4 : xbd.length = mbd := (hN.rd2 1 (by simp)).ulen
  have e : qsum [(na, xan, xad), (nb, xbn, xbd)] = qa + qb := by simp only [qsum, qv, Rat.add_zero]; rw [hqa, hqb]
  have hf : fb K 2 = 4 * (K + 1) + 1 := rfl
  refine (qAdd_c hT hN (RLim.cons hLan hLad (RLim.cons hLbn hLbd RLim.nil)) K (RLen.cons (by omega) (by omega) (RLen.cons (by omega) (by omega) (RLen.nil _))) (by omega)).mono fun e w2 h => ?_
  rw [hf] at h
  rwa [‹qsum _ = _›] at h

theorem qMul_c {w : World} {Bl BNl : Nat} {Al : Option Addr} {ml cl : Nat} {cel : List Value} {rl : List Fr3} (hl : Rd Bl w 3 Al ml cl cel) (hNl : RatsR BNl w cel rl) (hLl : RLim rl) (K : Nat) (hK : RLen K rl) (hfb : fb K ml ≤ 4194304) :
    Calls Try.prog 20 #[.slice Al ml cl] w fun e w2 => ∃ v, e = .returned v ∧ (fun v w2 => ∃ A2 m2 c2 A3 m3 c3, v = .agg #[.bool (qneg (qprod rl)), .slice A2 m2 c2, .slice A3 m3 c3] ∧ w.grownBy w2 none ∧ Own w.heap.size w2 48 1 A2 m2 c2 (us (digs (qnum (qprod rl)))) ∧ Own w.heap.size w2 48 1 A3 m3 c3 (us (digs (Rat.den (qprod rl)))) ∧ m2 ≤ fb K ml ∧ m3 ≤ fb K ml) v w2 := by
  have hl := hl.norm
  have hNl := hNl.norm
  have hl_n := hl.len
  have hl_nn := hNl.len
  have hl_l : rl.length = ml := by omega
  have hl_x := hl.max
  simp only [maxLen] at hl_x
  have hl_c := hl.cap
  have hl0 := hl
  have hNl0 := hNl
  have hB := ext_refl w
  refine calls_of_Wc (vs := [.slice Al ml cl]) [.cell 2 25] Try.func20 rfl rfl rfl rfl ?_
  refine W.seq ?_
  refine W.region ?_
  refine WL.alloc Try.el25 rfl ?_
  intro g11 w12 hg_g11 hVg11 hGw12
  change Own _ _ _ _ _ _ _ [.bool false, .slice none 0 0, .slice none 0 0] at hVg11
  have hVg11 := hVg11.low (b' := w.heap.size) hB.size
  have hB := ext_trans hB hGw12
  have hl := hl0.ext hB
  have hNl := hNl0.ext hB
  refine WL.done ?_
  refine W.seq ?_
  rcases Nat.eq_zero_or_pos ml with hm | hm
  · refine W.region ?_
    refine WL.move rfl rfl ?_
    refine WL.call Try.func26 rfl Try.nm26 rfl rfl (one_c) ?_
    rintro _ w13 ⟨A14, m15, c16, rfl, hGw13, hp, hpm⟩
    have hap_hp_g11 := ap_new hp (hVg11.bl_ge _ rfl).2
    have hp := hp.low (b' := w.heap.size) hB.size
    have hB := ext_trans hB hGw13
    have hl := hl0.ext hB
    have hNl := hNl0.ext hB
    have hVg11 := hVg11.ext hGw13
    have hp_l := hp.rd.ulen
    refine WL.call Try.func26 rfl Try.nm26 rfl rfl (one_c) ?_
    rintro _ w17 ⟨A18, m19, c20, rfl, hGw17, hq, hqm⟩
    have hap_hq_g11 := ap_new hq (hVg11.bl_ge _ rfl).2
    have hq := hq.low (b' := w.heap.size) hB.size
    have hB := ext_trans hB hGw17
    have hl := hl0.ext hB
    have hNl := hNl0.ext hB
    have hVg11 := hVg11.ext hGw17
    have hp := hp.ext hGw17
    have hq_l := hq.rd.ulen
    refine WL.build (cells := #[.bool false, .slice A14 m15 c16, .slice A18 m19 c20]) Try.bld25 rfl rfl rfl ?_
    refine WL.call Try.func37 rfl Try.nm37 rfl rfl (fold_prod_z hl hNl hm) ?_
    rintro _ w21 ⟨rfl, hGw21⟩
    have hB := ext_trans hB hGw21
    have hVg11 := hVg11.ext hGw21
    have hp := hp.ext hGw21
    have hq := hq.ext hGw21
    refine WL.storeV Try.el25 rfl rfl rfl rfl hVg11 ?_
    have hOld23 := hVg11
    intro w22 hVg11 hGw22
    change Own _ _ _ _ _ _ _ [.bool false, .slice A14 m15 c16, .slice A18 m19 c20] at hVg11
    have hB := ext_own hB hGw22 (fun g hg => (hOld23.bl_ge g hg).1)
    have hp := hp.grown hGw22 (ap_row hap_hp_g11)
    have hq := hq.grown hGw22 (ap_row hap_hq_g11)
    refine WL.done ?_
    refine W.ret ?_
    refine ⟨[.agg #[.bool false, .slice A14 m15 c16, .slice A18 m19 c20]], ⟨_, _, _, rfl, rfl, run_loadV (cs := [.bool false, .slice A14 m15 c16, .slice A18 m19 c20]) Try.el25 Try.agg25 rfl hVg11.vcells, rfl⟩, ?_⟩
    have e0 : qprod rl = 1 := by rw [List.eq_nil_of_length_eq_zero (show rl.length = 0 by omega)]; rfl
    rw [e0]
    have hf0 := fb_zero K
    have hfm := fb_mono (K := K) (Nat.zero_le ml)
    exact ⟨_, _, _, _, _, _, rfl, hB, hp, hq, by omega⟩
  · refine W.region ?_
    refine WL.move rfl rfl ?_
    refine WL.call Try.func26 rfl Try.nm26 rfl rfl (one_c) ?_
    rintro _ w24 ⟨A25, m26, c27, rfl, hGw24, hp, hpm⟩
    have hp := hp.low (b' := w.heap.size) hB.size
    have hB := ext_trans hB hGw24
    have hl := hl0.ext hB
    have hNl := hNl0.ext hB
    have hVg11 := hVg11.ext hGw24
    have hp_l := hp.rd.ulen
    refine WL.call Try.func26 rfl Try.nm26 rfl rfl (one_c) ?_
    rintro _ w28 ⟨A29, m30, c31, rfl, hGw28, hq, hqm⟩
    have hq := hq.low (b' := w.heap.size) hB.size
    have hB := ext_trans hB hGw28
    have hl := hl0.ext hB
    have hNl := hNl0.ext hB
    have hVg11 := hVg11.ext hGw28
    have hq_l := hq.rd.ulen
    refine WL.build (cells := #[.bool false, .slice A25 m26 c27, .slice A29 m30 c31]) Try.bld25 rfl rfl rfl ?_
    refine WL.call Try.func37 rfl Try.nm37 rfl rfl (fold_prod hl hNl hLl K hK hfb hm) ?_
    rintro _ w32 ⟨A33, m34, c35, A36, m37, c38, rfl, hGw32, hrn, hrd, hrm⟩
    have hap_hrn_g11 := ap_new hrn (hVg11.bl_ge _ rfl).2
    have hap_hrd_g11 := ap_new hrd (hVg11.bl_ge _ rfl).2
    have hrn := hrn.low (b' := w.heap.size) hB.size
    have hrd := hrd.low (b' := w.heap.size) hB.size
    have hB := ext_trans hB hGw32
    have hVg11 := hVg11.ext hGw32
    have hrn_l := hrn.rd.ulen
    have hrd_l := hrd.rd.ulen
    refine WL.storeV Try.el25 rfl rfl rfl rfl hVg11 ?_
    have hOld40 := hVg11
    intro w39 hVg11 hGw39
    change Own _ _ _ _ _ _ _ [.bool (qneg (qprod rl)), .slice A33 m34 c35, .slice A36 m37 c38] at hVg11
    have hB := ext_own hB hGw39 (fun g hg => (hOld40.bl_ge g hg).1)
    have hrn := hrn.grown hGw39 (ap_row hap_hrn_g11)
    have hrd := hrd.grown hGw39 (ap_row hap_hrd_g11)
    refine WL.done ?_
    refine W.ret ?_
    refine ⟨[.agg #[.bool (qneg (qprod rl)), .slice A33 m34 c35, .slice A36 m37 c38]], ⟨_, _, _, rfl, rfl, run_loadV (cs := [.bool (qneg (qprod rl)), .slice A33 m34 c35, .slice A36 m37 c38]) Try.el25 Try.agg25 rfl hVg11.vcells, rfl⟩, ?_⟩
    exact ⟨_, _, _, _, _, _, rfl, hB, hrn, hrd, by omega⟩

theorem qMul2_c {w : World} {B BN : Nat} {A : Option Addr} {c : Nat} {na nb : Bool} {Aan Aad Abn Abd : Option Addr} {man can mad cad mbn cbn mbd cbd : Nat} {xan xad xbn xbd : List Nat}
    (hT : Rd B w 3 A 2 c [.bool na, .slice Aan man can, .slice Aad mad cad, .bool nb, .slice Abn mbn cbn, .slice Abd mbd cbd]) (hN : RatsR BN w [.bool na, .slice Aan man can, .slice Aad mad cad, .bool nb, .slice Abn mbn cbn, .slice Abd mbd cbd] [(na, xan, xad), (nb, xbn, xbd)])
    (hLan : Lim xan) (hLad : Lim xad) (hLbn : Lim xbn) (hLbd : Lim xbd) (qa : Rat) (hqa : val na (nv xan) (nv xad) = qa) (qb : Rat) (hqb : val nb (nv xbn) (nv xbd) = qb) (K : Nat) (hs : man ≤ K ∧ mad ≤ K ∧ mbn ≤ K ∧ mbd ≤ K) (hK : 4 * (K + 1) + 1 ≤ 4194304) :
    Calls Try.prog 20 #[.slice A 2 c] w fun e w2 => ∃ v, e = .returned v ∧ (fun v w2 => ∃ A2 m2 c2 A3 m3 c3, v = .agg #[.bool (qneg (qa * qb)), .slice A2 m2 c2, .slice A3 m3 c3] ∧ w.grownBy w2 none ∧ Own w.heap.size w2 48 1 A2 m2 c2 (us (digs (qnum (qa * qb)))) ∧ Own w.heap.size w2 48 1 A3 m3 c3 (us (digs (Rat.den (qa * qb)))) ∧ m2 ≤ 4 * (K + 1) + 1 ∧ m3 ≤ 4 * (K + 1) + 1) v w2 := by
  have h1 : xan.length = man := (hN.rd1 0 (by simp)).ulen
  have h2 : xad.length = mad := (hN.rd2 0 (by simp)).ulen
  have h3 : xbn.length = mbn := (hN.rd1 1 (by simp)).ulen
  have h4 : xbd.length = mbd := (hN.rd2 1 (by simp)).ulen
  have e : qprod [(na, xan, xad), (nb, xbn, xbd)] = qa * qb := by simp only [qprod, qv, Rat.mul_one]; rw [hqa, hqb]
  have hf : fb K 2 = 4 * (K + 1) + 1 := rfl
  refine (qMul_c hT hN (RLim.cons hLan hLad (RLim.cons hLbn hLbd RLim.nil)) K (RLen.cons (by omega) (by omega) (RLen.cons (by omega) (by omega) (RLen.nil _))) (by omega)).mono fun e w2 h => ?_
  rw [hf] at h
  rwa [‹qprod _ = _›] at h

theorem half_one : val false (nv [1]) (nv [2]) + val false (nv [1]) (nv [2]) = 1 := by decide +kernel
theorem can_one : qneg 1 = false ∧ digs (qnum 1) = [1] ∧ digs (Rat.den 1) = [1] := ⟨rfl, by decide, by decide⟩
theorem dec_t {p : Prop} [Decidable p] (h : p) : Value.bool (decide p) = .bool true := congrArg Value.bool (decide_eq_true h)
theorem dec_f {p : Prop} [Decidable p] (h : ¬ p) : Value.bool (decide p) = .bool false := congrArg Value.bool (decide_eq_false h)
end Go.Proofs.Ythfpcebcfjlkmac
set_option linter.unusedSimpArgs false
set_option linter.unusedVariables false
namespace Go.Proofs.Ythfpcebcfjlkmac
open Go.RowKit
theorem q_mul (a b : Rat) : val (qneg a != qneg b) (qnum a * qnum b) (a.den * b.den) = a * b := by rw [← val_mul, val_q, val_q]
theorem q_add_same {a b : Rat} (h : qneg a = qneg b) : val (qneg a) (qnum a * b.den + qnum b * a.den) (a.den * b.den) = a + b := by
  rw [← val_add_same a.den_nz b.den_nz h, val_q, val_q]
theorem q_add_gt {a b : Rat} (h : qneg a ≠ qneg b) (hle : qnum b * a.den ≤ qnum a * b.den) : val (qneg a) (qnum a * b.den - qnum b * a.den) (a.den * b.den) = a + b := by
  rw [← val_add_gt a.den_nz b.den_nz h hle, val_q, val_q]
theorem q_add_lt {a b : Rat} (h : qneg a ≠ qneg b) (hle : qnum a * b.den ≤ qnum b * a.den) : val (qneg b) (qnum b * a.den - qnum a * b.den) (a.den * b.den) = a + b := by
  rw [← val_add_lt a.den_nz b.den_nz h hle, val_q, val_q]

theorem rqMul_c {w : World} {Ban : Nat} {Aan : Option Addr} {man can : Nat} {xan : List Nat} (han : Rd Ban w 1 Aan man can (us xan)) {Bad : Nat} {Aad : Option Addr} {mad cad : Nat} {xad : List Nat} (had : Rd Bad w 1 Aad mad cad (us xad)) {Bbn : Nat} {Abn : Option Addr} {mbn cbn : Nat} {xbn : List Nat} (hbn : Rd Bbn w 1 Abn mbn cbn (us xbn)) {Bbd : Nat} {Abd : Option Addr} {mbd cbd : Nat} {xbd : List Nat} (hbd : Rd Bbd w 1 Abd mbd cbd (us xbd)) {na : Bool} (hLan : Lim xan) (hLad : Lim xad) (qa : Rat) (hqa : val na (nv xan) (nv xad) = qa) {nb : Bool} (hLbn : Lim xbn) (hLbd : Lim xbd) (qb : Rat) (hqb : val nb (nv xbn) (nv xbd) = qb) (hsa : man ≤ 4194304 ∧ mad ≤ 4194304) (hsb : mbn ≤ 4194304 ∧ mbd ≤ 4194304) :
    Calls Try.prog 42 #[.agg #[.bool na, .slice Aan man can, .slice Aad mad cad], .agg #[.bool nb, .slice Abn mbn cbn, .slice Abd mbd cbd]] w fun e w2 => ∃ v, e = .returned v ∧ (fun v w2 => ∃ A2 m2 c2 A3 m3 c3, v = .agg #[.bool (qneg (qa * qb)), .slice A2 m2 c2, .slice A3 m3 c3] ∧ w.grownBy w2 none ∧ Own w.heap.size w2 48 1 A2 m2 c2 (us (digs (qnum (qa * qb)))) ∧ Own w.heap.size w2 48 1 A3 m3 c3 (us (digs (Rat.den (qa * qb)))) ∧ m2 ≤ man + mbn ∧ m3 ≤ mad + mbd + 3) v w2 := by
  have han := han.norm
  have han_l := han.ulen
  have han_x := han.max
  simp only [maxLen] at han_x
  have han_c := han.cap
  have had := had.norm
  have had_l := had.ulen
  have had_x := had.max
  simp only [maxLen] at had_x
  have had_c := had.cap
  have hbn := hbn.norm
  have hbn_l := hbn.ulen
  have hbn_x := hbn.max
  simp only [maxLen] at hbn_x
  have hbn_c := hbn.cap
  have hbd := hbd.norm
  have hbd_l := hbd.ulen
  have hbd_x := hbd.max
  simp only [maxLen] at hbd_x
  have hbd_c := hbd.cap
  have han0 := han
  have had0 := had
  have hbn0 := hbn
  have hbd0 := hbd
  have hB := ext_refl w
  refine calls_of_Wc (vs := [.agg #[.bool na, .slice Aan man can, .slice Aad mad cad], .agg #[.bool nb, .slice Abn mbn cbn, .slice Abd mbd cbd]]) [.cell 4 25] Try.func42 rfl rfl rfl rfl ?_
  refine W.seq ?_
  refine W.region ?_
  refine WL.box Try.el25 rfl rfl rfl ?_
  intro g11 w12 hg_g11 hVg11 hGw12
  change Own _ _ _ _ _ _ _ [.bool na, .slice Aan man can, .slice Aad mad cad] at hVg11
  have hVg11 := hVg11.low (b' := w.heap.size) hB.size
  have hB := ext_trans hB hGw12
  have han := han0.ext hB
  have had := had0.ext hB
  have hbn := hbn0.ext hB
  have hbd := hbd0.ext hB
  refine WL.box Try.el25 rfl rfl rfl ?_
  intro g13 w14 hg_g13 hVg13 hGw14
  change Own _ _ _ _ _ _ _ [.bool nb, .slice Abn mbn cbn, .slice Abd mbd cbd] at hVg13
  have hlt_g11_g13 : g11 < g13 := by rw [hg_g13]; exact (hVg11.bl_ge _ rfl).2
  have hVg13 := hVg13.low (b' := w.heap.size) hB.size
  have hB := ext_trans hB hGw14
  have han := han0.ext hB
  have had := had0.ext hB
  have hbn := hbn0.ext hB
  have hbd := hbd0.ext hB
  have hVg11 := hVg11.ext hGw14
  refine WL.alloc Try.el25 rfl ?_
  intro g15 w16 hg_g15 hVg15 hGw16
  change Own _ _ _ _ _ _ _ [.bool false, .slice none 0 0, .slice none 0 0] at hVg15
  have hlt_g11_g15 : g11 < g15 := by rw [hg_g15]; exact (hVg11.bl_ge _ rfl).2
  have hlt_g13_g15 : g13 < g15 := by rw [hg_g15]; exact (hVg13.bl_ge _ rfl).2
  have hVg15 := hVg15.low (b' := w.heap.size) hB.size
  have hB := ext_trans hB hGw16
  have han := han0.ext hB
  have had := had0.ext hB
  have hbn := hbn0.ext hB
  have hbd := hbd0.ext hB
  have hVg11 := hVg11.ext hGw16
  have hVg13 := hVg13.ext hGw16
  refine WL.done ?_
  refine W.seq ?_
  refine W.region ?_
  refine WL.loadV (cs := [.bool na, .slice Aan man can, .slice Aad mad cad]) Try.el25 Try.agg25 rfl rfl hVg11.vcells rfl ?_
  refine WL.call Try.func27 rfl Try.nm27 rfl rfl (rqTrim_c han had hLan hLad qa hqa (by omega)) ?_
  rintro _ w17 ⟨A18, m19, c20, A21, m22, c23, rfl, hGw17, tan, tad, tam⟩
  have hap_tan_g11 := ap_new tan (hVg11.bl_ge _ rfl).2
  have hap_tan_g13 := ap_new tan (hVg13.bl_ge _ rfl).2
  have hap_tad_g11 := ap_new tad (hVg11.bl_ge _ rfl).2
  have hap_tad_g13 := ap_new tad (hVg13.bl_ge _ rfl).2
  have tan := tan.low (b' := w.heap.size) hB.size
  have tad := tad.low (b' := w.heap.size) hB.size
  have hB := ext_trans hB hGw17
  have hbn := hbn0.ext hB
  have hbd := hbd0.ext hB
  have hVg11 := hVg11.ext hGw17
  have hVg13 := hVg13.ext hGw17
  have hVg15 := hVg15.ext hGw17
  have tan_l := tan.rd.ulen
  have tad_l := tad.rd.ulen
  refine WL.storeV Try.el25 rfl rfl rfl rfl hVg11 ?_
  have hOld25 := hVg11
  intro w24 hVg11 hGw24
  change Own _ _ _ _ _ _ _ [.bool (qneg (qa)), .slice A18 m19 c20, .slice A21 m22 c23] at hVg11
  have hB := ext_own hB hGw24 (fun g hg => (hOld25.bl_ge g hg).1)
  have hbn := hbn0.ext hB
  have hbd := hbd0.ext hB
  have hVg13 := hVg13.grown hGw24 (apart (by omega))
  have hVg15 := hVg15.grown hGw24 (apart (by omega))
  have tan := tan.grown hGw24 (ap_row hap_tan_g11)
  have tad := tad.grown hGw24 (ap_row hap_tad_g11)
  refine WL.done ?_
  refine W.seq ?_
  refine W.region ?_
  refine WL.loadV (cs := [.bool nb, .slice Abn mbn cbn, .slice Abd mbd cbd]) Try.el25 Try.agg25 rfl rfl hVg13.vcells rfl ?_
  refine WL.call Try.func27 rfl Try.nm27 rfl rfl (rqTrim_c hbn hbd hLbn hLbd qb hqb (by omega)) ?_
  rintro _ w26 ⟨A27, m28, c29, A30, m31, c32, rfl, hGw26, tbn, tbd, tbm⟩
  have hap_tbn_g13 := ap_new tbn (hVg13.bl_ge _ rfl).2
  have hap_tbd_g13 := ap_new tbd (hVg13.bl_ge _ rfl).2
  have tbn := tbn.low (b' := w.heap.size) hB.size
  have tbd := tbd.low (b' := w.heap.size) hB.size
  have hB := ext_trans hB hGw26
  have hVg13 := hVg13.ext hGw26
  have hVg15 := hVg15.ext hGw26
  have tan := tan.ext hGw26
  have tad := tad.ext hGw26
  have hVg11 := hVg11.ext hGw26
  have tbn_l := tbn.rd.ulen
  have tbd_l := tbd.rd.ulen
  refine WL.storeV Try.el25 rfl rfl rfl rfl hVg13 ?_
  have hOld34 := hVg13
  intro w33 hVg13 hGw33
  change Own _ _ _ _ _ _ _ [.bool (qneg (qb)), .slice A27 m28 c29, .slice A30 m31 c32] at hVg13
  have hB := ext_own hB hGw33 (fun g hg => (hOld34.bl_ge g hg).1)
  have hVg15 := hVg15.grown hGw33 (apart (by omega))
  have tan := tan.grown hGw33 (ap_row hap_tan_g13)
  have tad := tad.grown hGw33 (ap_row hap_tad_g13)
  have hVg11 := hVg11.grown hGw33 (apart (by omega))
  have tbn := tbn.grown hGw33 (ap_row hap_tbn_g13)
  have tbd := tbd.grown hGw33 (ap_row hap_tbd_g13)
  refine WL.done ?_
  refine W.seq ?_
  refine W.drawT 15 [⟨[], [2], true⟩, ⟨[0], [], false⟩, ⟨[], [3], true⟩, ⟨[2], [], false⟩, ⟨[1, 3], [], true⟩, ⟨[], [2], true⟩, ⟨[5], [], false⟩, ⟨[], [3], true⟩, ⟨[7], [], false⟩, ⟨[6, 8], [], false⟩, ⟨[], [2], true⟩, ⟨[10], [], false⟩, ⟨[], [3], true⟩, ⟨[12], [], false⟩, ⟨[11, 13], [], false⟩] [[(2, .pointer (some ⟨g11, 0, none⟩))], [], [(3, .pointer (some ⟨g13, 0, none⟩))], [], [], [(2, .pointer (some ⟨g11, 0, none⟩))], [], [(3, .pointer (some ⟨g13, 0, none⟩))], [], [], [(2, .pointer (some ⟨g11, 0, none⟩))], [], [(3, .pointer (some ⟨g13, 0, none⟩))], [], []] (fun iQ => [fun v wQ => v = .pointer (some ((⟨g11, 0, none⟩ : Addr).add 0)), fun v wQ => v = .bool (qneg (qa)), fun v wQ => v = .pointer (some ((⟨g13, 0, none⟩ : Addr).add 0)), fun v wQ => v = .bool (qneg (qb)), fun v wQ => v = .bool ((qneg (qa)) != (qneg (qb))), fun v wQ => v = .pointer (some ((⟨g11, 0, none⟩ : Addr).add 1)), fun v wQ => v = .slice A18 m19 c20, fun v wQ => v = .pointer (some ((⟨g13, 0, none⟩ : Addr).add 1)), fun v wQ => v = .slice A27 m28 c29, fun v wQ => ∃ A46 m47 c48, v = .slice A46 m47 c48 ∧ (Own w.heap.size wQ 48 1 A46 m47 c48 (us (digs (nv (digs (qnum (qa))) * nv (digs (qnum (qb))))))) ∧ (m47 ≤ m19 + m28) ∧ (∀ k, bl A46 = some k → k ≠ g11) ∧ (∀ k, bl A46 = some k → k ≠ g13) ∧ (∀ k, bl A46 = some k → k ≠ g15), fun v wQ => v = .pointer (some ((⟨g11, 0, none⟩ : Addr).add 2)), fun v wQ => v = .slice A21 m22 c23, fun v wQ => v = .pointer (some ((⟨g13, 0, none⟩ : Addr).add 2)), fun v wQ => v = .slice A30 m31 c32, fun v wQ => ∃ A55 m56 c57, v = .slice A55 m56 c57 ∧ (Own w.heap.size wQ 48 1 A55 m56 c57 (us (digs (nv (digs (Rat.den (qa))) * nv (digs (Rat.den (qb))))))) ∧ (m56 ≤ m22 + m31) ∧ (∀ k, bl A55 = some k → k ≠ g11) ∧ (∀ k, bl A55 = some k → k ≠ g13) ∧ (∀ k, bl A55 = some k → k ≠ g15)].getD iQ (fun _ _ => True)) Try.mixed (by kernel_rfl) ?_ ?_ ?_
  · refine Vs_monoT _ ?_
    intro VQ hVQ vQ wQ1 wQ2 hQ1 hQ2
    simp only [List.mem_cons, List.not_mem_nil, or_false] at hVQ
    rcases hVQ with rfl | rfl | rfl | rfl | rfl | rfl | rfl | rfl | rfl | rfl | rfl | rfl | rfl | rfl | rfl
    · exact hQ1
    · exact hQ1
    · exact hQ1
    · exact hQ1
    · exact hQ1
    · exact hQ1
    · exact hQ1
    · exact hQ1
    · exact hQ1
    · obtain ⟨A46, m47, c48, hQe, u1, u1m, hap_u1_g11, hap_u1_g13, hap_u1_g15⟩ := hQ1
      exact ⟨A46, m47, c48, hQe, u1.ext hQ2, u1m, hap_u1_g11, hap_u1_g13, hap_u1_g15⟩
    · exact hQ1
    · exact hQ1
    · exact hQ1
    · exact hQ1
    · obtain ⟨A55, m56, c57, hQe, u2, u2m, hap_u2_g11, hap_u2_g13, hap_u2_g15⟩ := hQ1
      exact ⟨A55, m56, c57, hQe, u2.ext hQ2, u2m, hap_u2_g11, hap_u2_g13, hap_u2_g15⟩
  · refine ⟨⟨rfl, ⟨rfl, trivial⟩, ?_⟩, ⟨rfl, trivial, ?_⟩, ⟨rfl, ⟨rfl, trivial⟩, ?_⟩, ⟨rfl, trivial, ?_⟩, ⟨rfl, trivial, ?_⟩, ⟨rfl, ⟨rfl, trivial⟩, ?_⟩, ⟨rfl, trivial, ?_⟩, ⟨rfl, ⟨rfl, trivial⟩, ?_⟩, ⟨rfl, trivial, ?_⟩, ⟨rfl, trivial, ?_⟩, ⟨rfl, ⟨rfl, trivial⟩, ?_⟩, ⟨rfl, trivial, ?_⟩, ⟨rfl, ⟨rfl, trivial⟩, ?_⟩, ⟨rfl, trivial, ?_⟩, ⟨rfl, trivial, ?_⟩, trivial⟩
    · intro w35 hE
      intro R
      refine WL.fieldA (off := 0) Try.fla25_0 rfl rfl ?_
      exact WL.done ⟨_, rfl, rfl, rfl⟩
    · intro w36 hE
      have hE := hE rfl
      have hB := ext_trans hB hE
      have hVg11 := hVg11.ext hE
      rintro _ rfl
      intro R
      refine WL.load Try.underlying4 rfl rfl (hVg11.vcells 0 _ rfl) rfl ?_
      exact WL.done ⟨_, rfl, ext_refl _, rfl⟩
    · intro w37 hE
      intro R
      refine WL.fieldA (off := 0) Try.fla25_0 rfl rfl ?_
      exact WL.done ⟨_, rfl, rfl, rfl⟩
    · intro w38 hE
      have hE := hE rfl
      have hB := ext_trans hB hE
      have hVg13 := hVg13.ext hE
      rintro _ rfl
      intro R
      refine WL.load Try.underlying4 rfl rfl (hVg13.vcells 0 _ rfl) rfl ?_
      exact WL.done ⟨_, rfl, ext_refl _, rfl⟩
    · intro w39 hE
      rintro _ rfl
      rintro _ rfl
      intro R
      refine WL.neqB (r := ((qneg (qa)) != (qneg (qb)))) rfl rfl Try.underlying4 rfl rfl ?_
      exact WL.done ⟨_, rfl, rfl, rfl⟩
    · intro w40 hE
      intro R
      refine WL.fieldA (off := 1) Try.fla25_1 rfl rfl ?_
      exact WL.done ⟨_, rfl, rfl, rfl⟩
    · intro w41 hE
      have hE := hE rfl
      have hB := ext_trans hB hE
      have hVg11 := hVg11.ext hE
      rintro _ rfl
      intro R
      refine WL.load Try.underlying23 rfl rfl (hVg11.vcells 1 _ rfl) rfl ?_
      exact WL.done ⟨_, rfl, ext_refl _, rfl⟩
    · intro w42 hE
      intro R
      refine WL.fieldA (off := 1) Try.fla25_1 rfl rfl ?_
      exact WL.done ⟨_, rfl, rfl, rfl⟩
    · intro w43 hE
      have hE := hE rfl
      have hB := ext_trans hB hE
      have hVg13 := hVg13.ext hE
      rintro _ rfl
      intro R
      refine WL.load Try.underlying23 rfl rfl (hVg13.vcells 1 _ rfl) rfl ?_
      exact WL.done ⟨_, rfl, ext_refl _, rfl⟩
    · intro w44 hE
      have hE := hE rfl
      have hB := ext_trans hB hE
      have hVg15 := hVg15.ext hE
      have tan := tan.ext hE
      have hVg11 := hVg11.ext hE
      have tbn := tbn.ext hE
      have hVg13 := hVg13.ext hE
      rintro _ rfl
      rintro _ rfl
      intro R
      refine WL.call Try.func66 rfl Try.nm66 rfl rfl (rMul_c tan.rd tbn.rd (digs_lim _) (digs_lim _) (by omega) (by omega)) ?_
      rintro _ w45 ⟨A46, m47, c48, rfl, hGw45, u1, u1m⟩
      have hap_u1_g11 := ap_new u1 (hVg11.bl_ge _ rfl).2
      have hap_u1_g13 := ap_new u1 (hVg13.bl_ge _ rfl).2
      have hap_u1_g15 := ap_new u1 (hVg15.bl_ge _ rfl).2
      have u1 := u1.low (b' := w.heap.size) hB.size
      have hB := ext_trans hB hGw45
      have u1_l := u1.rd.ulen
      exact WL.done ⟨_, rfl, hGw45, ⟨A46, m47, c48, rfl, u1, u1m, hap_u1_g11, hap_u1_g13, hap_u1_g15⟩⟩
    · intro w49 hE
      intro R
      refine WL.fieldA (off := 2) Try.fla25_2 rfl rfl ?_
      exact WL.done ⟨_, rfl, rfl, rfl⟩
    · intro w50 hE
      have hE := hE rfl
      have hB := ext_trans hB hE
      have hVg11 := hVg11.ext hE
      rintro _ rfl
      intro R
      refine WL.load Try.underlying23 rfl rfl (hVg11.vcells 2 _ rfl) rfl ?_
      exact WL.done ⟨_, rfl, ext_refl _, rfl⟩
    · intro w51 hE
      intro R
      refine WL.fieldA (off := 2) Try.fla25_2 rfl rfl ?_
      exact WL.done ⟨_, rfl, rfl, rfl⟩
    · intro w52 hE
      have hE := hE rfl
      have hB := ext_trans hB hE
      have hVg13 := hVg13.ext hE
      rintro _ rfl
      intro R
      refine WL.load Try.underlying23 rfl rfl (hVg13.vcells 2 _ rfl) rfl ?_
      exact WL.done ⟨_, rfl, ext_refl _, rfl⟩
    · intro w53 hE
      have hE := hE rfl
      have hB := ext_trans hB hE
      have hVg15 := hVg15.ext hE
      have tad := tad.ext hE
      have hVg11 := hVg11.ext hE
      have tbd := tbd.ext hE
      have hVg13 := hVg13.ext hE
      rintro _ rfl
      rintro _ rfl
      intro R
      refine WL.call Try.func66 rfl Try.nm66 rfl rfl (rMul_c tad.rd tbd.rd (digs_lim _) (digs_lim _) (by omega) (by omega)) ?_
      rintro _ w54 ⟨A55, m56, c57, rfl, hGw54, u2, u2m⟩
      have hap_u2_g11 := ap_new u2 (hVg11.bl_ge _ rfl).2
      have hap_u2_g13 := ap_new u2 (hVg13.bl_ge _ rfl).2
      have hap_u2_g15 := ap_new u2 (hVg15.bl_ge _ rfl).2
      have u2 := u2.low (b' := w.heap.size) hB.size
      have hB := ext_trans hB hGw54
      have u2_l := u2.rd.ulen
      exact WL.done ⟨_, rfl, hGw54, ⟨A55, m56, c57, rfl, u2, u2m, hap_u2_g11, hap_u2_g13, hap_u2_g15⟩⟩
  · intro vals w58 hT hVs
    have hB := ext_trans hB hT
    have hVg15 := hVg15.ext hT
    have hv0 : vals 0 = _ := hVs 0 (by decide)
    have hv1 : vals 1 = _ := hVs 1 (by decide)
    have hv2 : vals 2 = _ := hVs 2 (by decide)
    have hv3 : vals 3 = _ := hVs 3 (by decide)
    have hv4 : vals 4 = _ := hVs 4 (by decide)
    have hv5 : vals 5 = _ := hVs 5 (by decide)
    have hv6 : vals 6 = _ := hVs 6 (by decide)
    have hv7 : vals 7 = _ := hVs 7 (by decide)
    have hv8 : vals 8 = _ := hVs 8 (by decide)
    obtain ⟨A46, m47, c48, hv9, u1, u1m, hap_u1_g11, hap_u1_g13, hap_u1_g15⟩ := hVs 9 (by decide)
    have hv10 : vals 10 = _ := hVs 10 (by decide)
    have hv11 : vals 11 = _ := hVs 11 (by decide)
    have hv12 : vals 12 = _ := hVs 12 (by decide)
    have hv13 : vals 13 = _ := hVs 13 (by decide)
    obtain ⟨A55, m56, c57, hv14, u2, u2m, hap_u2_g11, hap_u2_g13, hap_u2_g15⟩ := hVs 14 (by decide)
    rw [show (List.filterMap (fun i => Option.map (fun t => (t, vals i)) (dstAt _ i)) (List.range _)) = [(9, .pointer (some ((⟨g11, 0, none⟩ : Addr).add 0))), (10, .bool (qneg (qa))), (11, .pointer (some ((⟨g13, 0, none⟩ : Addr).add 0))), (12, .bool (qneg (qb))), (13, .bool ((qneg (qa)) != (qneg (qb)))), (14, .pointer (some ((⟨g11, 0, none⟩ : Addr).add 1))), (15, .slice A18 m19 c20), (16, .pointer (some ((⟨g13, 0, none⟩ : Addr).add 1))), (17, .slice A27 m28 c29), (18, .slice A46 m47 c48), (19, .pointer (some ((⟨g11, 0, none⟩ : Addr).add 2))), (20, .slice A21 m22 c23), (21, .pointer (some ((⟨g13, 0, none⟩ : Addr).add 2))), (22, .slice A30 m31 c32), (23, .slice A55 m56 c57)] from by
      show [(9, vals 0), (10, vals 1), (11, vals 2), (12, vals 3), (13, vals 4), (14, vals 5), (15, vals 6), (16, vals 7), (17, vals 8), (18, vals 9), (19, vals 10), (20, vals 11), (21, vals 12), (22, vals 13), (23, vals 14)] = _
      rw [hv0, hv1, hv2, hv3, hv4, hv5, hv6, hv7, hv8, hv9, hv10, hv11, hv12, hv13, hv14]]
    refine WA.step [15] (by decide +kernel) rfl ?_
    intro iQ hQ
    simp only [List.mem_cons, List.not_mem_nil, or_false] at hQ
    obtain rfl := hQ
    · refine ⟨_, rfl, ?_⟩
      refine WL.call Try.func33 rfl Try.nm33 rfl rfl (rMake_c u1.rd u2.rd (digs_lim _) (digs_lim _) (by omega) (by omega) (qa * qb) (by simp only [nv_digs]; exact q_mul _ _)) ?_
      rintro _ w59 ⟨A60, m61, c62, A63, m64, c65, rfl, hGw59, hrn, hrd, hrm⟩
      have hap_hrn_g15 := ap_new hrn (hVg15.bl_ge _ rfl).2
      have hap_hrd_g15 := ap_new hrd (hVg15.bl_ge _ rfl).2
      have hrn := hrn.low (b' := w.heap.size) hB.size
      have hrd := hrd.low (b' := w.heap.size) hB.size
      have hB := ext_trans hB hGw59
      have hVg15 := hVg15.ext hGw59
      have hrn_l := hrn.rd.ulen
      have hrd_l := hrd.rd.ulen
      refine WL.done ?_
      refine WA.step [16] (by decide +kernel) rfl ?_
      intro iQ hQ
      simp only [List.mem_cons, List.not_mem_nil, or_false] at hQ
      obtain rfl := hQ
      · refine ⟨_, rfl, ?_⟩
        refine WL.storeV Try.el25 rfl rfl rfl rfl hVg15 ?_
        have hOld67 := hVg15
        intro w66 hVg15 hGw66
        change Own _ _ _ _ _ _ _ [.bool (qneg (qa * qb)), .slice A60 m61 c62, .slice A63 m64 c65] at hVg15
        have hB := ext_own hB hGw66 (fun g hg => (hOld67.bl_ge g hg).1)
        have hrn := hrn.grown hGw66 (ap_row hap_hrn_g15)
        have hrd := hrd.grown hGw66 (ap_row hap_hrd_g15)
        refine WL.done ?_
        refine WA.done (by decide +kernel) ?_
        refine W.ret ?_
        refine ⟨[.agg #[.bool (qneg (qa * qb)), .slice A60 m61 c62, .slice A63 m64 c65]], ⟨_, _, _, rfl, rfl, run_loadV (cs := [.bool (qneg (qa * qb)), .slice A60 m61 c62, .slice A63 m64 c65]) Try.el25 Try.agg25 rfl hVg15.vcells, rfl⟩, ?_⟩
        exact ⟨_, _, _, _, _, _, rfl, hB, hrn, hrd, by omega⟩

theorem rqAdd_c {w : World} {Ban : Nat} {Aan : Option Addr} {man can : Nat} {xan : List Nat} (han : Rd Ban w 1 Aan man can (us xan)) {Bad : Nat} {Aad : Option Addr} {mad cad : Nat} {xad : List Nat} (had : Rd Bad w 1 Aad mad cad (us xad)) {Bbn : Nat} {Abn : Option Addr} {mbn cbn : Nat} {xbn : List Nat} (hbn : Rd Bbn w 1 Abn mbn cbn (us xbn)) {Bbd : Nat} {Abd : Option Addr} {mbd cbd : Nat} {xbd : List Nat} (hbd : Rd Bbd w 1 Abd mbd cbd (us xbd)) {na : Bool} (hLan : Lim xan) (hLad : Lim xad) (qa : Rat) (hqa : val na (nv xan) (nv xad) = qa) {nb : Bool} (hLbn : Lim xbn) (hLbd : Lim xbd) (qb : Rat) (hqb : val nb (nv xbn) (nv xbd) = qb) (hsa : man ≤ 4194304 ∧ mad ≤ 4194304) (hsb : mbn ≤ 4194304 ∧ mbd ≤ 4194304) :
    Calls Try.prog 41 #[.agg #[.bool na, .slice Aan man can, .slice Aad mad cad], .agg #[.bool nb, .slice Abn mbn cbn, .slice Abd mbd cbd]] w fun e w2 => ∃ v, e = .returned v ∧ (fun v w2 => ∃ A2 m2 c2 A3 m3 c3, v = .agg #[.bool (qneg (qa + qb)), .slice A2 m2 c2, .slice A3 m3 c3] ∧ w.grownBy w2 none ∧ Own w.heap.size w2 48 1 A2 m2 c2 (us (digs (qnum (qa + qb)))) ∧ Own w.heap.size w2 48 1 A3 m3 c3 (us (digs (Rat.den (qa + qb)))) ∧ m2 ≤ max (man + mbd) (mbn + mad) + 3 ∧ m3 ≤ mad + mbd + 3) v w2 := by
  have han := han.norm
  have han_l := han.ulen
  have han_x := han.max
  simp only [maxLen] at han_x
  have han_c := han.cap
  have had := had.norm
  have had_l := had.ulen
  have had_x := had.max
  simp only [maxLen] at had_x
  have had_c := had.cap
  have hbn := hbn.norm
  have hbn_l := hbn.ulen
  have hbn_x := hbn.max
  simp only [maxLen] at hbn_x
  have hbn_c := hbn.cap
  have hbd := hbd.norm
  have hbd_l := hbd.ulen
  have hbd_x := hbd.max
  simp only [maxLen] at hbd_x
  have hbd_c := hbd.cap
  have han0 := han
  have had0 := had
  have hbn0 := hbn
  have hbd0 := hbd
  have hB := ext_refl w
  refine calls_of_Wc (vs := [.agg #[.bool na, .slice Aan man can, .slice Aad mad cad], .agg #[.bool nb, .slice Abn mbn cbn, .slice Abd mbd cbd]]) [.cell 4 25] Try.func41 rfl rfl rfl rfl ?_
  refine W.seq ?_
  refine W.region ?_
  refine WL.box Try.el25 rfl rfl rfl ?_
  intro g11 w12 hg_g11 hVg11 hGw12
  change Own _ _ _ _ _ _ _ [.bool na, .slice Aan man can, .slice Aad mad cad] at hVg11
  have hVg11 := hVg11.low (b' := w.heap.size) hB.size
  have hB := ext_trans hB hGw12
  have han := han0.ext hB
  have had := had0.ext hB
  have hbn := hbn0.ext hB
  have hbd := hbd0.ext hB
  refine WL.box Try.el25 rfl rfl rfl ?_
  intro g13 w14 hg_g13 hVg13 hGw14
  change Own _ _ _ _ _ _ _ [.bool nb, .slice Abn mbn cbn, .slice Abd mbd cbd] at hVg13
  have hlt_g11_g13 : g11 < g13 := by rw [hg_g13]; exact (hVg11.bl_ge _ rfl).2
  have hVg13 := hVg13.low (b' := w.heap.size) hB.size
  have hB := ext_trans hB hGw14
  have han := han0.ext hB
  have had := had0.ext hB
  have hbn := hbn0.ext hB
  have hbd := hbd0.ext hB
  have hVg11 := hVg11.ext hGw14
  refine WL.alloc Try.el25 rfl ?_
  intro g15 w16 hg_g15 hVg15 hGw16
  change Own _ _ _ _ _ _ _ [.bool false, .slice none 0 0, .slice none 0 0] at hVg15
  have hlt_g11_g15 : g11 < g15 := by rw [hg_g15]; exact (hVg11.bl_ge _ rfl).2
  have hlt_g13_g15 : g13 < g15 := by rw [hg_g15]; exact (hVg13.bl_ge _ rfl).2
  have hVg15 := hVg15.low (b' := w.heap.size) hB.size
  have hB := ext_trans hB hGw16
  have han := han0.ext hB
  have had := had0.ext hB
  have hbn := hbn0.ext hB
  have hbd := hbd0.ext hB
  have hVg11 := hVg11.ext hGw16
  have hVg13 := hVg13.ext hGw16
  refine WL.done ?_
  refine W.seq ?_
  refine W.region ?_
  refine WL.loadV (cs := [.bool na, .slice Aan man can, .slice Aad mad cad]) Try.el25 Try.agg25 rfl rfl hVg11.vcells rfl ?_
  refine WL.call Try.func27 rfl Try.nm27 rfl rfl (rqTrim_c han had hLan hLad qa hqa (by omega)) ?_
  rintro _ w17 ⟨A18, m19, c20, A21, m22, c23, rfl, hGw17, tan, tad, tam⟩
  have hap_tan_g11 := ap_new tan (hVg11.bl_ge _ rfl).2
  have hap_tan_g13 := ap_new tan (hVg13.bl_ge _ rfl).2
  have hap_tad_g11 := ap_new tad (hVg11.bl_ge _ rfl).2
  have hap_tad_g13 := ap_new tad (hVg13.bl_ge _ rfl).2
  have tan := tan.low (b' := w.heap.size) hB.size
  have tad := tad.low (b' := w.heap.size) hB.size
  have hB := ext_trans hB hGw17
  have hbn := hbn0.ext hB
  have hbd := hbd0.ext hB
  have hVg11 := hVg11.ext hGw17
  have hVg13 := hVg13.ext hGw17
  have hVg15 := hVg15.ext hGw17
  have tan_l := tan.rd.ulen
  have tad_l := tad.rd.ulen
  refine WL.storeV Try.el25 rfl rfl rfl rfl hVg11 ?_
  have hOld25 := hVg11
  intro w24 hVg11 hGw24
  change Own _ _ _ _ _ _ _ [.bool (qneg (qa)), .slice A18 m19 c20, .slice A21 m22 c23] at hVg11
  have hB := ext_own hB hGw24 (fun g hg => (hOld25.bl_ge g hg).1)
  have hbn := hbn0.ext hB
  have hbd := hbd0.ext hB
  have hVg13 := hVg13.grown hGw24 (apart (by omega))
  have hVg15 := hVg15.grown hGw24 (apart (by omega))
  have tan := tan.grown hGw24 (ap_row hap_tan_g11)
  have tad := tad.grown hGw24 (ap_row hap_tad_g11)
  refine WL.done ?_
  refine W.seq ?_
  refine W.region ?_
  refine WL.loadV (cs := [.bool nb, .slice Abn mbn cbn, .slice Abd mbd cbd]) Try.el25 Try.agg25 rfl rfl hVg13.vcells rfl ?_
  refine WL.call Try.func27 rfl Try.nm27 rfl rfl (rqTrim_c hbn hbd hLbn hLbd qb hqb (by omega)) ?_
  rintro _ w26 ⟨A27, m28, c29, A30, m31, c32, rfl, hGw26, tbn, tbd, tbm⟩
  have hap_tbn_g13 := ap_new tbn (hVg13.bl_ge _ rfl).2
  have hap_tbd_g13 := ap_new tbd (hVg13.bl_ge _ rfl).2
  have tbn := tbn.low (b' := w.heap.size) hB.size
  have tbd := tbd.low (b' := w.heap.size) hB.size
  have hB := ext_trans hB hGw26
  have hVg13 := hVg13.ext hGw26
  have hVg15 := hVg15.ext hGw26
  have tan := tan.ext hGw26
  have tad := tad.ext hGw26
  have hVg11 := hVg11.ext hGw26
  have tbn_l := tbn.rd.ulen
  have tbd_l := tbd.rd.ulen
  refine WL.storeV Try.el25 rfl rfl rfl rfl hVg13 ?_
  have hOld34 := hVg13
  intro w33 hVg13 hGw33
  change Own _ _ _ _ _ _ _ [.bool (qneg (qb)), .slice A27 m28 c29, .slice A30 m31 c32] at hVg13
  have hB := ext_own hB hGw33 (fun g hg => (hOld34.bl_ge g hg).1)
  have hVg15 := hVg15.grown hGw33 (apart (by omega))
  have tan := tan.grown hGw33 (ap_row hap_tan_g13)
  have tad := tad.grown hGw33 (ap_row hap_tad_g13)
  have hVg11 := hVg11.grown hGw33 (apart (by omega))
  have tbn := tbn.grown hGw33 (ap_row hap_tbn_g13)
  have tbd := tbd.grown hGw33 (ap_row hap_tbd_g13)
  refine WL.done ?_
  refine W.seq ?_
  refine W.region ?_
  refine WL.fieldA (off := 1) Try.fla25_1 rfl rfl ?_
  refine WL.load Try.underlying23 rfl rfl (hVg11.vcells 1 _ rfl) rfl ?_
  refine WL.fieldA (off := 2) Try.fla25_2 rfl rfl ?_
  refine WL.load Try.underlying23 rfl rfl (hVg13.vcells 2 _ rfl) rfl ?_
  refine WL.call Try.func66 rfl Try.nm66 rfl rfl (rMul_c tan.rd tbd.rd (digs_lim _) (digs_lim _) (by omega) (by omega)) ?_
  rintro _ w35 ⟨A36, m37, c38, rfl, hGw35, u1, u1m⟩
  have u1 := u1.low (b' := w.heap.size) hB.size
  have hB := ext_trans hB hGw35
  have hVg15 := hVg15.ext hGw35
  have tad := tad.ext hGw35
  have hVg11 := hVg11.ext hGw35
  have tbn := tbn.ext hGw35
  have tbd := tbd.ext hGw35
  have hVg13 := hVg13.ext hGw35
  have u1_l := u1.rd.ulen
  refine WL.assign rfl rfl ?_
  refine WL.done ?_
  refine W.seq ?_
  refine W.region ?_
  refine WL.fieldA (off := 1) Try.fla25_1 rfl rfl ?_
  refine WL.load Try.underlying23 rfl rfl (hVg13.vcells 1 _ rfl) rfl ?_
  refine WL.fieldA (off := 2) Try.fla25_2 rfl rfl ?_
  refine WL.load Try.underlying23 rfl rfl (hVg11.vcells 2 _ rfl) rfl ?_
  refine WL.call Try.func66 rfl Try.nm66 rfl rfl (rMul_c tbn.rd tad.rd (digs_lim _) (digs_lim _) (by omega) (by omega)) ?_
  rintro _ w39 ⟨A40, m41, c42, rfl, hGw39, u2, u2m⟩
  have u2 := u2.low (b' := w.heap.size) hB.size
  have hB := ext_trans hB hGw39
  have hVg15 := hVg15.ext hGw39
  have tad := tad.ext hGw39
  have hVg11 := hVg11.ext hGw39
  have tbd := tbd.ext hGw39
  have hVg13 := hVg13.ext hGw39
  have u1 := u1.ext hGw39
  have u2_l := u2.rd.ulen
  refine WL.assign rfl rfl ?_
  refine WL.done ?_
  refine W.seq ?_
  refine W.region ?_
  refine WL.fieldA (off := 2) Try.fla25_2 rfl rfl ?_
  refine WL.load Try.underlying23 rfl rfl (hVg11.vcells 2 _ rfl) rfl ?_
  refine WL.fieldA (off := 2) Try.fla25_2 rfl rfl ?_
  refine WL.load Try.underlying23 rfl rfl (hVg13.vcells 2 _ rfl) rfl ?_
  refine WL.call Try.func66 rfl Try.nm66 rfl rfl (rMul_c tad.rd tbd.rd (digs_lim _) (digs_lim _) (by omega) (by omega)) ?_
  rintro _ w43 ⟨A44, m45, c46, rfl, hGw43, u3, u3m⟩
  have u3 := u3.low (b' := w.heap.size) hB.size
  have hB := ext_trans hB hGw43
  have hVg15 := hVg15.ext hGw43
  have hVg11 := hVg11.ext hGw43
  have hVg13 := hVg13.ext hGw43
  have u1 := u1.ext hGw43
  have u2 := u2.ext hGw43
  have u3_l := u3.rd.ulen
  refine WL.assign rfl rfl ?_
  refine WL.done ?_
  refine W.seq ?_
  refine W.seq ?_
  refine W.region ?_
  refine WL.fieldA (off := 0) Try.fla25_0 rfl rfl ?_
  refine WL.load Try.underlying4 rfl rfl (hVg11.vcells 0 _ rfl) rfl ?_
  refine WL.fieldA (off := 0) Try.fla25_0 rfl rfl ?_
  refine WL.load Try.underlying4 rfl rfl (hVg13.vcells 0 _ rfl) rfl ?_
  refine WL.eqB (r := ((qneg (qa)) == (qneg (qb)))) rfl rfl Try.underlying4 rfl rfl ?_
  refine WL.done ?_
  refine W.cond2 rfl (fun c47 => ?_) (fun c47 => ?_)
  · skip
    have hsg : qneg qa = qneg qb := eq_of_beq c47
    refine W.seq ?_
    refine W.drawT 6 [⟨[], [2], true⟩, ⟨[0], [], false⟩, ⟨[], [5], true⟩, ⟨[], [6], true⟩, ⟨[2, 3], [], false⟩, ⟨[], [7], true⟩] [[(2, .pointer (some ⟨g11, 0, none⟩))], [], [(5, .slice A36 m37 c38)], [(6, .slice A40 m41 c42)], [], [(7, .slice A44 m45 c46)]] (fun iQ => [fun v wQ => v = .pointer (some ((⟨g11, 0, none⟩ : Addr).add 0)), fun v wQ => v = .bool (qneg (qa)), fun v wQ => v = .slice A36 m37 c38, fun v wQ => v = .slice A40 m41 c42, fun v wQ => ∃ A54 m55 c56, v = .slice A54 m55 c56 ∧ (Own w.heap.size wQ 48 1 A54 m55 c56 (us (digs (nv (digs (nv (digs (qnum (qa))) * nv (digs (Rat.den (qb))))) + nv (digs (nv (digs (qnum (qb))) * nv (digs (Rat.den (qa))))))))) ∧ (m55 ≤ max m37 m41 + 1) ∧ (∀ k, bl A54 = some k → k ≠ g11) ∧ (∀ k, bl A54 = some k → k ≠ g13) ∧ (∀ k, bl A54 = some k → k ≠ g15), fun v wQ => v = .slice A44 m45 c46].getD iQ (fun _ _ => True)) Try.mixed (by kernel_rfl) ?_ ?_ ?_
    · refine Vs_monoT _ ?_
      intro VQ hVQ vQ wQ1 wQ2 hQ1 hQ2
      simp only [List.mem_cons, List.not_mem_nil, or_false] at hVQ
      rcases hVQ with rfl | rfl | rfl | rfl | rfl | rfl
      · exact hQ1
      · exact hQ1
      · exact hQ1
      · exact hQ1
      · obtain ⟨A54, m55, c56, hQe, v1, v1m, hap_v1_g11, hap_v1_g13, hap_v1_g15⟩ := hQ1
        exact ⟨A54, m55, c56, hQe, v1.ext hQ2, v1m, hap_v1_g11, hap_v1_g13, hap_v1_g15⟩
      · exact hQ1
    · refine ⟨⟨rfl, ⟨rfl, trivial⟩, ?_⟩, ⟨rfl, trivial, ?_⟩, ⟨rfl, ⟨rfl, trivial⟩, ?_⟩, ⟨rfl, ⟨rfl, trivial⟩, ?_⟩, ⟨rfl, trivial, ?_⟩, ⟨rfl, ⟨rfl, trivial⟩, ?_⟩, trivial⟩
      · intro w48 hE
        intro R
        refine WL.fieldA (off := 0) Try.fla25_0 rfl rfl ?_
        exact WL.done ⟨_, rfl, rfl, rfl⟩
      · intro w49 hE
        have hE := hE rfl
        have hB := ext_trans hB hE
        have hVg11 := hVg11.ext hE
        rintro _ rfl
        intro R
        refine WL.load Try.underlying4 rfl rfl (hVg11.vcells 0 _ rfl) rfl ?_
        exact WL.done ⟨_, rfl, ext_refl _, rfl⟩
      · intro w50 hE
        intro R
        refine WL.move rfl rfl ?_
        exact WL.done ⟨_, rfl, rfl, rfl⟩
      · intro w51 hE
        intro R
        refine WL.move rfl rfl ?_
        exact WL.done ⟨_, rfl, rfl, rfl⟩
      · intro w52 hE
        have hE := hE rfl
        have hB := ext_trans hB hE
        have hVg15 := hVg15.ext hE
        have hVg11 := hVg11.ext hE
        have hVg13 := hVg13.ext hE
        have u1 := u1.ext hE
        have u2 := u2.ext hE
        rintro _ rfl
        rintro _ rfl
        intro R
        refine WL.call Try.func32 rfl Try.nm32 rfl rfl (rAdd_c u1.rd u2.rd (digs_lim _) (digs_lim _) (by omega) (by omega)) ?_
        rintro _ w53 ⟨A54, m55, c56, rfl, hGw53, v1, v1m⟩
        have hap_v1_g11 := ap_new v1 (hVg11.bl_ge _ rfl).2
        have hap_v1_g13 := ap_new v1 (hVg13.bl_ge _ rfl).2
        have hap_v1_g15 := ap_new v1 (hVg15.bl_ge _ rfl).2
        have v1 := v1.low (b' := w.heap.size) hB.size
        have hB := ext_trans hB hGw53
        have v1_l := v1.rd.ulen
        exact WL.done ⟨_, rfl, hGw53, ⟨A54, m55, c56, rfl, v1, v1m, hap_v1_g11, hap_v1_g13, hap_v1_g15⟩⟩
      · intro w57 hE
        intro R
        refine WL.move rfl rfl ?_
        exact WL.done ⟨_, rfl, rfl, rfl⟩
    · intro vals w58 hT hVs
      have hB := ext_trans hB hT
      have hVg15 := hVg15.ext hT
      have u3 := u3.ext hT
      have hv0 : vals 0 = _ := hVs 0 (by decide)
      have hv1 : vals 1 = _ := hVs 1 (by decide)
      have hv2 : vals 2 = _ := hVs 2 (by decide)
      have hv3 : vals 3 = _ := hVs 3 (by decide)
      obtain ⟨A54, m55, c56, hv4, v1, v1m, hap_v1_g11, hap_v1_g13, hap_v1_g15⟩ := hVs 4 (by decide)
      have hv5 : vals 5 = _ := hVs 5 (by decide)
      rw [show (List.filterMap (fun i => Option.map (fun t => (t, vals i)) (dstAt _ i)) (List.range _)) = [(32, .pointer (some ((⟨g11, 0, none⟩ : Addr).add 0))), (33, .bool (qneg (qa))), (34, .slice A36 m37 c38), (35, .slice A40 m41 c42), (36, .slice A54 m55 c56), (37, .slice A44 m45 c46)] from by
        show [(32, vals 0), (33, vals 1), (34, vals 2), (35, vals 3), (36, vals 4), (37, vals 5)] = _
        rw [hv0, hv1, hv2, hv3, hv4, hv5]]
      refine WA.step [6] (by decide +kernel) rfl ?_
      intro iQ hQ
      simp only [List.mem_cons, List.not_mem_nil, or_false] at hQ
      obtain rfl := hQ
      · refine ⟨_, rfl, ?_⟩
        refine WL.call Try.func33 rfl Try.nm33 rfl rfl (rMake_c v1.rd u3.rd (digs_lim _) (digs_lim _) (by omega) (by omega) (qa + qb) (by simp only [nv_digs]; exact q_add_same hsg)) ?_
        rintro _ w59 ⟨A60, m61, c62, A63, m64, c65, rfl, hGw59, hrn, hrd, hrm⟩
        have hap_hrn_g15 := ap_new hrn (hVg15.bl_ge _ rfl).2
        have hap_hrd_g15 := ap_new hrd (hVg15.bl_ge _ rfl).2
        have hrn := hrn.low (b' := w.heap.size) hB.size
        have hrd := hrd.low (b' := w.heap.size) hB.size
        have hB := ext_trans hB hGw59
        have hVg15 := hVg15.ext hGw59
        have hrn_l := hrn.rd.ulen
        have hrd_l := hrd.rd.ulen
        refine WL.done ?_
        refine WA.step [7] (by decide +kernel) rfl ?_
        intro iQ hQ
        simp only [List.mem_cons, List.not_mem_nil, or_false] at hQ
        obtain rfl := hQ
        · refine ⟨_, rfl, ?_⟩
          refine WL.storeV Try.el25 rfl rfl rfl rfl hVg15 ?_
          have hOld67 := hVg15
          intro w66 hVg15 hGw66
          change Own _ _ _ _ _ _ _ [.bool (qneg (qa + qb)), .slice A60 m61 c62, .slice A63 m64 c65] at hVg15
          have hB := ext_own hB hGw66 (fun g hg => (hOld67.bl_ge g hg).1)
          have hrn := hrn.grown hGw66 (ap_row hap_hrn_g15)
          have hrd := hrd.grown hGw66 (ap_row hap_hrd_g15)
          refine WL.done ?_
          refine WA.done (by decide +kernel) ?_
          refine W.ret ?_
          refine ⟨[.agg #[.bool (qneg (qa + qb)), .slice A60 m61 c62, .slice A63 m64 c65]], ⟨_, _, _, rfl, rfl, run_loadV (cs := [.bool (qneg (qa + qb)), .slice A60 m61 c62, .slice A63 m64 c65]) Try.el25 Try.agg25 rfl hVg15.vcells, rfl⟩, ?_⟩
          exact ⟨_, _, _, _, _, _, rfl, hB, hrn, hrd, by omega⟩
  · skip
    have hsg : qneg qa ≠ qneg qb := fun h => by rw [h] at c47; simp at c47
    refine W.skip ?_
    refine W.seq ?_
    refine W.seq ?_
    refine W.region ?_
    refine WL.move rfl rfl ?_
    refine WL.move rfl rfl ?_
    refine WL.call Try.func57 rfl Try.nm57 rfl rfl (rCmp_c u1.rd u2.rd (digs_lim _) (digs_lim _)) ?_
    rintro _ w68 ⟨rfl, hGw68⟩
    have hB := ext_trans hB hGw68
    have hVg15 := hVg15.ext hGw68
    have hVg11 := hVg11.ext hGw68
    have hVg13 := hVg13.ext hGw68
    have u1 := u1.ext hGw68
    have u2 := u2.ext hGw68
    have u3 := u3.ext hGw68
    simp only [nv_digs]
    have hcc := cmpI_cases (qnum qa * qb.den) (qnum qb * qa.den)
    refine WL.geq rfl rfl rfl (fun c69 => ?_) (fun c69 => ?_)
    · refine WL.done ?_
      refine W.condT rfl ?_
      refine W.seq ?_
      refine W.drawT 6 [⟨[], [2], true⟩, ⟨[0], [], false⟩, ⟨[], [5], true⟩, ⟨[], [6], true⟩, ⟨[2, 3], [], false⟩, ⟨[], [7], true⟩] [[(2, .pointer (some ⟨g11, 0, none⟩))], [], [(5, .slice A36 m37 c38)], [(6, .slice A40 m41 c42)], [], [(7, .slice A44 m45 c46)]] (fun iQ => [fun v wQ => v = .pointer (some ((⟨g11, 0, none⟩ : Addr).add 0)), fun v wQ => v = .bool (qneg (qa)), fun v wQ => v = .slice A36 m37 c38, fun v wQ => v = .slice A40 m41 c42, fun v wQ => ∃ A76 m77 c78, v = .slice A76 m77 c78 ∧ (Own w.heap.size wQ 48 1 A76 m77 c78 (us (digs (nv (digs (nv (digs (qnum (qa))) * nv (digs (Rat.den (qb))))) - nv (digs (nv (digs (qnum (qb))) * nv (digs (Rat.den (qa))))))))) ∧ (m77 ≤ m37) ∧ (∀ k, bl A76 = some k → k ≠ g11) ∧ (∀ k, bl A76 = some k → k ≠ g13) ∧ (∀ k, bl A76 = some k → k ≠ g15), fun v wQ => v = .slice A44 m45 c46].getD iQ (fun _ _ => True)) Try.mixed (by kernel_rfl) ?_ ?_ ?_
      · refine Vs_monoT _ ?_
        intro VQ hVQ vQ wQ1 wQ2 hQ1 hQ2
        simp only [List.mem_cons, List.not_mem_nil, or_false] at hVQ
        rcases hVQ with rfl | rfl | rfl | rfl | rfl | rfl
        · exact hQ1
        · exact hQ1
        · exact hQ1
        · exact hQ1
        · obtain ⟨A76, m77, c78, hQe, v1, v1m, hap_v1_g11, hap_v1_g13, hap_v1_g15⟩ := hQ1
          exact ⟨A76, m77, c78, hQe, v1.ext hQ2, v1m, hap_v1_g11, hap_v1_g13, hap_v1_g15⟩
        · exact hQ1
      · refine ⟨⟨rfl, ⟨rfl, trivial⟩, ?_⟩, ⟨rfl, trivial, ?_⟩, ⟨rfl, ⟨rfl, trivial⟩, ?_⟩, ⟨rfl, ⟨rfl, trivial⟩, ?_⟩, ⟨rfl, trivial, ?_⟩, ⟨rfl, ⟨rfl, trivial⟩, ?_⟩, trivial⟩
        · intro w70 hE
          intro R
          refine WL.fieldA (off := 0) Try.fla25_0 rfl rfl ?_
          exact WL.done ⟨_, rfl, rfl, rfl⟩
        · intro w71 hE
          have hE := hE rfl
          have hB := ext_trans hB hE
          have hVg11 := hVg11.ext hE
          rintro _ rfl
          intro R
          refine WL.load Try.underlying4 rfl rfl (hVg11.vcells 0 _ rfl) rfl ?_
          exact WL.done ⟨_, rfl, ext_refl _, rfl⟩
        · intro w72 hE
          intro R
          refine WL.move rfl rfl ?_
          exact WL.done ⟨_, rfl, rfl, rfl⟩
        · intro w73 hE
          intro R
          refine WL.move rfl rfl ?_
          exact WL.done ⟨_, rfl, rfl, rfl⟩
        · intro w74 hE
          have hE := hE rfl
          have hB := ext_trans hB hE
          have hVg15 := hVg15.ext hE
          have hVg11 := hVg11.ext hE
          have hVg13 := hVg13.ext hE
          have u1 := u1.ext hE
          have u2 := u2.ext hE
          rintro _ rfl
          rintro _ rfl
          intro R
          refine WL.call Try.func58 rfl Try.nm58 rfl rfl (rSub_c u1.rd u2.rd (digs_lim _) (digs_lim _) (by omega) (by simp only [nv_digs] at *; omega)) ?_
          rintro _ w75 ⟨A76, m77, c78, rfl, hGw75, v1, v1m⟩
          have hap_v1_g11 := ap_new v1 (hVg11.bl_ge _ rfl).2
          have hap_v1_g13 := ap_new v1 (hVg13.bl_ge _ rfl).2
          have hap_v1_g15 := ap_new v1 (hVg15.bl_ge _ rfl).2
          have v1 := v1.low (b' := w.heap.size) hB.size
          have hB := ext_trans hB hGw75
          have v1_l := v1.rd.ulen
          exact WL.done ⟨_, rfl, hGw75, ⟨A76, m77, c78, rfl, v1, v1m, hap_v1_g11, hap_v1_g13, hap_v1_g15⟩⟩
        · intro w79 hE
          intro R
          refine WL.move rfl rfl ?_
          exact WL.done ⟨_, rfl, rfl, rfl⟩
      · intro vals w80 hT hVs
        have hB := ext_trans hB hT
        have hVg15 := hVg15.ext hT
        have u3 := u3.ext hT
        have hv0 : vals 0 = _ := hVs 0 (by decide)
        have hv1 : vals 1 = _ := hVs 1 (by decide)
        have hv2 : vals 2 = _ := hVs 2 (by decide)
        have hv3 : vals 3 = _ := hVs 3 (by decide)
        obtain ⟨A76, m77, c78, hv4, v1, v1m, hap_v1_g11, hap_v1_g13, hap_v1_g15⟩ := hVs 4 (by decide)
        have hv5 : vals 5 = _ := hVs 5 (by decide)
        rw [show (List.filterMap (fun i => Option.map (fun t => (t, vals i)) (dstAt _ i)) (List.range _)) = [(43, .pointer (some ((⟨g11, 0, none⟩ : Addr).add 0))), (44, .bool (qneg (qa))), (45, .slice A36 m37 c38), (46, .slice A40 m41 c42), (47, .slice A76 m77 c78), (48, .slice A44 m45 c46)] from by
          show [(43, vals 0), (44, vals 1), (45, vals 2), (46, vals 3), (47, vals 4), (48, vals 5)] = _
          rw [hv0, hv1, hv2, hv3, hv4, hv5]]
        refine WA.step [6] (by decide +kernel) rfl ?_
        intro iQ hQ
        simp only [List.mem_cons, List.not_mem_nil, or_false] at hQ
        obtain rfl := hQ
        · refine ⟨_, rfl, ?_⟩
          refine WL.call Try.func33 rfl Try.nm33 rfl rfl (rMake_c v1.rd u3.rd (digs_lim _) (digs_lim _) (by omega) (by omega) (qa + qb) (by simp only [nv_digs]; exact q_add_gt hsg (by omega))) ?_
          rintro _ w81 ⟨A82, m83, c84, A85, m86, c87, rfl, hGw81, hrn, hrd, hrm⟩
          have hap_hrn_g15 := ap_new hrn (hVg15.bl_ge _ rfl).2
          have hap_hrd_g15 := ap_new hrd (hVg15.bl_ge _ rfl).2
          have hrn := hrn.low (b' := w.heap.size) hB.size
          have hrd := hrd.low (b' := w.heap.size) hB.size
          have hB := ext_trans hB hGw81
          have hVg15 := hVg15.ext hGw81
          have hrn_l := hrn.rd.ulen
          have hrd_l := hrd.rd.ulen
          refine WL.done ?_
          refine WA.step [7] (by decide +kernel) rfl ?_
          intro iQ hQ
          simp only [List.mem_cons, List.not_mem_nil, or_false] at hQ
          obtain rfl := hQ
          · refine ⟨_, rfl, ?_⟩
            refine WL.storeV Try.el25 rfl rfl rfl rfl hVg15 ?_
            have hOld89 := hVg15
            intro w88 hVg15 hGw88
            change Own _ _ _ _ _ _ _ [.bool (qneg (qa + qb)), .slice A82 m83 c84, .slice A85 m86 c87] at hVg15
            have hB := ext_own hB hGw88 (fun g hg => (hOld89.bl_ge g hg).1)
            have hrn := hrn.grown hGw88 (ap_row hap_hrn_g15)
            have hrd := hrd.grown hGw88 (ap_row hap_hrd_g15)
            refine WL.done ?_
            refine WA.done (by decide +kernel) ?_
            refine W.ret ?_
            refine ⟨[.agg #[.bool (qneg (qa + qb)), .slice A82 m83 c84, .slice A85 m86 c87]], ⟨_, _, _, rfl, rfl, run_loadV (cs := [.bool (qneg (qa + qb)), .slice A82 m83 c84, .slice A85 m86 c87]) Try.el25 Try.agg25 rfl hVg15.vcells, rfl⟩, ?_⟩
            exact ⟨_, _, _, _, _, _, rfl, hB, hrn, hrd, by omega⟩
    · refine WL.done ?_
      refine W.condF rfl ?_
      refine W.skip ?_
      refine W.seq ?_
      refine W.drawT 6 [⟨[], [3], true⟩, ⟨[0], [], false⟩, ⟨[], [6], true⟩, ⟨[], [5], true⟩, ⟨[2, 3], [], false⟩, ⟨[], [7], true⟩] [[(3, .pointer (some ⟨g13, 0, none⟩))], [], [(6, .slice A40 m41 c42)], [(5, .slice A36 m37 c38)], [], [(7, .slice A44 m45 c46)]] (fun iQ => [fun v wQ => v = .pointer (some ((⟨g13, 0, none⟩ : Addr).add 0)), fun v wQ => v = .bool (qneg (qb)), fun v wQ => v = .slice A40 m41 c42, fun v wQ => v = .slice A36 m37 c38, fun v wQ => ∃ A96 m97 c98, v = .slice A96 m97 c98 ∧ (Own w.heap.size wQ 48 1 A96 m97 c98 (us (digs (nv (digs (nv (digs (qnum (qb))) * nv (digs (Rat.den (qa))))) - nv (digs (nv (digs (qnum (qa))) * nv (digs (Rat.den (qb))))))))) ∧ (m97 ≤ m41) ∧ (∀ k, bl A96 = some k → k ≠ g11) ∧ (∀ k, bl A96 = some k → k ≠ g13) ∧ (∀ k, bl A96 = some k → k ≠ g15), fun v wQ => v = .slice A44 m45 c46].getD iQ (fun _ _ => True)) Try.mixed (by kernel_rfl) ?_ ?_ ?_
      · refine Vs_monoT _ ?_
        intro VQ hVQ vQ wQ1 wQ2 hQ1 hQ2
        simp only [List.mem_cons, List.not_mem_nil, or_false] at hVQ
        rcases hVQ with rfl | rfl | rfl | rfl | rfl | rfl
        · exact hQ1
        · exact hQ1
        · exact hQ1
        · exact hQ1
        · obtain ⟨A96, m97, c98, hQe, v1, v1m, hap_v1_g11, hap_v1_g13, hap_v1_g15⟩ := hQ1
          exact ⟨A96, m97, c98, hQe, v1.ext hQ2, v1m, hap_v1_g11, hap_v1_g13, hap_v1_g15⟩
        · exact hQ1
      · refine ⟨⟨rfl, ⟨rfl, trivial⟩, ?_⟩, ⟨rfl, trivial, ?_⟩, ⟨rfl, ⟨rfl, trivial⟩, ?_⟩, ⟨rfl, ⟨rfl, trivial⟩, ?_⟩, ⟨rfl, trivial, ?_⟩, ⟨rfl, ⟨rfl, trivial⟩, ?_⟩, trivial⟩
        · intro w90 hE
          intro R
          refine WL.fieldA (off := 0) Try.fla25_0 rfl rfl ?_
          exact WL.done ⟨_, rfl, rfl, rfl⟩
        · intro w91 hE
          have hE := hE rfl
          have hB := ext_trans hB hE
          have hVg13 := hVg13.ext hE
          rintro _ rfl
          intro R
          refine WL.load Try.underlying4 rfl rfl (hVg13.vcells 0 _ rfl) rfl ?_
          exact WL.done ⟨_, rfl, ext_refl _, rfl⟩
        · intro w92 hE
          intro R
          refine WL.move rfl rfl ?_
          exact WL.done ⟨_, rfl, rfl, rfl⟩
        · intro w93 hE
          intro R
          refine WL.move rfl rfl ?_
          exact WL.done ⟨_, rfl, rfl, rfl⟩
        · intro w94 hE
          have hE := hE rfl
          have hB := ext_trans hB hE
          have hVg15 := hVg15.ext hE
          have hVg11 := hVg11.ext hE
          have hVg13 := hVg13.ext hE
          have u1 := u1.ext hE
          have u2 := u2.ext hE
          rintro _ rfl
          rintro _ rfl
          intro R
          refine WL.call Try.func58 rfl Try.nm58 rfl rfl (rSub_c u2.rd u1.rd (digs_lim _) (digs_lim _) (by omega) (by simp only [nv_digs] at *; omega)) ?_
          rintro _ w95 ⟨A96, m97, c98, rfl, hGw95, v1, v1m⟩
          have hap_v1_g11 := ap_new v1 (hVg11.bl_ge _ rfl).2
          have hap_v1_g13 := ap_new v1 (hVg13.bl_ge _ rfl).2
          have hap_v1_g15 := ap_new v1 (hVg15.bl_ge _ rfl).2
          have v1 := v1.low (b' := w.heap.size) hB.size
          have hB := ext_trans hB hGw95
          have v1_l := v1.rd.ulen
          exact WL.done ⟨_, rfl, hGw95, ⟨A96, m97, c98, rfl, v1, v1m, hap_v1_g11, hap_v1_g13, hap_v1_g15⟩⟩
        · intro w99 hE
          intro R
          refine WL.move rfl rfl ?_
          exact WL.done ⟨_, rfl, rfl, rfl⟩
      · intro vals w100 hT hVs
        have hB := ext_trans hB hT
        have hVg15 := hVg15.ext hT
        have u3 := u3.ext hT
        have hv0 : vals 0 = _ := hVs 0 (by decide)
        have hv1 : vals 1 = _ := hVs 1 (by decide)
        have hv2 : vals 2 = _ := hVs 2 (by decide)
        have hv3 : vals 3 = _ := hVs 3 (by decide)
        obtain ⟨A96, m97, c98, hv4, v1, v1m, hap_v1_g11, hap_v1_g13, hap_v1_g15⟩ := hVs 4 (by decide)
        have hv5 : vals 5 = _ := hVs 5 (by decide)
        rw [show (List.filterMap (fun i => Option.map (fun t => (t, vals i)) (dstAt _ i)) (List.range _)) = [(50, .pointer (some ((⟨g13, 0, none⟩ : Addr).add 0))), (51, .bool (qneg (qb))), (52, .slice A40 m41 c42), (53, .slice A36 m37 c38), (54, .slice A96 m97 c98), (55, .slice A44 m45 c46)] from by
          show [(50, vals 0), (51, vals 1), (52, vals 2), (53, vals 3), (54, vals 4), (55, vals 5)] = _
          rw [hv0, hv1, hv2, hv3, hv4, hv5]]
        refine WA.step [6] (by decide +kernel) rfl ?_
        intro iQ hQ
        simp only [List.mem_cons, List.not_mem_nil, or_false] at hQ
        obtain rfl := hQ
        · refine ⟨_, rfl, ?_⟩
          refine WL.call Try.func33 rfl Try.nm33 rfl rfl (rMake_c v1.rd u3.rd (digs_lim _) (digs_lim _) (by omega) (by omega) (qa + qb) (by simp only [nv_digs]; exact q_add_lt hsg (by omega))) ?_
          rintro _ w101 ⟨A102, m103, c104, A105, m106, c107, rfl, hGw101, hrn, hrd, hrm⟩
          have hap_hrn_g15 := ap_new hrn (hVg15.bl_ge _ rfl).2
          have hap_hrd_g15 := ap_new hrd (hVg15.bl_ge _ rfl).2
          have hrn := hrn.low (b' := w.heap.size) hB.size
          have hrd := hrd.low (b' := w.heap.size) hB.size
          have hB := ext_trans hB hGw101
          have hVg15 := hVg15.ext hGw101
          have hrn_l := hrn.rd.ulen
          have hrd_l := hrd.rd.ulen
          refine WL.done ?_
          refine WA.step [7] (by decide +kernel) rfl ?_
          intro iQ hQ
          simp only [List.mem_cons, List.not_mem_nil, or_false] at hQ
          obtain rfl := hQ
          · refine ⟨_, rfl, ?_⟩
            refine WL.storeV Try.el25 rfl rfl rfl rfl hVg15 ?_
            have hOld109 := hVg15
            intro w108 hVg15 hGw108
            change Own _ _ _ _ _ _ _ [.bool (qneg (qa + qb)), .slice A102 m103 c104, .slice A105 m106 c107] at hVg15
            have hB := ext_own hB hGw108 (fun g hg => (hOld109.bl_ge g hg).1)
            have hrn := hrn.grown hGw108 (ap_row hap_hrn_g15)
            have hrd := hrd.grown hGw108 (ap_row hap_hrd_g15)
            refine WL.done ?_
            refine WA.done (by decide +kernel) ?_
            refine W.ret ?_
            refine ⟨[.agg #[.bool (qneg (qa + qb)), .slice A102 m103 c104, .slice A105 m106 c107]], ⟨_, _, _, rfl, rfl, run_loadV (cs := [.bool (qneg (qa + qb)), .slice A102 m103 c104, .slice A105 m106 c107]) Try.el25 Try.agg25 rfl hVg15.vcells, rfl⟩, ?_⟩
            exact ⟨_, _, _, _, _, _, rfl, hB, hrn, hrd, by omega⟩
end Go.Proofs.Ythfpcebcfjlkmac
set_option linter.unusedSimpArgs false
set_option linter.unusedVariables false
namespace Go.Proofs.Ythfpcebcfjlkmac
open Go.RowKit
/-! ### floors -/
def fl (q : Rat) : Int := q.num / (q.den : Int)
theorem val_fl {n : Bool} {x y : Nat} (hy : y ≠ 0) : fl (val n x y) = sgn n x / (y : Int) := by
  unfold fl
  rw [val_num hy, val_den hy]
  have hg : 0 < Nat.gcd x y := Nat.gcd_pos_of_pos_right _ (by omega)
  obtain ⟨x1, hx⟩ := Nat.gcd_dvd_left x y
  obtain ⟨y1, hy1⟩ := Nat.gcd_dvd_right x y
  generalize Nat.gcd x y = g at *
  subst hx; subst hy1
  rw [Nat.mul_div_cancel_left _ hg, Nat.mul_div_cancel_left _ hg]
  have e : sgn n (g * x1) = (g : Int) * sgn n x1 := by cases n <;> simp [sgn, Int.mul_neg]
  rw [e, Int.natCast_mul, Int.mul_ediv_mul_of_pos _ _ (by omega)]
theorem flA {x y : Nat} {q : Rat} (hy : y ≠ 0) (hq : val false x y = q) : fl q = ((x / y : Nat) : Int) := by
  subst hq; rw [val_fl hy]; rfl
theorem flB {x y : Nat} {q : Rat} (hy : y ≠ 0) (hq : val true x y = q) (hr : x % y ≠ 0) : fl q = -((x / y + 1 : Nat) : Int) := by
  subst hq; rw [val_fl hy]
  have hd := Nat.div_add_mod x y
  have hl := Nat.mod_lt x (show 0 < y by omega)
  have h := (Int.ediv_emod_unique (a := sgn true x) (b := (y : Int)) (r := ((y - x % y : Nat) : Int)) (q := -((x / y + 1 : Nat) : Int)) (by omega)).2 ⟨by
    have e : (y : Int) * -((x / y + 1 : Nat) : Int) = -((y * (x / y) : Nat) : Int) - y := by push_cast; rw [Int.mul_neg, Int.mul_add]; omega
    rw [e]; simp only [sgn, if_true]; generalize y * (x / y) = k at *; omega, by omega, by omega⟩
  exact h.1
theorem flC {x y : Nat} {q : Rat} (hy : y ≠ 0) (hq : val true x y = q) (hr : x % y = 0) : fl q = -((x / y : Nat) : Int) := by
  subst hq; rw [val_fl hy]
  have hd := Nat.div_add_mod x y
  have h := (Int.ediv_emod_unique (a := sgn true x) (b := (y : Int)) (r := 0) (q := -((x / y : Nat) : Int)) (by omega)).2 ⟨by
    have e : (y : Int) * -((x / y : Nat) : Int) = -((y * (x / y) : Nat) : Int) := by push_cast; rw [Int.mul_neg]
    rw [e]; simp only [sgn, if_true]; generalize y * (x / y) = k at *; omega, by omega, by omega⟩
  exact h.1
theorem fl_zero : fl 0 = 0 := rfl
theorem int_can (z : Int) : qneg (z : Rat) = decide (z < 0) ∧ qnum (z : Rat) = z.natAbs ∧ (z : Rat).den = 1 := ⟨rfl, rfl, rfl⟩
theorem val_one (n : Bool) (m : Nat) : val n m 1 = ((sgn n m : Int) : Rat) := by
  unfold val; exact Rat.mkRat_one _
theorem fl_le (q : Rat) : sg (((fl q : Int) : Rat) - q) ≤ 0 := by
  rw [sg_sub]
  have h := Int.ediv_mul_le q.num (show (q.den : Int) ≠ 0 by have := den_pos q; omega)
  have e : ((fl q : Int) : Rat).num * (q.den : Int) - q.num * (((fl q : Int) : Rat).den : Int) = fl q * q.den - q.num := by
    show fl q * (q.den : Int) - q.num * ((1 : Nat) : Int) = _
    omega
  rw [e]
  exact Int.sign_nonpos_iff.2 (by unfold fl; omega)
theorem fl_gt (q : Rat) : 0 < sg (((fl q : Int) : Rat) + 1 - q) := by
  have e0 : ((fl q : Int) : Rat) + 1 = ((fl q + 1 : Int) : Rat) := by rw [Rat.intCast_add]; rfl
  rw [e0, sg_sub]
  have h := Int.lt_ediv_add_one_mul_self q.num (show 0 < (q.den : Int) by have := den_pos q; omega)
  have e : ((fl q + 1 : Int) : Rat).num * (q.den : Int) - q.num * (((fl q + 1 : Int) : Rat).den : Int) = (fl q + 1) * q.den - q.num := by
    show (fl q + 1) * (q.den : Int) - q.num * ((1 : Nat) : Int) = _
    omega
  rw [e, Int.sign_eq_one_of_pos (by unfold fl; omega)]
  decide
/-! ### whole numbers -/
def whole (q : Rat) : Prop := q.den = 1 ∧ qneg q = false
theorem whole_val {n : Bool} {x y : Nat} {q : Rat} (hx : x ≠ 0) (hy : y ≠ 0) (hq : val n x y = q) : whole q ↔ n = false ∧ x % y = 0 := by
  subst hq
  unfold whole
  rw [val_qneg hx hy, val_den hy]
  have hg : 0 < Nat.gcd x y := Nat.gcd_pos_of_pos_right _ (by omega)
  constructor
  · rintro ⟨h1, h2⟩
    refine ⟨h2, ?_⟩
    have h3 := Nat.div_mul_cancel (Nat.gcd_dvd_right x y)
    rw [h1, Nat.one_mul] at h3
    have h4 := Nat.gcd_dvd_left x y
    rw [h3] at h4
    exact Nat.mod_eq_zero_of_dvd h4
  · rintro ⟨h1, h2⟩
    refine ⟨?_, h1⟩
    rw [Nat.gcd_eq_right (Nat.dvd_of_mod_eq_zero h2)]
    exact Nat.div_self (by omega)
theorem whole_num {n : Bool} {x y : Nat} {q : Rat} (hx : x ≠ 0) (hy : y ≠ 0) (hq : val n x y = q) (h : x % y = 0) : qnum q = x / y := by
  subst hq; rw [val_qnum hy, Nat.gcd_eq_right (Nat.dvd_of_mod_eq_zero h)]
theorem whole_zero : whole 0 := ⟨rfl, rfl⟩
theorem whole_fl {q : Rat} (h : whole q) : ((fl q : Int) : Rat) = q := by
  have e : fl q = q.num := by unfold fl; rw [h.1]; simp
  rw [e]
  exact (Rat.ext rfl h.1.symm)
theorem digs_one {n : Nat} : digs n = [1] ↔ n = 1 := by
  constructor
  · intro h; rw [← nv_digs n, h]; rfl
  · rintro rfl; decide
/-! ### sums of products -/
def dsum (a b : List Fr3) : Nat → Rat | 0 => 0 | i + 1 => dsum a b i + qv (a.getD i fr0) * qv (b.getD i fr0)
theorem sq_nn (x : Rat) : 0 ≤ x * x := by
  rcases Rat.le_total (a := 0) (b := x) with h | h
  · exact Rat.mul_nonneg h h
  · have h1 : 0 ≤ -x := by grind
    have := Rat.mul_nonneg h1 h1
    grind
theorem lag_eq (a b : List Fr3) (t s : Rat) : ∀ n, 0 ≤ t * t * dsum a a n - (t * s + t * s) * dsum a b n + s * s * dsum b b n
  | 0 => by simp only [dsum]; grind
  | n + 1 => by
    have h := lag_eq a b t s n
    have h2 := sq_nn (qv (a.getD n fr0) * t - qv (b.getD n fr0) * s)
    simp only [dsum]
    generalize qv (a.getD n fr0) = x at *
    generalize qv (b.getD n fr0) = y at *
    generalize dsum a a n = A at *
    generalize dsum a b n = B at *
    generalize dsum b b n = D at *
    have e : t * t * (A + x * x) - (t * s + t * s) * (B + x * y) + s * s * (D + y * y) = (t * t * A - (t * s + t * s) * B + s * s * D) + (x * t - y * s) * (x * t - y * s) := by grind
    rw [e]; exact Rat.add_nonneg h h2
theorem schwarz (a b : List Fr3) (n : Nat) : dsum a b n * dsum a b n - dsum a a n * dsum b b n ≤ 0 := by
  have h := fun t s => lag_eq a b t s n
  have h0 : 0 ≤ dsum a a n := by have := h 1 0; grind
  generalize dsum a a n = A at *
  generalize dsum a b n = B at *
  generalize dsum b b n = D at *
  by_cases hA : A = 0
  · subst hA
    by_cases hB : B = 0
    · subst hB; grind
    · exfalso
      have h1 := h ((D + 1) * (B + B)⁻¹) 1
      have h2 : (B + B) * (B + B)⁻¹ = 1 := Rat.mul_inv_cancel _ (by grind)
      generalize (B + B)⁻¹ = I at *
      have e : (D + 1) * I * ((D + 1) * I) * 0 - ((D + 1) * I * 1 + (D + 1) * I * 1) * B + 1 * 1 * D = D - (D + 1) * ((B + B) * I) := by grind
      rw [e, h2] at h1
      grind
  · have h1 := h B A
    have e : B * B * A - (B * A + B * A) * B + A * A * D = A * (A * D - B * B) := by grind
    rw [e] at h1
    have hA2 : 0 < A := by grind
    rcases Rat.le_total (a := B * B - A * D) (b := 0) with h3 | h3
    · exact h3
    · by_cases h4 : B * B - A * D = 0
      · rw [h4]; exact Rat.le_refl
      · exfalso
        have h5 : 0 < B * B - A * D := by grind
        have := Rat.mul_pos hA2 h5
        grind
theorem sg_nonpos {q : Rat} (h : q ≤ 0) : sg q ≤ 0 := by
  rw [sg_le]
  have h1 : 0 ≤ -q := by grind
  have := Rat.num_nonneg.2 h1
  rw [Rat.neg_num] at this; omega
theorem can_nat (n : Nat) : qneg (((n : Nat) : Int) : Rat) = false ∧ qnum (((n : Nat) : Int) : Rat) = n ∧ (((n : Nat) : Int) : Rat).den = 1 := by
  refine ⟨?_, ?_, rfl⟩
  · show decide (((n : Nat) : Int) < 0) = false
    exact decide_eq_false (by omega)
  · show ((n : Nat) : Int).natAbs = n
    omega
theorem can_negn {n : Nat} (h : n ≠ 0) : qneg ((-((n : Nat) : Int) : Int) : Rat) = true ∧ qnum ((-((n : Nat) : Int) : Int) : Rat) = n ∧ ((-((n : Nat) : Int) : Int) : Rat).den = 1 := by
  refine ⟨?_, ?_, rfl⟩
  · show decide (-((n : Nat) : Int) < 0) = true
    exact decide_eq_true (by omega)
  · show (-((n : Nat) : Int)).natAbs = n
    omega
theorem div_ne {x y : Nat} (hx : x ≠ 0) (h : x % y = 0) : x / y ≠ 0 := by
  intro h0
  have := Nat.div_add_mod x y
  rw [h0, h] at this; omega
theorem fl_pos {q : Rat} (h : qneg q = false) : val false (qnum q / q.den) 1 = ((fl q : Int) : Rat) := by
  rw [val_one, flA q.den_nz (by rw [← h]; exact val_q q)]; rfl
theorem fl_neg_ne {q : Rat} (h : qneg q = true) (hr : qnum q % q.den ≠ 0) : val true (qnum q / q.den + 1) 1 = ((fl q : Int) : Rat) := by
  rw [val_one, flB q.den_nz (by rw [← h]; exact val_q q) hr]; rfl
theorem fl_neg_eq {q : Rat} (h : qneg q = true) (hr : qnum q % q.den = 0) : val true (qnum q / q.den) 1 = ((fl q : Int) : Rat) := by
  rw [val_one, flC q.den_nz (by rw [← h]; exact val_q q) hr]; rfl
theorem getD_frtake {rs : List Fr3} {k j : Nat} (h : j < k) : (rs.take k).getD j fr0 = rs.getD j fr0 := by simp only [List.getD_eq_getElem?_getD, List.getElem?_take, if_pos h]
theorem RatsR.take {B : Nat} {w : World} {cells : List Value} {rs : List Fr3} (h : RatsR B w cells rs) (k : Nat) : RatsR B w (cells.take (k * 3)) (rs.take k) := by
  have hl := h.len
  refine ⟨by rw [List.length_take, List.length_take, hl]; omega, fun j hj => ?_⟩
  have hj2 : j < k ∧ j < rs.length := by simp at hj; omega
  have e (i : Nat) (hi : i < 3) : (cells.take (k * 3)).getD (j * 3 + i) undef = cells.getD (j * 3 + i) undef := by
    simp only [List.getD_eq_getElem?_getD, List.getElem?_take]; rw [if_pos (by omega)]
  obtain ⟨h1, h2, h3⟩ := h.all j hj2.2
  rw [getD_frtake hj2.1]
  exact ⟨(e 0 (by omega)).trans h1, h2.of (e 1 (by omega)), h3.of (e 2 (by omega))⟩
theorem RLim.take {rs : List Fr3} (h : RLim rs) (k : Nat) : RLim (rs.take k) := fun j hj => by
  have hj2 : j < k ∧ j < rs.length := by simp at hj; omega
  rw [getD_frtake hj2.1]; exact h _ hj2.2
theorem RLen.take {K : Nat} {rs : List Fr3} (h : RLen K rs) (k : Nat) : RLen K (rs.take k) := fun j hj => by
  have hj2 : j < k ∧ j < rs.length := by simp at hj; omega
  rw [getD_frtake hj2.1]; exact h _ hj2.2
section
variable {P : Program} {n : Nat} {N : Post} {L : Fr} {w : World} {ops : Array Oper} {rest : List Oper}
variable {d : Nat} {ty : TypeId} {pos : String} {af : Array Edge}
theorem WL.min3 {x y z : Operand} {k : IntKind} {a b c r : Int} {ts : Array TypeId} (hx : ev L x = some (.int k a)) (hy : ev L y = some (.int k b)) (hz : ev L z = some (.int k c)) (hr : min (min a b) c = r) (hn : Nat.blt d n = true) (h : WL P n ops rest N ((d, .int k r) :: L) w) :
    WL P n ops (⟨some d, .call ⟨.builtin .min, #[x, y, z], ts⟩, ty, pos, af, none⟩ :: rest) N L w :=
  WL.val rfl rfl hn (fun a' ha => by
    have e1 : (if b < a then b else a) = min a b := by split <;> omega
    have e : (if c < min a b then c else min a b) = r := by rw [← hr]; split <;> omega
    simp [execOp, resolve, invoke, builtin, Builtin.min_, Builtin.min2, ha.ev hx, ha.ev hy, ha.ev hz, e1, e]) h
end
end Go.Proofs.Ythfpcebcfjlkmac
