/- Contracts of functions of the program, and what they lean on: W27, W26. -/
import Derived.Test.YthfpcebcfjlkmacG9
set_option linter.unusedSimpArgs false
set_option linter.unusedVariables false
namespace Go.Proofs.Ythfpcebcfjlkmac
open Go.RowKit
theorem qFloor_c {w : World} {Ban : Nat} {Aan : Option Addr} {man can : Nat} {xan : List Nat} (han : Rd Ban w 1 Aan man can (us xan)) {Bad : Nat} {Aad : Option Addr} {mad cad : Nat} {xad : List Nat} (had : Rd Bad w 1 Aad mad cad (us xad)) {na : Bool} (hLan : Lim xan) (hLad : Lim xad) (qa : Rat) (hqa : val na (nv xan) (nv xad) = qa) (hsa : man ≤ 4194304 ∧ mad ≤ 4194304) :
    Calls Try.prog 7 #[.agg #[.bool na, .slice Aan man can, .slice Aad mad cad]] w fun e w2 => ∃ v, e = .returned v ∧ (fun v w2 => ∃ A2 m2 c2 A3 m3 c3, v = .agg #[.bool (qneg (((fl qa : Int) : Rat))), .slice A2 m2 c2, .slice A3 m3 c3] ∧ w.grownBy w2 none ∧ Own w.heap.size w2 48 1 A2 m2 c2 (us (digs (qnum (((fl qa : Int) : Rat))))) ∧ Own w.heap.size w2 48 1 A3 m3 c3 (us (digs (Rat.den (((fl qa : Int) : Rat))))) ∧ m2 ≤ man + 2 ∧ m3 ≤ 1) v w2 := by
  have han := han.norm
  have han_l := han.ulen
  have han_x := han.max
  simp only [maxLen] at han_x
  have han_c := han.cap
  have had := had.norm
  have had_l := had.ulen
  have had_x := had.max
  simp only [maxLen] at had_x
  have had_c := had.cap
  have han0 := han
  have had0 := had
  have hdl := div_len hLan (nv xad)
  have hB := ext_refl w
  refine calls_of_Wc (vs := [.agg #[.bool na, .slice Aan man can, .slice Aad mad cad]]) [.cell 2 25] Try.func7 rfl rfl rfl rfl ?_
  refine W.seq ?_
  refine W.region ?_
  refine WL.box Try.el25 rfl rfl rfl ?_
  intro g11 w12 hg_g11 hVg11 hGw12
  change Own _ _ _ _ _ _ _ [.bool na, .slice Aan man can, .slice Aad mad cad] at hVg11
  have hVg11 := hVg11.low (b' := w.heap.size) hB.size
  have hB := ext_trans hB hGw12
  have han := han0.ext hB
  have had := had0.ext hB
  refine WL.alloc Try.el25 rfl ?_
  intro g13 w14 hg_g13 hVg13 hGw14
  change Own _ _ _ _ _ _ _ [.bool false, .slice none 0 0, .slice none 0 0] at hVg13
  have hlt_g11_g13 : g11 < g13 := by rw [hg_g13]; exact (hVg11.bl_ge _ rfl).2
  have hVg13 := hVg13.low (b' := w.heap.size) hB.size
  have hB := ext_trans hB hGw14
  have han := han0.ext hB
  have had := had0.ext hB
  have hVg11 := hVg11.ext hGw14
  refine WL.done ?_
  refine W.seq ?_
  refine W.seq ?_
  refine W.region ?_
  refine WL.loadV (cs := [.bool na, .slice Aan man can, .slice Aad mad cad]) Try.el25 Try.agg25 rfl rfl hVg11.vcells rfl ?_
  refine WL.call Try.func21 rfl Try.nm21 rfl rfl (isZero_c han had hLan hLad qa hqa (by omega)) ?_
  rintro _ w15 ⟨bz, rfl, hGw15, z_t, z_f⟩
  have hB := ext_trans hB hGw15
  have han := han0.ext hB
  have had := had0.ext hB
  have hVg11 := hVg11.ext hGw15
  have hVg13 := hVg13.ext hGw15
  rcases bz with _ | _
  · have z := z_f rfl
    refine WL.done ?_
    refine W.condF rfl ?_
    refine W.skip ?_
    refine W.seq ?_
    refine W.region ?_
    refine WL.fieldA (off := 1) Try.fla25_1 rfl rfl ?_
    refine WL.load Try.underlying23 rfl rfl (hVg11.vcells 1 _ rfl) rfl ?_
    refine WL.fieldA (off := 2) Try.fla25_2 rfl rfl ?_
    refine WL.load Try.underlying23 rfl rfl (hVg11.vcells 2 _ rfl) rfl ?_
    refine WL.call Try.func23 rfl Try.nm23 rfl rfl (DivMod_ok han had hLan hLad (by omega) (by omega)) ?_
    rintro _ w16 ⟨A17, m18, cp19, A20, m21, cp22, rfl, hGw16, hdq, hdr, hm23, hm24⟩
    have hap_hdq_g13 := ap_new hdq (hVg13.bl_ge _ rfl).2
    have hdq := hdq.low (b' := w.heap.size) hB.size
    have hdr := hdr.low (b' := w.heap.size) hB.size
    have hB := ext_trans hB hGw16
    have hVg11 := hVg11.ext hGw16
    have hVg13 := hVg13.ext hGw16
    have hdq_l := hdq.rd.ulen
    have hdr_l := hdr.rd.ulen
    refine WL.move rfl rfl ?_
    refine WL.extract rfl rfl rfl ?_
    refine WL.extract rfl rfl rfl ?_
    refine WL.extract rfl rfl rfl ?_
    refine WL.assign rfl rfl ?_
    refine WL.assign rfl rfl ?_
    refine WL.assign rfl rfl ?_
    refine WL.done ?_
    refine W.seq ?_
    refine W.seq ?_
    refine W.region ?_
    refine WL.fieldA (off := 0) Try.fla25_0 rfl rfl ?_
    refine WL.load Try.underlying4 rfl rfl (hVg11.vcells 0 _ rfl) rfl ?_
    refine WL.move rfl rfl ?_
    rcases na with _ | _
    · refine WL.pass rfl rfl rfl ?_
      refine WL.pass rfl rfl rfl ?_
      refine WL.pass rfl rfl rfl ?_
      refine WL.pick rfl rfl rfl ?_
      refine WL.done ?_
      refine W.condF rfl ?_
      refine W.skip ?_
      refine W.seq ?_
      refine W.drawT 4 [⟨[], [1], true⟩, ⟨[0], [], false⟩, ⟨[], [3], true⟩, ⟨[], [], false⟩] [[(1, .pointer (some ⟨g11, 0, none⟩))], [], [(3, .slice A17 m18 cp19)], []] (fun iQ => [fun v wQ => v = .pointer (some ((⟨g11, 0, none⟩ : Addr).add 0)), fun v wQ => v = .bool false, fun v wQ => v = .slice A17 m18 cp19, fun v wQ => ∃ A31 m32 c33, v = .slice A31 m32 c33 ∧ (Own w.heap.size wQ 48 1 A31 m32 c33 (us (digs 1))) ∧ (m32 = 1) ∧ (∀ k, bl A31 = some k → k ≠ g11) ∧ (∀ k, bl A31 = some k → k ≠ g13)].getD iQ (fun _ _ => True)) Try.mixed (by kernel_rfl) ?_ ?_ ?_
      · refine Vs_monoT _ ?_
        intro VQ hVQ vQ wQ1 wQ2 hQ1 hQ2
        simp only [List.mem_cons, List.not_mem_nil, or_false] at hVQ
        rcases hVQ with rfl | rfl | rfl | rfl
        · exact hQ1
        · exact hQ1
        · exact hQ1
        · obtain ⟨A31, m32, c33, hQe, o2, o2m, hap_o2_g11, hap_o2_g13⟩ := hQ1
          exact ⟨A31, m32, c33, hQe, o2.ext hQ2, o2m, hap_o2_g11, hap_o2_g13⟩
      · refine ⟨⟨rfl, ⟨rfl, trivial⟩, ?_⟩, ⟨rfl, trivial, ?_⟩, ⟨rfl, ⟨rfl, trivial⟩, ?_⟩, ⟨rfl, trivial, ?_⟩, trivial⟩
        · intro w26 hE
          intro R
          refine WL.fieldA (off := 0) Try.fla25_0 rfl rfl ?_
          exact WL.done ⟨_, rfl, rfl, rfl⟩
        · intro w27 hE
          have hE := hE rfl
          have hB := ext_trans hB hE
          have hVg11 := hVg11.ext hE
          rintro _ rfl
          intro R
          refine WL.load Try.underlying4 rfl rfl (hVg11.vcells 0 _ rfl) rfl ?_
          exact WL.done ⟨_, rfl, ext_refl _, rfl⟩
        · intro w28 hE
          intro R
          refine WL.move rfl rfl ?_
          exact WL.done ⟨_, rfl, rfl, rfl⟩
        · intro w29 hE
          have hE := hE rfl
          have hB := ext_trans hB hE
          have hVg11 := hVg11.ext hE
          have hVg13 := hVg13.ext hE
          intro R
          refine WL.call Try.func26 rfl Try.nm26 rfl rfl (one_c) ?_
          rintro _ w30 ⟨A31, m32, c33, rfl, hGw30, o2, o2m⟩
          have hap_o2_g11 := ap_new o2 (hVg11.bl_ge _ rfl).2
          have hap_o2_g13 := ap_new o2 (hVg13.bl_ge _ rfl).2
          have o2 := o2.low (b' := w.heap.size) hB.size
          have hB := ext_trans hB hGw30
          have o2_l := o2.rd.ulen
          exact WL.done ⟨_, rfl, hGw30, ⟨A31, m32, c33, rfl, o2, o2m, hap_o2_g11, hap_o2_g13⟩⟩
      · intro vals w34 hT hVs
        have hB := ext_trans hB hT
        have hVg13 := hVg13.ext hT
        have hdq := hdq.ext hT
        have hv0 : vals 0 = _ := hVs 0 (by decide)
        have hv1 : vals 1 = _ := hVs 1 (by decide)
        have hv2 : vals 2 = _ := hVs 2 (by decide)
        obtain ⟨A31, m32, c33, hv3, o2, o2m, hap_o2_g11, hap_o2_g13⟩ := hVs 3 (by decide)
        rw [show (List.filterMap (fun i => Option.map (fun t => (t, vals i)) (dstAt _ i)) (List.range _)) = [(29, .pointer (some ((⟨g11, 0, none⟩ : Addr).add 0))), (30, .bool false), (31, .slice A17 m18 cp19), (32, .slice A31 m32 c33)] from by
          show [(29, vals 0), (30, vals 1), (31, vals 2), (32, vals 3)] = _
          rw [hv0, hv1, hv2, hv3]]
        refine WA.step [4] (by decide +kernel) rfl ?_
        intro iQ hQ
        simp only [List.mem_cons, List.not_mem_nil, or_false] at hQ
        obtain rfl := hQ
        · refine ⟨_, rfl, ?_⟩
          refine WL.build (cells := #[.bool false, .slice A17 m18 cp19, .slice A31 m32 c33]) Try.bld25 rfl rfl rfl ?_
          refine WL.done ?_
          refine WA.step [5] (by decide +kernel) rfl ?_
          intro iQ hQ
          simp only [List.mem_cons, List.not_mem_nil, or_false] at hQ
          obtain rfl := hQ
          · refine ⟨_, rfl, ?_⟩
            refine WL.storeV Try.el25 rfl rfl rfl rfl hVg13 ?_
            have hOld36 := hVg13
            intro w35 hVg13 hGw35
            change Own _ _ _ _ _ _ _ [.bool false, .slice A17 m18 cp19, .slice A31 m32 c33] at hVg13
            have hB := ext_own hB hGw35 (fun g hg => (hOld36.bl_ge g hg).1)
            have hdq := hdq.grown hGw35 (ap_row hap_hdq_g13)
            have o2 := o2.grown hGw35 (ap_row hap_o2_g13)
            refine WL.done ?_
            refine WA.done (by decide +kernel) ?_
            refine W.ret ?_
            refine ⟨[.agg #[.bool false, .slice A17 m18 cp19, .slice A31 m32 c33]], ⟨_, _, _, rfl, rfl, run_loadV (cs := [.bool false, .slice A17 m18 cp19, .slice A31 m32 c33]) Try.el25 Try.agg25 rfl hVg13.vcells, rfl⟩, ?_⟩
            rw [flA z.2 hqa]
            obtain ⟨k1, k2, k3⟩ := can_nat (nv xan / nv xad)
            rw [k1, k2, k3]
            exact ⟨_, _, _, _, _, _, rfl, hB, hdq, o2, by omega⟩
    · refine WL.take rfl ?_
      refine WL.move rfl rfl ?_
      refine WL.take rfl ?_
      refine WL.call Try.func24 rfl Try.nm24 rfl rfl (nought_c hdr.rd (digs_lim _) (by omega)) ?_
      rintro _ w37 ⟨bzr, rfl, hGw37, zr_t, zr_f⟩
      have hB := ext_trans hB hGw37
      have hVg11 := hVg11.ext hGw37
      have hVg13 := hVg13.ext hGw37
      have hdq := hdq.ext hGw37
      rcases bzr with _ | _
      · have zr := zr_f rfl
        rw [nv_digs] at zr
        refine WL.take rfl ?_
        refine WL.not rfl rfl ?_
        refine WL.pick rfl rfl rfl ?_
        refine WL.done ?_
        refine W.condT rfl ?_
        refine W.region ?_
        refine WL.move rfl rfl ?_
        refine WL.call Try.func26 rfl Try.nm26 rfl rfl (one_c) ?_
        rintro _ w38 ⟨A39, m40, c41, rfl, hGw38, o1, o1m⟩
        have o1 := o1.low (b' := w.heap.size) hB.size
        have hB := ext_trans hB hGw38
        have hVg11 := hVg11.ext hGw38
        have hVg13 := hVg13.ext hGw38
        have hdq := hdq.ext hGw38
        have o1_l := o1.rd.ulen
        refine WL.lit1 (b := w38.heap.size) Try.underlying63 Try.el23 rfl rfl rfl rfl (by intro v hv; simp only [List.mem_cons, List.not_mem_nil, or_false] at hv; rcases hv with rfl | rfl <;> rfl) (Nat.le_refl _) rfl ?_
        rintro A42 w43 - hO44 hGw43
        have hO44 := hO44.low (b' := w.heap.size) hB.size
        have hB := ext_trans hB hGw43
        have hVg11 := hVg11.ext hGw43
        have hVg13 := hVg13.ext hGw43
        have hdq := hdq.ext hGw43
        have o1 := o1.ext hGw43
        have hN45 : NatsR w43.heap.size w43 [.slice A17 m18 cp19, .slice A39 m40 c41] [digs (nv xan / nv xad), digs 1] := (NatsR.cons hdq.rd.norm (NatsR.cons o1.rd.norm (NatsR.nil _ _)))
        refine WL.call Try.func25 rfl Try.nm25 rfl rfl (Add2_c hO44.rd hN45 (digs_lim _) (digs_lim _) (by omega)) ?_
        rintro _ w46 ⟨A47, m48, c49, rfl, hGw46, ha_, ha_m⟩
        have hap_ha__g13 := ap_new ha_ (hVg13.bl_ge _ rfl).2
        have ha_ := ha_.low (b' := w.heap.size) hB.size
        have hB := ext_trans hB hGw46
        have hVg11 := hVg11.ext hGw46
        have hVg13 := hVg13.ext hGw46
        have ha__l := ha_.rd.ulen
        refine WL.assign rfl rfl ?_
        refine WL.done ?_
        refine W.seq ?_
        refine W.drawT 4 [⟨[], [1], true⟩, ⟨[0], [], false⟩, ⟨[], [3], true⟩, ⟨[], [], false⟩] [[(1, .pointer (some ⟨g11, 0, none⟩))], [], [(3, .slice A47 m48 c49)], []] (fun iQ => [fun v wQ => v = .pointer (some ((⟨g11, 0, none⟩ : Addr).add 0)), fun v wQ => v = .bool true, fun v wQ => v = .slice A47 m48 c49, fun v wQ => ∃ A55 m56 c57, v = .slice A55 m56 c57 ∧ (Own w.heap.size wQ 48 1 A55 m56 c57 (us (digs 1))) ∧ (m56 = 1) ∧ (∀ k, bl A55 = some k → k ≠ g11) ∧ (∀ k, bl A55 = some k → k ≠ g13)].getD iQ (fun _ _ => True)) Try.mixed (by kernel_rfl) ?_ ?_ ?_
        · refine Vs_monoT _ ?_
          intro VQ hVQ vQ wQ1 wQ2 hQ1 hQ2
          simp only [List.mem_cons, List.not_mem_nil, or_false] at hVQ
          rcases hVQ with rfl | rfl | rfl | rfl
          · exact hQ1
          · exact hQ1
          · exact hQ1
          · obtain ⟨A55, m56, c57, hQe, o2, o2m, hap_o2_g11, hap_o2_g13⟩ := hQ1
            exact ⟨A55, m56, c57, hQe, o2.ext hQ2, o2m, hap_o2_g11, hap_o2_g13⟩
        · refine ⟨⟨rfl, ⟨rfl, trivial⟩, ?_⟩, ⟨rfl, trivial, ?_⟩, ⟨rfl, ⟨rfl, trivial⟩, ?_⟩, ⟨rfl, trivial, ?_⟩, trivial⟩
          · intro w50 hE
            intro R
            refine WL.fieldA (off := 0) Try.fla25_0 rfl rfl ?_
            exact WL.done ⟨_, rfl, rfl, rfl⟩
          · intro w51 hE
            have hE := hE rfl
            have hB := ext_trans hB hE
            have hVg11 := hVg11.ext hE
            rintro _ rfl
            intro R
            refine WL.load Try.underlying4 rfl rfl (hVg11.vcells 0 _ rfl) rfl ?_
            exact WL.done ⟨_, rfl, ext_refl _, rfl⟩
          · intro w52 hE
            intro R
            refine WL.move rfl rfl ?_
            exact WL.done ⟨_, rfl, rfl, rfl⟩
          · intro w53 hE
            have hE := hE rfl
            have hB := ext_trans hB hE
            have hVg11 := hVg11.ext hE
            have hVg13 := hVg13.ext hE
            intro R
            refine WL.call Try.func26 rfl Try.nm26 rfl rfl (one_c) ?_
            rintro _ w54 ⟨A55, m56, c57, rfl, hGw54, o2, o2m⟩
            have hap_o2_g11 := ap_new o2 (hVg11.bl_ge _ rfl).2
            have hap_o2_g13 := ap_new o2 (hVg13.bl_ge _ rfl).2
            have o2 := o2.low (b' := w.heap.size) hB.size
            have hB := ext_trans hB hGw54
            have o2_l := o2.rd.ulen
            exact WL.done ⟨_, rfl, hGw54, ⟨A55, m56, c57, rfl, o2, o2m, hap_o2_g11, hap_o2_g13⟩⟩
        · intro vals w58 hT hVs
          have hB := ext_trans hB hT
          have hVg13 := hVg13.ext hT
          have ha_ := ha_.ext hT
          have hv0 : vals 0 = _ := hVs 0 (by decide)
          have hv1 : vals 1 = _ := hVs 1 (by decide)
          have hv2 : vals 2 = _ := hVs 2 (by decide)
          obtain ⟨A55, m56, c57, hv3, o2, o2m, hap_o2_g11, hap_o2_g13⟩ := hVs 3 (by decide)
          rw [show (List.filterMap (fun i => Option.map (fun t => (t, vals i)) (dstAt _ i)) (List.range _)) = [(29, .pointer (some ((⟨g11, 0, none⟩ : Addr).add 0))), (30, .bool true), (31, .slice A47 m48 c49), (32, .slice A55 m56 c57)] from by
            show [(29, vals 0), (30, vals 1), (31, vals 2), (32, vals 3)] = _
            rw [hv0, hv1, hv2, hv3]]
          refine WA.step [4] (by decide +kernel) rfl ?_
          intro iQ hQ
          simp only [List.mem_cons, List.not_mem_nil, or_false] at hQ
          obtain rfl := hQ
          · refine ⟨_, rfl, ?_⟩
            refine WL.build (cells := #[.bool true, .slice A47 m48 c49, .slice A55 m56 c57]) Try.bld25 rfl rfl rfl ?_
            refine WL.done ?_
            refine WA.step [5] (by decide +kernel) rfl ?_
            intro iQ hQ
            simp only [List.mem_cons, List.not_mem_nil, or_false] at hQ
            obtain rfl := hQ
            · refine ⟨_, rfl, ?_⟩
              refine WL.storeV Try.el25 rfl rfl rfl rfl hVg13 ?_
              have hOld60 := hVg13
              intro w59 hVg13 hGw59
              change Own _ _ _ _ _ _ _ [.bool true, .slice A47 m48 c49, .slice A55 m56 c57] at hVg13
              have hB := ext_own hB hGw59 (fun g hg => (hOld60.bl_ge g hg).1)
              have ha_ := ha_.grown hGw59 (ap_row hap_ha__g13)
              have o2 := o2.grown hGw59 (ap_row hap_o2_g13)
              refine WL.done ?_
              refine WA.done (by decide +kernel) ?_
              refine W.ret ?_
              refine ⟨[.agg #[.bool true, .slice A47 m48 c49, .slice A55 m56 c57]], ⟨_, _, _, rfl, rfl, run_loadV (cs := [.bool true, .slice A47 m48 c49, .slice A55 m56 c57]) Try.el25 Try.agg25 rfl hVg13.vcells, rfl⟩, ?_⟩
              rw [flB z.2 hqa zr]
              rw [nv_digs, nv_digs] at ha_
              obtain ⟨k1, k2, k3⟩ := @can_negn (nv xan / nv xad + 1) (Nat.succ_ne_zero _)
              rw [k1, k2, k3]
              exact ⟨_, _, _, _, _, _, rfl, hB, ha_, o2, by omega⟩
      · have zr := zr_t rfl
        rw [nv_digs] at zr
        refine WL.take rfl ?_
        refine WL.not rfl rfl ?_
        refine WL.pick rfl rfl rfl ?_
        refine WL.done ?_
        refine W.condF rfl ?_
        refine W.skip ?_
        refine W.seq ?_
        refine W.drawT 4 [⟨[], [1], true⟩, ⟨[0], [], false⟩, ⟨[], [3], true⟩, ⟨[], [], false⟩] [[(1, .pointer (some ⟨g11, 0, none⟩))], [], [(3, .slice A17 m18 cp19)], []] (fun iQ => [fun v wQ => v = .pointer (some ((⟨g11, 0, none⟩ : Addr).add 0)), fun v wQ => v = .bool true, fun v wQ => v = .slice A17 m18 cp19, fun v wQ => ∃ A66 m67 c68, v = .slice A66 m67 c68 ∧ (Own w.heap.size wQ 48 1 A66 m67 c68 (us (digs 1))) ∧ (m67 = 1) ∧ (∀ k, bl A66 = some k → k ≠ g11) ∧ (∀ k, bl A66 = some k → k ≠ g13)].getD iQ (fun _ _ => True)) Try.mixed (by kernel_rfl) ?_ ?_ ?_
        · refine Vs_monoT _ ?_
          intro VQ hVQ vQ wQ1 wQ2 hQ1 hQ2
          simp only [List.mem_cons, List.not_mem_nil, or_false] at hVQ
          rcases hVQ with rfl | rfl | rfl | rfl
          · exact hQ1
          · exact hQ1
          · exact hQ1
          · obtain ⟨A66, m67, c68, hQe, o2, o2m, hap_o2_g11, hap_o2_g13⟩ := hQ1
            exact ⟨A66, m67, c68, hQe, o2.ext hQ2, o2m, hap_o2_g11, hap_o2_g13⟩
        · refine ⟨⟨rfl, ⟨rfl, trivial⟩, ?_⟩, ⟨rfl, trivial, ?_⟩, ⟨rfl, ⟨rfl, trivial⟩, ?_⟩, ⟨rfl, trivial, ?_⟩, trivial⟩
          · intro w61 hE
            intro R
            refine WL.fieldA (off := 0) Try.fla25_0 rfl rfl ?_
            exact WL.done ⟨_, rfl, rfl, rfl⟩
          · intro w62 hE
            have hE := hE rfl
            have hB := ext_trans hB hE
            have hVg11 := hVg11.ext hE
            rintro _ rfl
            intro R
            refine WL.load Try.underlying4 rfl rfl (hVg11.vcells 0 _ rfl) rfl ?_
            exact WL.done ⟨_, rfl, ext_refl _, rfl⟩
          · intro w63 hE
            intro R
            refine WL.move rfl rfl ?_
            exact WL.done ⟨_, rfl, rfl, rfl⟩
          · intro w64 hE
            have hE := hE rfl
            have hB := ext_trans hB hE
            have hVg11 := hVg11.ext hE
            have hVg13 := hVg13.ext hE
            intro R
            refine WL.call Try.func26 rfl Try.nm26 rfl rfl (one_c) ?_
            rintro _ w65 ⟨A66, m67, c68, rfl, hGw65, o2, o2m⟩
            have hap_o2_g11 := ap_new o2 (hVg11.bl_ge _ rfl).2
            have hap_o2_g13 := ap_new o2 (hVg13.bl_ge _ rfl).2
            have o2 := o2.low (b' := w.heap.size) hB.size
            have hB := ext_trans hB hGw65
            have o2_l := o2.rd.ulen
            exact WL.done ⟨_, rfl, hGw65, ⟨A66, m67, c68, rfl, o2, o2m, hap_o2_g11, hap_o2_g13⟩⟩
        · intro vals w69 hT hVs
          have hB := ext_trans hB hT
          have hVg13 := hVg13.ext hT
          have hdq := hdq.ext hT
          have hv0 : vals 0 = _ := hVs 0 (by decide)
          have hv1 : vals 1 = _ := hVs 1 (by decide)
          have hv2 : vals 2 = _ := hVs 2 (by decide)
          obtain ⟨A66, m67, c68, hv3, o2, o2m, hap_o2_g11, hap_o2_g13⟩ := hVs 3 (by decide)
          rw [show (List.filterMap (fun i => Option.map (fun t => (t, vals i)) (dstAt _ i)) (List.range _)) = [(29, .pointer (some ((⟨g11, 0, none⟩ : Addr).add 0))), (30, .bool true), (31, .slice A17 m18 cp19), (32, .slice A66 m67 c68)] from by
            show [(29, vals 0), (30, vals 1), (31, vals 2), (32, vals 3)] = _
            rw [hv0, hv1, hv2, hv3]]
          refine WA.step [4] (by decide +kernel) rfl ?_
          intro iQ hQ
          simp only [List.mem_cons, List.not_mem_nil, or_false] at hQ
          obtain rfl := hQ
          · refine ⟨_, rfl, ?_⟩
            refine WL.build (cells := #[.bool true, .slice A17 m18 cp19, .slice A66 m67 c68]) Try.bld25 rfl rfl rfl ?_
            refine WL.done ?_
            refine WA.step [5] (by decide +kernel) rfl ?_
            intro iQ hQ
            simp only [List.mem_cons, List.not_mem_nil, or_false] at hQ
            obtain rfl := hQ
            · refine ⟨_, rfl, ?_⟩
              refine WL.storeV Try.el25 rfl rfl rfl rfl hVg13 ?_
              have hOld71 := hVg13
              intro w70 hVg13 hGw70
              change Own _ _ _ _ _ _ _ [.bool true, .slice A17 m18 cp19, .slice A66 m67 c68] at hVg13
              have hB := ext_own hB hGw70 (fun g hg => (hOld71.bl_ge g hg).1)
              have hdq := hdq.grown hGw70 (ap_row hap_hdq_g13)
              have o2 := o2.grown hGw70 (ap_row hap_o2_g13)
              refine WL.done ?_
              refine WA.done (by decide +kernel) ?_
              refine W.ret ?_
              refine ⟨[.agg #[.bool true, .slice A17 m18 cp19, .slice A66 m67 c68]], ⟨_, _, _, rfl, rfl, run_loadV (cs := [.bool true, .slice A17 m18 cp19, .slice A66 m67 c68]) Try.el25 Try.agg25 rfl hVg13.vcells, rfl⟩, ?_⟩
              rw [flC z.2 hqa zr]
              obtain ⟨k1, k2, k3⟩ := can_negn (div_ne z.1 zr)
              rw [k1, k2, k3]
              exact ⟨_, _, _, _, _, _, rfl, hB, hdq, o2, by omega⟩
  · have z := z_t rfl
    refine WL.done ?_
    refine W.condT rfl ?_
    refine W.seq ?_
    refine W.region ?_
    refine WL.call Try.func22 rfl Try.nm22 rfl rfl (zero_c) ?_
    rintro _ w72 ⟨A73, m74, c75, A76, m77, c78, rfl, hGw72, hzn, hzd, hzm⟩
    have hap_hzn_g13 := ap_new hzn (hVg13.bl_ge _ rfl).2
    have hap_hzd_g13 := ap_new hzd (hVg13.bl_ge _ rfl).2
    have hzn := hzn.low (b' := w.heap.size) hB.size
    have hzd := hzd.low (b' := w.heap.size) hB.size
    have hB := ext_trans hB hGw72
    have hVg13 := hVg13.ext hGw72
    have hzn_l := hzn.rd.ulen
    have hzd_l := hzd.rd.ulen
    refine WL.storeV Try.el25 rfl rfl rfl rfl hVg13 ?_
    have hOld80 := hVg13
    intro w79 hVg13 hGw79
    change Own _ _ _ _ _ _ _ [.bool (qneg ((0 : Rat))), .slice A73 m74 c75, .slice A76 m77 c78] at hVg13
    have hB := ext_own hB hGw79 (fun g hg => (hOld80.bl_ge g hg).1)
    have hzn := hzn.grown hGw79 (ap_row hap_hzn_g13)
    have hzd := hzd.grown hGw79 (ap_row hap_hzd_g13)
    refine WL.done ?_
    refine W.ret ?_
    refine ⟨[.agg #[.bool (qneg ((0 : Rat))), .slice A73 m74 c75, .slice A76 m77 c78]], ⟨_, _, _, rfl, rfl, run_loadV (cs := [.bool (qneg ((0 : Rat))), .slice A73 m74 c75, .slice A76 m77 c78]) Try.el25 Try.agg25 rfl hVg13.vcells, rfl⟩, ?_⟩
    rw [z, show ((fl 0 : Int) : Rat) = (0 : Rat) from rfl]
    exact ⟨_, _, _, _, _, _, rfl, hB, hzn, hzd, by omega⟩

theorem qWhole_t {w : World} {Ban : Nat} {Aan : Option Addr} {man can : Nat} {xan : List Nat} (han : Rd Ban w 1 Aan man can (us xan)) {Bad : Nat} {Aad : Option Addr} {mad cad : Nat} {xad : List Nat} (had : Rd Bad w 1 Aad mad cad (us xad)) {na : Bool} (hLan : Lim xan) (hLad : Lim xad) (qa : Rat) (hqa : val na (nv xan) (nv xad) = qa) (hsa : man ≤ 4194304 ∧ mad ≤ 4194304) (h : whole qa) :
    Calls Try.prog 8 #[.agg #[.bool na, .slice Aan man can, .slice Aad mad cad]] w fun e w2 => ∃ v, e = .returned v ∧ (fun v w2 => ∃ A2 m2 c2, v = .tuple #[.slice A2 m2 c2, .bool true] ∧ w.grownBy w2 none ∧ Own w.heap.size w2 48 1 A2 m2 c2 (us (digs (qnum qa))) ∧ m2 ≤ man) v w2 := by
  have han := han.norm
  have han_l := han.ulen
  have han_x := han.max
  simp only [maxLen] at han_x
  have han_c := han.cap
  have had := had.norm
  have had_l := had.ulen
  have had_x := had.max
  simp only [maxLen] at had_x
  have had_c := had.cap
  have han0 := han
  have had0 := had
  have hdl := div_len hLan (nv xad)
  have hB := ext_refl w
  refine calls_of_W (vs := [.agg #[.bool na, .slice Aan man can, .slice Aad mad cad]]) [2, 3] Try.func8 rfl rfl rfl rfl ?_
  refine W.seq ?_
  refine W.region ?_
  refine WL.box Try.el25 rfl rfl rfl ?_
  intro g11 w12 hg_g11 hVg11 hGw12
  change Own _ _ _ _ _ _ _ [.bool na, .slice Aan man can, .slice Aad mad cad] at hVg11
  have hVg11 := hVg11.low (b' := w.heap.size) hB.size
  have hB := ext_trans hB hGw12
  have han := han0.ext hB
  have had := had0.ext hB
  refine WL.assign rfl rfl ?_
  refine WL.assign rfl rfl ?_
  refine WL.done ?_
  refine W.seq ?_
  refine W.seq ?_
  refine W.region ?_
  refine WL.loadV (cs := [.bool na, .slice Aan man can, .slice Aad mad cad]) Try.el25 Try.agg25 rfl rfl hVg11.vcells rfl ?_
  refine WL.call Try.func21 rfl Try.nm21 rfl rfl (isZero_c han had hLan hLad qa hqa (by omega)) ?_
  rintro _ w13 ⟨bz, rfl, hGw13, z_t, z_f⟩
  have hB := ext_trans hB hGw13
  have han := han0.ext hB
  have had := had0.ext hB
  have hVg11 := hVg11.ext hGw13
  rcases bz with _ | _
  · have z := z_f rfl
    refine WL.done ?_
    refine W.condF rfl ?_
    refine W.skip ?_
    refine W.seq ?_
    refine W.region ?_
    refine WL.fieldA (off := 1) Try.fla25_1 rfl rfl ?_
    refine WL.load Try.underlying23 rfl rfl (hVg11.vcells 1 _ rfl) rfl ?_
    refine WL.fieldA (off := 2) Try.fla25_2 rfl rfl ?_
    refine WL.load Try.underlying23 rfl rfl (hVg11.vcells 2 _ rfl) rfl ?_
    refine WL.call Try.func23 rfl Try.nm23 rfl rfl (DivMod_ok han had hLan hLad (by omega) (by omega)) ?_
    rintro _ w14 ⟨A15, m16, cp17, A18, m19, cp20, rfl, hGw14, hdq, hdr, hm21, hm22⟩
    have hdq := hdq.low (b' := w.heap.size) hB.size
    have hdr := hdr.low (b' := w.heap.size) hB.size
    have hB := ext_trans hB hGw14
    have hVg11 := hVg11.ext hGw14
    have hdq_l := hdq.rd.ulen
    have hdr_l := hdr.rd.ulen
    refine WL.move rfl rfl ?_
    refine WL.extract rfl rfl rfl ?_
    refine WL.extract rfl rfl rfl ?_
    refine WL.extract rfl rfl rfl ?_
    refine WL.assign rfl rfl ?_
    refine WL.assign rfl rfl ?_
    refine WL.assign rfl rfl ?_
    refine WL.done ?_
    refine W.seq ?_
    refine W.seq ?_
    refine W.region ?_
    refine WL.fieldA (off := 0) Try.fla25_0 rfl rfl ?_
    refine WL.load Try.underlying4 rfl rfl (hVg11.vcells 0 _ rfl) rfl ?_
    refine WL.move rfl rfl ?_
    rcases na with _ | _
    · refine WL.take rfl ?_
      refine WL.move rfl rfl ?_
      refine WL.take rfl ?_
      refine WL.call Try.func24 rfl Try.nm24 rfl rfl (nought_c hdr.rd (digs_lim _) (by omega)) ?_
      rintro _ w24 ⟨bzr, rfl, hGw24, zr_t, zr_f⟩
      have hB := ext_trans hB hGw24
      have hdq := hdq.ext hGw24
      rcases bzr with _ | _
      · exfalso
        have zr := zr_f rfl
        rw [nv_digs] at zr
        exact zr ((whole_val z.1 z.2 hqa).1 h).2
      · have zr := zr_t rfl
        rw [nv_digs] at zr
        refine WL.take rfl ?_
        refine WL.not rfl rfl ?_
        refine WL.pick rfl rfl rfl ?_
        refine WL.done ?_
        refine W.condF rfl ?_
        refine W.skip ?_
        refine W.seq ?_
        refine W.region ?_
        refine WL.move rfl rfl ?_
        refine WL.assign rfl rfl ?_
        refine WL.assign rfl rfl ?_
        refine WL.done ?_
        refine W.ret ?_
        refine ⟨_, rfl, ?_⟩
        rw [whole_num z.1 z.2 hqa zr]
        exact ⟨_, _, _, rfl, hB, hdq, by omega⟩
    · refine WL.pass rfl rfl rfl ?_
      refine WL.pass rfl rfl rfl ?_
      refine WL.pass rfl rfl rfl ?_
      refine WL.pick rfl rfl rfl ?_
      refine WL.done ?_
      refine W.condT rfl ?_
      refine W.seq ?_
      refine W.region ?_
      refine WL.assign rfl rfl ?_
      refine WL.assign rfl rfl ?_
      refine WL.done ?_
      refine W.ret ?_
      refine ⟨_, rfl, ?_⟩
      exact absurd ((whole_val z.1 z.2 hqa).1 h).1 (by decide)
  · have z := z_t rfl
    refine WL.done ?_
    refine W.condT rfl ?_
    refine W.seq ?_
    refine W.region ?_
    refine WL.assign rfl rfl ?_
    refine WL.assign rfl rfl ?_
    refine WL.done ?_
    refine W.ret ?_
    refine ⟨_, rfl, ?_⟩
    have e0 : digs (qnum qa) = [] := by rw [z]; exact List.eq_nil_of_length_eq_zero (rdigs_len0.2 rfl)
    rw [e0]
    exact ⟨none, 0, 0, rfl, hB, World.ownsRow_nil _ _ _ _, by omega⟩

theorem qWhole_f {w : World} {Ban : Nat} {Aan : Option Addr} {man can : Nat} {xan : List Nat} (han : Rd Ban w 1 Aan man can (us xan)) {Bad : Nat} {Aad : Option Addr} {mad cad : Nat} {xad : List Nat} (had : Rd Bad w 1 Aad mad cad (us xad)) {na : Bool} (hLan : Lim xan) (hLad : Lim xad) (qa : Rat) (hqa : val na (nv xan) (nv xad) = qa) (hsa : man ≤ 4194304 ∧ mad ≤ 4194304) (h : ¬ whole qa) :
    Calls Try.prog 8 #[.agg #[.bool na, .slice Aan man can, .slice Aad mad cad]] w fun e w2 => ∃ v, e = .returned v ∧ (fun v w2 => v = .tuple #[.slice none 0 0, .bool false] ∧ w.grownBy w2 none) v w2 := by
  have han := han.norm
  have han_l := han.ulen
  have han_x := han.max
  simp only [maxLen] at han_x
  have han_c := han.cap
  have had := had.norm
  have had_l := had.ulen
  have had_x := had.max
  simp only [maxLen] at had_x
  have had_c := had.cap
  have han0 := han
  have had0 := had
  have hdl := div_len hLan (nv xad)
  have hB := ext_refl w
  refine calls_of_W (vs := [.agg #[.bool na, .slice Aan man can, .slice Aad mad cad]]) [2, 3] Try.func8 rfl rfl rfl rfl ?_
  refine W.seq ?_
  refine W.region ?_
  refine WL.box Try.el25 rfl rfl rfl ?_
  intro g11 w12 hg_g11 hVg11 hGw12
  change Own _ _ _ _ _ _ _ [.bool na, .slice Aan man can, .slice Aad mad cad] at hVg11
  have hVg11 := hVg11.low (b' := w.heap.size) hB.size
  have hB := ext_trans hB hGw12
  have han := han0.ext hB
  have had := had0.ext hB
  refine WL.assign rfl rfl ?_
  refine WL.assign rfl rfl ?_
  refine WL.done ?_
  refine W.seq ?_
  refine W.seq ?_
  refine W.region ?_
  refine WL.loadV (cs := [.bool na, .slice Aan man can, .slice Aad mad cad]) Try.el25 Try.agg25 rfl rfl hVg11.vcells rfl ?_
  refine WL.call Try.func21 rfl Try.nm21 rfl rfl (isZero_c han had hLan hLad qa hqa (by omega)) ?_
  rintro _ w13 ⟨bz, rfl, hGw13, z_t, z_f⟩
  have hB := ext_trans hB hGw13
  have han := han0.ext hB
  have had := had0.ext hB
  have hVg11 := hVg11.ext hGw13
  rcases bz with _ | _
  · have z := z_f rfl
    refine WL.done ?_
    refine W.condF rfl ?_
    refine W.skip ?_
    refine W.seq ?_
    refine W.region ?_
    refine WL.fieldA (off := 1) Try.fla25_1 rfl rfl ?_
    refine WL.load Try.underlying23 rfl rfl (hVg11.vcells 1 _ rfl) rfl ?_
    refine WL.fieldA (off := 2) Try.fla25_2 rfl rfl ?_
    refine WL.load Try.underlying23 rfl rfl (hVg11.vcells 2 _ rfl) rfl ?_
    refine WL.call Try.func23 rfl Try.nm23 rfl rfl (DivMod_ok han had hLan hLad (by omega) (by omega)) ?_
    rintro _ w14 ⟨A15, m16, cp17, A18, m19, cp20, rfl, hGw14, hdq, hdr, hm21, hm22⟩
    have hdq := hdq.low (b' := w.heap.size) hB.size
    have hdr := hdr.low (b' := w.heap.size) hB.size
    have hB := ext_trans hB hGw14
    have hVg11 := hVg11.ext hGw14
    have hdq_l := hdq.rd.ulen
    have hdr_l := hdr.rd.ulen
    refine WL.move rfl rfl ?_
    refine WL.extract rfl rfl rfl ?_
    refine WL.extract rfl rfl rfl ?_
    refine WL.extract rfl rfl rfl ?_
    refine WL.assign rfl rfl ?_
    refine WL.assign rfl rfl ?_
    refine WL.assign rfl rfl ?_
    refine WL.done ?_
    refine W.seq ?_
    refine W.seq ?_
    refine W.region ?_
    refine WL.fieldA (off := 0) Try.fla25_0 rfl rfl ?_
    refine WL.load Try.underlying4 rfl rfl (hVg11.vcells 0 _ rfl) rfl ?_
    refine WL.move rfl rfl ?_
    rcases na with _ | _
    · refine WL.take rfl ?_
      refine WL.move rfl rfl ?_
      refine WL.take rfl ?_
      refine WL.call Try.func24 rfl Try.nm24 rfl rfl (nought_c hdr.rd (digs_lim _) (by omega)) ?_
      rintro _ w24 ⟨bzr, rfl, hGw24, zr_t, zr_f⟩
      have hB := ext_trans hB hGw24
      rcases bzr with _ | _
      · have zr := zr_f rfl
        rw [nv_digs] at zr
        refine WL.take rfl ?_
        refine WL.not rfl rfl ?_
        refine WL.pick rfl rfl rfl ?_
        refine WL.done ?_
        refine W.condT rfl ?_
        refine W.seq ?_
        refine W.region ?_
        refine WL.assign rfl rfl ?_
        refine WL.assign rfl rfl ?_
        refine WL.done ?_
        refine W.ret ?_
        refine ⟨_, rfl, ?_⟩
        exact ⟨rfl, hB⟩
      · exfalso
        have zr := zr_t rfl
        rw [nv_digs] at zr
        exact h ((whole_val z.1 z.2 hqa).2 ⟨rfl, zr⟩)
    · refine WL.pass rfl rfl rfl ?_
      refine WL.pass rfl rfl rfl ?_
      refine WL.pass rfl rfl rfl ?_
      refine WL.pick rfl rfl rfl ?_
      refine WL.done ?_
      refine W.condT rfl ?_
      refine W.seq ?_
      refine W.region ?_
      refine WL.assign rfl rfl ?_
      refine WL.assign rfl rfl ?_
      refine WL.done ?_
      refine W.ret ?_
      refine ⟨_, rfl, ?_⟩
      exact ⟨rfl, hB⟩
  · have z := z_t rfl
    refine WL.done ?_
    refine W.condT rfl ?_
    refine W.seq ?_
    refine W.region ?_
    refine WL.assign rfl rfl ?_
    refine WL.assign rfl rfl ?_
    refine WL.done ?_
    refine W.ret ?_
    refine ⟨_, rfl, ?_⟩
    rw [z] at h
    exact absurd whole_zero h

theorem rqWhole_t {w : World} {Ban : Nat} {Aan : Option Addr} {man can : Nat} {xan : List Nat} (han : Rd Ban w 1 Aan man can (us xan)) {Bad : Nat} {Aad : Option Addr} {mad cad : Nat} {xad : List Nat} (had : Rd Bad w 1 Aad mad cad (us xad)) {na : Bool} (hLan : Lim xan) (hLad : Lim xad) (qa : Rat) (hqa : val na (nv xan) (nv xad) = qa) (hsa : man ≤ 4194304 ∧ mad ≤ 4194304) (h : whole qa) :
    Calls Try.prog 9 #[.agg #[.bool na, .slice Aan man can, .slice Aad mad cad]] w fun e w2 => ∃ v, e = .returned v ∧ (fun v w2 => ∃ A2 m2 c2, v = .tuple #[.slice A2 m2 c2, .bool true] ∧ w.grownBy w2 none ∧ Own w.heap.size w2 48 1 A2 m2 c2 (us (digs (qnum qa))) ∧ m2 ≤ man) v w2 := by
  have han := han.norm
  have han_l := han.ulen
  have han_x := han.max
  simp only [maxLen] at han_x
  have han_c := han.cap
  have had := had.norm
  have had_l := had.ulen
  have had_x := had.max
  simp only [maxLen] at had_x
  have had_c := had.cap
  have han0 := han
  have had0 := had
  have hdl := div_len hLan (nv xad)
  have hB := ext_refl w
  refine calls_of_W (vs := [.agg #[.bool na, .slice Aan man can, .slice Aad mad cad]]) [2, 3] Try.func9 rfl rfl rfl rfl ?_
  refine W.seq ?_
  refine W.region ?_
  refine WL.box Try.el25 rfl rfl rfl ?_
  intro g11 w12 hg_g11 hVg11 hGw12
  change Own _ _ _ _ _ _ _ [.bool na, .slice Aan man can, .slice Aad mad cad] at hVg11
  have hVg11 := hVg11.low (b' := w.heap.size) hB.size
  have hB := ext_trans hB hGw12
  have han := han0.ext hB
  have had := had0.ext hB
  refine WL.assign rfl rfl ?_
  refine WL.assign rfl rfl ?_
  refine WL.done ?_
  refine W.seq ?_
  refine W.region ?_
  refine WL.loadV (cs := [.bool na, .slice Aan man can, .slice Aad mad cad]) Try.el25 Try.agg25 rfl rfl hVg11.vcells rfl ?_
  refine WL.call Try.func27 rfl Try.nm27 rfl rfl (rqTrim_c han had hLan hLad qa hqa (by omega)) ?_
  rintro _ w13 ⟨A14, m15, c16, A17, m18, c19, rfl, hGw13, t1n, t1d, t1m⟩
  have hap_t1n_g11 := ap_new t1n (hVg11.bl_ge _ rfl).2
  have hap_t1d_g11 := ap_new t1d (hVg11.bl_ge _ rfl).2
  have t1n := t1n.low (b' := w.heap.size) hB.size
  have t1d := t1d.low (b' := w.heap.size) hB.size
  have hB := ext_trans hB hGw13
  have hVg11 := hVg11.ext hGw13
  have t1n_l := t1n.rd.ulen
  have t1d_l := t1d.rd.ulen
  refine WL.storeV Try.el25 rfl rfl rfl rfl hVg11 ?_
  have hOld21 := hVg11
  intro w20 hVg11 hGw20
  change Own _ _ _ _ _ _ _ [.bool (qneg (qa)), .slice A14 m15 c16, .slice A17 m18 c19] at hVg11
  have hB := ext_own hB hGw20 (fun g hg => (hOld21.bl_ge g hg).1)
  have t1n := t1n.grown hGw20 (ap_row hap_t1n_g11)
  have t1d := t1d.grown hGw20 (ap_row hap_t1d_g11)
  refine WL.done ?_
  refine W.seq ?_
  refine W.seq ?_
  refine W.region ?_
  refine WL.fieldA (off := 0) Try.fla25_0 rfl rfl ?_
  refine WL.load Try.underlying4 rfl rfl (hVg11.vcells 0 _ rfl) rfl ?_
  refine WL.move rfl rfl ?_
  rcases hg22 : (qneg (qa)) with _ | _
  · refine WL.take rfl ?_
    refine WL.fieldA (off := 2) Try.fla25_2 rfl rfl ?_
    refine WL.take rfl ?_
    refine WL.load Try.underlying23 rfl rfl (hVg11.vcells 2 _ rfl) rfl ?_
    refine WL.take rfl ?_
    refine WL.lit1 (b := w20.heap.size) Try.underlying23 Try.el48 rfl rfl rfl rfl (by intro v hv; simp only [List.mem_cons, List.not_mem_nil, or_false] at hv; rcases hv with rfl <;> rfl) (Nat.le_refl _) rfl ?_
    rintro A23 w24 - b1 hGw24
    have b1 := b1.low (b' := w.heap.size) hB.size
    have hB := ext_trans hB hGw24
    have t1n := t1n.ext hGw24
    have t1d := t1d.ext hGw24
    have hVg11 := hVg11.ext hGw24
    change Own _ _ _ _ _ _ _ (us [1]) at b1
    refine WL.take rfl ?_
    refine WL.call Try.func28 rfl Try.nm28 rfl rfl (Same_c t1d.rd b1.rd) ?_
    rintro _ w25 ⟨rfl, hGw25⟩
    have hB := ext_trans hB hGw25
    have t1n := t1n.ext hGw25
    have hVg11 := hVg11.ext hGw25
    refine WL.take rfl ?_
    refine WL.not rfl rfl ?_
    refine WL.pick rfl rfl rfl ?_
    refine WL.done ?_
    rcases hg26 : !(decide (digs (Rat.den (qa)) = [1])) with _ | _
    · refine W.condF rfl ?_
      refine W.skip ?_
      refine W.seq ?_
      refine W.region ?_
      refine WL.fieldA (off := 1) Try.fla25_1 rfl rfl ?_
      refine WL.load Try.underlying23 rfl rfl (hVg11.vcells 1 _ rfl) rfl ?_
      refine WL.assign rfl rfl ?_
      refine WL.assign rfl rfl ?_
      refine WL.done ?_
      refine W.ret ?_
      refine ⟨_, rfl, ?_⟩
      exact ⟨_, _, _, rfl, hB, t1n, by omega⟩
    · refine W.condT rfl ?_
      refine W.seq ?_
      refine W.region ?_
      refine WL.assign rfl rfl ?_
      refine WL.assign rfl rfl ?_
      refine WL.done ?_
      refine W.ret ?_
      refine ⟨_, rfl, ?_⟩
      exfalso
      have h1 := h.1
      have h2 := h.2
      simp_all [digs_one]
  · refine WL.pass rfl rfl rfl ?_
    refine WL.pass rfl rfl rfl ?_
    refine WL.pass rfl rfl rfl ?_
    refine WL.pass rfl rfl rfl ?_
    refine WL.pass rfl rfl rfl ?_
    refine WL.pick rfl rfl rfl ?_
    refine WL.done ?_
    refine W.condT rfl ?_
    refine W.seq ?_
    refine W.region ?_
    refine WL.assign rfl rfl ?_
    refine WL.assign rfl rfl ?_
    refine WL.done ?_
    refine W.ret ?_
    refine ⟨_, rfl, ?_⟩
    exfalso
    have h1 := h.1
    have h2 := h.2
    simp_all [digs_one]

theorem rqWhole_f {w : World} {Ban : Nat} {Aan : Option Addr} {man can : Nat} {xan : List Nat} (han : Rd Ban w 1 Aan man can (us xan)) {Bad : Nat} {Aad : Option Addr} {mad cad : Nat} {xad : List Nat} (had : Rd Bad w 1 Aad mad cad (us xad)) {na : Bool} (hLan : Lim xan) (hLad : Lim xad) (qa : Rat) (hqa : val na (nv xan) (nv xad) = qa) (hsa : man ≤ 4194304 ∧ mad ≤ 4194304) (h : ¬ whole qa) :
    Calls Try.prog 9 #[.agg #[.bool na, .slice Aan man can, .slice Aad mad cad]] w fun e w2 => ∃ v, e = .returned v ∧ (fun v w2 => v = .tuple #[.slice none 0 0, .bool false] ∧ w.grownBy w2 none) v w2 := by
  have han := han.norm
  have han_l := han.ulen
  have han_x := han.max
  simp only [maxLen] at han_x
  have han_c := han.cap
  have had := had.norm
  have had_l := had.ulen
  have had_x := had.max
  simp only [maxLen] at had_x
  have had_c := had.cap
  have han0 := han
  have had0 := had
  have hdl := div_len hLan (nv xad)
  have hB := ext_refl w
  refine calls_of_W (vs := [.agg #[.bool na, .slice Aan man can, .slice Aad mad cad]]) [2, 3] Try.func9 rfl rfl rfl rfl ?_
  refine W.seq ?_
  refine W.region ?_
  refine WL.box Try.el25 rfl rfl rfl ?_
  intro g11 w12 hg_g11 hVg11 hGw12
  change Own _ _ _ _ _ _ _ [.bool na, .slice Aan man can, .slice Aad mad cad] at hVg11
  have hVg11 := hVg11.low (b' := w.heap.size) hB.size
  have hB := ext_trans hB hGw12
  have han := han0.ext hB
  have had := had0.ext hB
  refine WL.assign rfl rfl ?_
  refine WL.assign rfl rfl ?_
  refine WL.done ?_
  refine W.seq ?_
  refine W.region ?_
  refine WL.loadV (cs := [.bool na, .slice Aan man can, .slice Aad mad cad]) Try.el25 Try.agg25 rfl rfl hVg11.vcells rfl ?_
  refine WL.call Try.func27 rfl Try.nm27 rfl rfl (rqTrim_c han had hLan hLad qa hqa (by omega)) ?_
  rintro _ w13 ⟨A14, m15, c16, A17, m18, c19, rfl, hGw13, t1n, t1d, t1m⟩
  have hap_t1d_g11 := ap_new t1d (hVg11.bl_ge _ rfl).2
  have t1n := t1n.low (b' := w.heap.size) hB.size
  have t1d := t1d.low (b' := w.heap.size) hB.size
  have hB := ext_trans hB hGw13
  have hVg11 := hVg11.ext hGw13
  have t1n_l := t1n.rd.ulen
  have t1d_l := t1d.rd.ulen
  refine WL.storeV Try.el25 rfl rfl rfl rfl hVg11 ?_
  have hOld21 := hVg11
  intro w20 hVg11 hGw20
  change Own _ _ _ _ _ _ _ [.bool (qneg (qa)), .slice A14 m15 c16, .slice A17 m18 c19] at hVg11
  have hB := ext_own hB hGw20 (fun g hg => (hOld21.bl_ge g hg).1)
  have t1d := t1d.grown hGw20 (ap_row hap_t1d_g11)
  refine WL.done ?_
  refine W.seq ?_
  refine W.seq ?_
  refine W.region ?_
  refine WL.fieldA (off := 0) Try.fla25_0 rfl rfl ?_
  refine WL.load Try.underlying4 rfl rfl (hVg11.vcells 0 _ rfl) rfl ?_
  refine WL.move rfl rfl ?_
  rcases hg22 : (qneg (qa)) with _ | _
  · refine WL.take rfl ?_
    refine WL.fieldA (off := 2) Try.fla25_2 rfl rfl ?_
    refine WL.take rfl ?_
    refine WL.load Try.underlying23 rfl rfl (hVg11.vcells 2 _ rfl) rfl ?_
    refine WL.take rfl ?_
    refine WL.lit1 (b := w20.heap.size) Try.underlying23 Try.el48 rfl rfl rfl rfl (by intro v hv; simp only [List.mem_cons, List.not_mem_nil, or_false] at hv; rcases hv with rfl <;> rfl) (Nat.le_refl _) rfl ?_
    rintro A23 w24 - b1 hGw24
    have b1 := b1.low (b' := w.heap.size) hB.size
    have hB := ext_trans hB hGw24
    have t1d := t1d.ext hGw24
    have hVg11 := hVg11.ext hGw24
    change Own _ _ _ _ _ _ _ (us [1]) at b1
    refine WL.take rfl ?_
    refine WL.call Try.func28 rfl Try.nm28 rfl rfl (Same_c t1d.rd b1.rd) ?_
    rintro _ w25 ⟨rfl, hGw25⟩
    have hB := ext_trans hB hGw25
    have hVg11 := hVg11.ext hGw25
    refine WL.take rfl ?_
    refine WL.not rfl rfl ?_
    refine WL.pick rfl rfl rfl ?_
    refine WL.done ?_
    rcases hg26 : !(decide (digs (Rat.den (qa)) = [1])) with _ | _
    · refine W.condF rfl ?_
      refine W.skip ?_
      refine W.seq ?_
      refine W.region ?_
      refine WL.fieldA (off := 1) Try.fla25_1 rfl rfl ?_
      refine WL.load Try.underlying23 rfl rfl (hVg11.vcells 1 _ rfl) rfl ?_
      refine WL.assign rfl rfl ?_
      refine WL.assign rfl rfl ?_
      refine WL.done ?_
      refine W.ret ?_
      refine ⟨_, rfl, ?_⟩
      exfalso
      refine h ⟨?_, by assumption⟩
      simp_all [digs_one]
    · refine W.condT rfl ?_
      refine W.seq ?_
      refine W.region ?_
      refine WL.assign rfl rfl ?_
      refine WL.assign rfl rfl ?_
      refine WL.done ?_
      refine W.ret ?_
      refine ⟨_, rfl, ?_⟩
      exact ⟨rfl, hB⟩
  · refine WL.pass rfl rfl rfl ?_
    refine WL.pass rfl rfl rfl ?_
    refine WL.pass rfl rfl rfl ?_
    refine WL.pass rfl rfl rfl ?_
    refine WL.pass rfl rfl rfl ?_
    refine WL.pick rfl rfl rfl ?_
    refine WL.done ?_
    refine W.condT rfl ?_
    refine W.seq ?_
    refine W.region ?_
    refine WL.assign rfl rfl ?_
    refine WL.assign rfl rfl ?_
    refine WL.done ?_
    refine W.ret ?_
    refine ⟨_, rfl, ?_⟩
    exact ⟨rfl, hB⟩

theorem rqFloor_c {w : World} {Ban : Nat} {Aan : Option Addr} {man can : Nat} {xan : List Nat} (han : Rd Ban w 1 Aan man can (us xan)) {Bad : Nat} {Aad : Option Addr} {mad cad : Nat} {xad : List Nat} (had : Rd Bad w 1 Aad mad cad (us xad)) {na : Bool} (hLan : Lim xan) (hLad : Lim xad) (qa : Rat) (hqa : val na (nv xan) (nv xad) = qa) (hsa : man ≤ 4194304 ∧ mad ≤ 4194304) :
    Calls Try.prog 12 #[.agg #[.bool na, .slice Aan man can, .slice Aad mad cad]] w fun e w2 => ∃ v, e = .returned v ∧ (fun v w2 => ∃ A2 m2 c2 A3 m3 c3, v = .agg #[.bool (qneg (((fl qa : Int) : Rat))), .slice A2 m2 c2, .slice A3 m3 c3] ∧ w.grownBy w2 none ∧ Own w.heap.size w2 48 1 A2 m2 c2 (us (digs (qnum (((fl qa : Int) : Rat))))) ∧ Own w.heap.size w2 48 1 A3 m3 c3 (us (digs (Rat.den (((fl qa : Int) : Rat))))) ∧ m2 ≤ man + 2 ∧ m3 ≤ 2) v w2 := by
  have han := han.norm
  have han_l := han.ulen
  have han_x := han.max
  simp only [maxLen] at han_x
  have han_c := han.cap
  have had := had.norm
  have had_l := had.ulen
  have had_x := had.max
  simp only [maxLen] at had_x
  have had_c := had.cap
  have han0 := han
  have had0 := had
  have hdl := div_len (digs_lim (qnum qa)) (nv (digs qa.den))
  have hdp := den_pos qa
  have hB := ext_refl w
  refine calls_of_Wc (vs := [.agg #[.bool na, .slice Aan man can, .slice Aad mad cad]]) [.cell 2 25] Try.func12 rfl rfl rfl rfl ?_
  refine W.seq ?_
  refine W.region ?_
  refine WL.box Try.el25 rfl rfl rfl ?_
  intro g11 w12 hg_g11 hVg11 hGw12
  change Own _ _ _ _ _ _ _ [.bool na, .slice Aan man can, .slice Aad mad cad] at hVg11
  have hVg11 := hVg11.low (b' := w.heap.size) hB.size
  have hB := ext_trans hB hGw12
  have han := han0.ext hB
  have had := had0.ext hB
  refine WL.alloc Try.el25 rfl ?_
  intro g13 w14 hg_g13 hVg13 hGw14
  change Own _ _ _ _ _ _ _ [.bool false, .slice none 0 0, .slice none 0 0] at hVg13
  have hlt_g11_g13 : g11 < g13 := by rw [hg_g13]; exact (hVg11.bl_ge _ rfl).2
  have hVg13 := hVg13.low (b' := w.heap.size) hB.size
  have hB := ext_trans hB hGw14
  have han := han0.ext hB
  have had := had0.ext hB
  have hVg11 := hVg11.ext hGw14
  refine WL.done ?_
  refine W.seq ?_
  refine W.region ?_
  refine WL.loadV (cs := [.bool na, .slice Aan man can, .slice Aad mad cad]) Try.el25 Try.agg25 rfl rfl hVg11.vcells rfl ?_
  refine WL.call Try.func27 rfl Try.nm27 rfl rfl (rqTrim_c han had hLan hLad qa hqa (by omega)) ?_
  rintro _ w15 ⟨A16, m17, c18, A19, m20, c21, rfl, hGw15, t1n, t1d, t1m⟩
  have hap_t1n_g11 := ap_new t1n (hVg11.bl_ge _ rfl).2
  have hap_t1d_g11 := ap_new t1d (hVg11.bl_ge _ rfl).2
  have t1n := t1n.low (b' := w.heap.size) hB.size
  have t1d := t1d.low (b' := w.heap.size) hB.size
  have hB := ext_trans hB hGw15
  have hVg11 := hVg11.ext hGw15
  have hVg13 := hVg13.ext hGw15
  have t1n_l := t1n.rd.ulen
  have t1d_l := t1d.rd.ulen
  have t1l := t1n.rd.ulen
  refine WL.storeV Try.el25 rfl rfl rfl rfl hVg11 ?_
  have hOld23 := hVg11
  intro w22 hVg11 hGw22
  change Own _ _ _ _ _ _ _ [.bool (qneg (qa)), .slice A16 m17 c18, .slice A19 m20 c21] at hVg11
  have hB := ext_own hB hGw22 (fun g hg => (hOld23.bl_ge g hg).1)
  have hVg13 := hVg13.grown hGw22 (apart (by omega))
  have t1n := t1n.grown hGw22 (ap_row hap_t1n_g11)
  have t1d := t1d.grown hGw22 (ap_row hap_t1d_g11)
  refine WL.done ?_
  refine W.seq ?_
  refine W.region ?_
  refine WL.fieldA (off := 1) Try.fla25_1 rfl rfl ?_
  refine WL.load Try.underlying23 rfl rfl (hVg11.vcells 1 _ rfl) rfl ?_
  refine WL.fieldA (off := 2) Try.fla25_2 rfl rfl ?_
  refine WL.load Try.underlying23 rfl rfl (hVg11.vcells 2 _ rfl) rfl ?_
  refine WL.call Try.func31 rfl Try.nm31 rfl rfl (rDivMod_c t1n.rd t1d.rd (digs_lim _) (digs_lim _) (by first | omega | (rw [nv_digs]; omega)) (by first | omega | (rw [nv_digs]; omega)) (by first | omega | (rw [nv_digs]; omega))) ?_
  rintro _ w24 ⟨A25, m26, cp27, A28, m29, cp30, rfl, hGw24, hdq, hdr, hm31⟩
  have hdq := hdq.low (b' := w.heap.size) hB.size
  have hdr := hdr.low (b' := w.heap.size) hB.size
  have hB := ext_trans hB hGw24
  have hVg13 := hVg13.ext hGw24
  have hVg11 := hVg11.ext hGw24
  have hdq_l := hdq.rd.ulen
  have hdr_l := hdr.rd.ulen
  refine WL.move rfl rfl ?_
  refine WL.extract rfl rfl rfl ?_
  refine WL.extract rfl rfl rfl ?_
  refine WL.assign rfl rfl ?_
  refine WL.assign rfl rfl ?_
  refine WL.done ?_
  refine W.seq ?_
  refine W.seq ?_
  refine W.region ?_
  refine WL.fieldA (off := 0) Try.fla25_0 rfl rfl ?_
  refine WL.load Try.underlying4 rfl rfl (hVg11.vcells 0 _ rfl) rfl ?_
  refine WL.move rfl rfl ?_
  rcases hg32 : (qneg (qa)) with _ | _
  · refine WL.pass rfl rfl rfl ?_
    refine WL.pass rfl rfl rfl ?_
    refine WL.pass rfl rfl rfl ?_
    refine WL.pick rfl rfl rfl ?_
    refine WL.done ?_
    refine W.condF rfl ?_
    refine W.skip ?_
    refine W.seq ?_
    refine W.region ?_
    refine WL.fieldA (off := 0) Try.fla25_0 rfl rfl ?_
    refine WL.load Try.underlying4 rfl rfl (hVg11.vcells 0 _ rfl) rfl ?_
    refine WL.move rfl rfl ?_
    refine WL.lit1 (b := w24.heap.size) Try.underlying23 Try.el48 rfl rfl rfl rfl (by intro v hv; simp only [List.mem_cons, List.not_mem_nil, or_false] at hv; rcases hv with rfl <;> rfl) (Nat.le_refl _) rfl ?_
    rintro A33 w34 - hO35 hGw34
    have hO35 := hO35.low (b' := w.heap.size) hB.size
    have hB := ext_trans hB hGw34
    have hVg13 := hVg13.ext hGw34
    have hdq := hdq.ext hGw34
    change Own _ _ _ _ _ _ _ (us [1]) at hO35
    refine WL.call Try.func33 rfl Try.nm33 rfl rfl (rMake_c hdq.rd hO35.rd (digs_lim _) (by intro x hx; simp only [List.mem_cons, List.not_mem_nil, or_false] at hx; omega) (by omega) (by omega) ((fl qa : Int) : Rat) (by simp only [nv_digs, nv_one] at *; first | (rw [show qneg qa = false by assumption]; exact fl_pos (by assumption)) | (rw [show qneg qa = true by assumption]; first | exact fl_neg_ne (by assumption) (fun h9 => by have := rdigs_len0.2 h9; omega) | exact fl_neg_eq (by assumption) (rdigs_len0.1 (by omega))))) ?_
    rintro _ w36 ⟨A37, m38, c39, A40, m41, c42, rfl, hGw36, hrn, hrd, hrm⟩
    have hap_hrn_g13 := ap_new hrn (hVg13.bl_ge _ rfl).2
    have hap_hrd_g13 := ap_new hrd (hVg13.bl_ge _ rfl).2
    have hrn := hrn.low (b' := w.heap.size) hB.size
    have hrd := hrd.low (b' := w.heap.size) hB.size
    have hB := ext_trans hB hGw36
    have hVg13 := hVg13.ext hGw36
    have hrn_l := hrn.rd.ulen
    have hrd_l := hrd.rd.ulen
    refine WL.storeV Try.el25 rfl rfl rfl rfl hVg13 ?_
    have hOld44 := hVg13
    intro w43 hVg13 hGw43
    change Own _ _ _ _ _ _ _ [.bool (qneg (((fl qa : Int) : Rat))), .slice A37 m38 c39, .slice A40 m41 c42] at hVg13
    have hB := ext_own hB hGw43 (fun g hg => (hOld44.bl_ge g hg).1)
    have hrn := hrn.grown hGw43 (ap_row hap_hrn_g13)
    have hrd := hrd.grown hGw43 (ap_row hap_hrd_g13)
    refine WL.done ?_
    refine W.ret ?_
    refine ⟨[.agg #[.bool (qneg (((fl qa : Int) : Rat))), .slice A37 m38 c39, .slice A40 m41 c42]], ⟨_, _, _, rfl, rfl, run_loadV (cs := [.bool (qneg (((fl qa : Int) : Rat))), .slice A37 m38 c39, .slice A40 m41 c42]) Try.el25 Try.agg25 rfl hVg13.vcells, rfl⟩, ?_⟩
    exact ⟨_, _, _, _, _, _, rfl, hB, hrn, hrd, by omega⟩
  · refine WL.take rfl ?_
    refine WL.move rfl rfl ?_
    refine WL.take rfl ?_
    refine WL.len Try.underlying23 rfl rfl ?_
    refine WL.take rfl ?_
    refine WL.gtr rfl rfl rfl (fun c45 => ?_) (fun c45 => ?_)
    · refine WL.pick rfl rfl rfl ?_
      refine WL.done ?_
      refine W.condT rfl ?_
      refine W.region ?_
      refine WL.move rfl rfl ?_
      refine WL.lit1 (b := w24.heap.size) Try.underlying23 Try.el48 rfl rfl rfl rfl (by intro v hv; simp only [List.mem_cons, List.not_mem_nil, or_false] at hv; rcases hv with rfl <;> rfl) (Nat.le_refl _) rfl ?_
      rintro A46 w47 - hO48 hGw47
      have hO48 := hO48.low (b' := w.heap.size) hB.size
      have hB := ext_trans hB hGw47
      have hVg13 := hVg13.ext hGw47
      have hVg11 := hVg11.ext hGw47
      have hdq := hdq.ext hGw47
      change Own _ _ _ _ _ _ _ (us [1]) at hO48
      refine WL.call Try.func32 rfl Try.nm32 rfl rfl (rAdd_c hdq.rd hO48.rd (digs_lim _) (by intro x hx; simp only [List.mem_cons, List.not_mem_nil, or_false] at hx; omega) (by omega) (by omega)) ?_
      rintro _ w49 ⟨A50, m51, c52, rfl, hGw49, ha_, ha_m⟩
      have ha_ := ha_.low (b' := w.heap.size) hB.size
      have hB := ext_trans hB hGw49
      have hVg13 := hVg13.ext hGw49
      have hVg11 := hVg11.ext hGw49
      have ha__l := ha_.rd.ulen
      refine WL.assign rfl rfl ?_
      refine WL.done ?_
      refine W.seq ?_
      refine W.region ?_
      refine WL.fieldA (off := 0) Try.fla25_0 rfl rfl ?_
      refine WL.load Try.underlying4 rfl rfl (hVg11.vcells 0 _ rfl) rfl ?_
      refine WL.move rfl rfl ?_
      refine WL.lit1 (b := w49.heap.size) Try.underlying23 Try.el48 rfl rfl rfl rfl (by intro v hv; simp only [List.mem_cons, List.not_mem_nil, or_false] at hv; rcases hv with rfl <;> rfl) (Nat.le_refl _) rfl ?_
      rintro A53 w54 - hO55 hGw54
      have hO55 := hO55.low (b' := w.heap.size) hB.size
      have hB := ext_trans hB hGw54
      have hVg13 := hVg13.ext hGw54
      have ha_ := ha_.ext hGw54
      change Own _ _ _ _ _ _ _ (us [1]) at hO55
      refine WL.call Try.func33 rfl Try.nm33 rfl rfl (rMake_c ha_.rd hO55.rd (digs_lim _) (by intro x hx; simp only [List.mem_cons, List.not_mem_nil, or_false] at hx; omega) (by omega) (by omega) ((fl qa : Int) : Rat) (by simp only [nv_digs, nv_one] at *; first | (rw [show qneg qa = false by assumption]; exact fl_pos (by assumption)) | (rw [show qneg qa = true by assumption]; first | exact fl_neg_ne (by assumption) (fun h9 => by have := rdigs_len0.2 h9; omega) | exact fl_neg_eq (by assumption) (rdigs_len0.1 (by omega))))) ?_
      rintro _ w56 ⟨A57, m58, c59, A60, m61, c62, rfl, hGw56, hrn, hrd, hrm⟩
      have hap_hrn_g13 := ap_new hrn (hVg13.bl_ge _ rfl).2
      have hap_hrd_g13 := ap_new hrd (hVg13.bl_ge _ rfl).2
      have hrn := hrn.low (b' := w.heap.size) hB.size
      have hrd := hrd.low (b' := w.heap.size) hB.size
      have hB := ext_trans hB hGw56
      have hVg13 := hVg13.ext hGw56
      have hrn_l := hrn.rd.ulen
      have hrd_l := hrd.rd.ulen
      refine WL.storeV Try.el25 rfl rfl rfl rfl hVg13 ?_
      have hOld64 := hVg13
      intro w63 hVg13 hGw63
      change Own _ _ _ _ _ _ _ [.bool (qneg (((fl qa : Int) : Rat))), .slice A57 m58 c59, .slice A60 m61 c62] at hVg13
      have hB := ext_own hB hGw63 (fun g hg => (hOld64.bl_ge g hg).1)
      have hrn := hrn.grown hGw63 (ap_row hap_hrn_g13)
      have hrd := hrd.grown hGw63 (ap_row hap_hrd_g13)
      refine WL.done ?_
      refine W.ret ?_
      refine ⟨[.agg #[.bool (qneg (((fl qa : Int) : Rat))), .slice A57 m58 c59, .slice A60 m61 c62]], ⟨_, _, _, rfl, rfl, run_loadV (cs := [.bool (qneg (((fl qa : Int) : Rat))), .slice A57 m58 c59, .slice A60 m61 c62]) Try.el25 Try.agg25 rfl hVg13.vcells, rfl⟩, ?_⟩
      exact ⟨_, _, _, _, _, _, rfl, hB, hrn, hrd, by omega⟩
    · refine WL.pick rfl rfl rfl ?_
      refine WL.done ?_
      refine W.condF rfl ?_
      refine W.skip ?_
      refine W.seq ?_
      refine W.region ?_
      refine WL.fieldA (off := 0) Try.fla25_0 rfl rfl ?_
      refine WL.load Try.underlying4 rfl rfl (hVg11.vcells 0 _ rfl) rfl ?_
      refine WL.move rfl rfl ?_
      refine WL.lit1 (b := w24.heap.size) Try.underlying23 Try.el48 rfl rfl rfl rfl (by intro v hv; simp only [List.mem_cons, List.not_mem_nil, or_false] at hv; rcases hv with rfl <;> rfl) (Nat.le_refl _) rfl ?_
      rintro A65 w66 - hO67 hGw66
      have hO67 := hO67.low (b' := w.heap.size) hB.size
      have hB := ext_trans hB hGw66
      have hVg13 := hVg13.ext hGw66
      have hdq := hdq.ext hGw66
      change Own _ _ _ _ _ _ _ (us [1]) at hO67
      refine WL.call Try.func33 rfl Try.nm33 rfl rfl (rMake_c hdq.rd hO67.rd (digs_lim _) (by intro x hx; simp only [List.mem_cons, List.not_mem_nil, or_false] at hx; omega) (by omega) (by omega) ((fl qa : Int) : Rat) (by simp only [nv_digs, nv_one] at *; first | (rw [show qneg qa = false by assumption]; exact fl_pos (by assumption)) | (rw [show qneg qa = true by assumption]; first | exact fl_neg_ne (by assumption) (fun h9 => by have := rdigs_len0.2 h9; omega) | exact fl_neg_eq (by assumption) (rdigs_len0.1 (by omega))))) ?_
      rintro _ w68 ⟨A69, m70, c71, A72, m73, c74, rfl, hGw68, hrn, hrd, hrm⟩
      have hap_hrn_g13 := ap_new hrn (hVg13.bl_ge _ rfl).2
      have hap_hrd_g13 := ap_new hrd (hVg13.bl_ge _ rfl).2
      have hrn := hrn.low (b' := w.heap.size) hB.size
      have hrd := hrd.low (b' := w.heap.size) hB.size
      have hB := ext_trans hB hGw68
      have hVg13 := hVg13.ext hGw68
      have hrn_l := hrn.rd.ulen
      have hrd_l := hrd.rd.ulen
      refine WL.storeV Try.el25 rfl rfl rfl rfl hVg13 ?_
      have hOld76 := hVg13
      intro w75 hVg13 hGw75
      change Own _ _ _ _ _ _ _ [.bool (qneg (((fl qa : Int) : Rat))), .slice A69 m70 c71, .slice A72 m73 c74] at hVg13
      have hB := ext_own hB hGw75 (fun g hg => (hOld76.bl_ge g hg).1)
      have hrn := hrn.grown hGw75 (ap_row hap_hrn_g13)
      have hrd := hrd.grown hGw75 (ap_row hap_hrd_g13)
      refine WL.done ?_
      refine W.ret ?_
      refine ⟨[.agg #[.bool (qneg (((fl qa : Int) : Rat))), .slice A69 m70 c71, .slice A72 m73 c74]], ⟨_, _, _, rfl, rfl, run_loadV (cs := [.bool (qneg (((fl qa : Int) : Rat))), .slice A69 m70 c71, .slice A72 m73 c74]) Try.el25 Try.agg25 rfl hVg13.vcells, rfl⟩, ?_⟩
      exact ⟨_, _, _, _, _, _, rfl, hB, hrn, hrd, by omega⟩
end Go.Proofs.Ythfpcebcfjlkmac
set_option linter.unusedSimpArgs false
set_option linter.unusedVariables false
namespace Go.Proofs.Ythfpcebcfjlkmac
open Go.RowKit
theorem qAdd0_c {w : World} : Calls Try.prog 14 #[.slice none 0 0] w fun e w2 => ∃ v, e = .returned v ∧ (fun v w2 => ∃ A2 m2 c2 A3 m3 c3, v = .agg #[.bool (qneg (0)), .slice A2 m2 c2, .slice A3 m3 c3] ∧ w.grownBy w2 none ∧ Own w.heap.size w2 48 1 A2 m2 c2 (us (digs (qnum (0)))) ∧ Own w.heap.size w2 48 1 A3 m3 c3 (us (digs (Rat.den (0)))) ∧ m2 ≤ fb 4 0 ∧ m3 ≤ fb 4 0) v w2 :=
  qAdd_c (Rd.nil (B := w.heap.size) (by simp [maxLen])) (RatsR.nil w.heap.size w) RLim.nil 4 (RLen.nil _) (by decide)

theorem qMul0_c {w : World} : Calls Try.prog 20 #[.slice none 0 0] w fun e w2 => ∃ v, e = .returned v ∧ (fun v w2 => ∃ A2 m2 c2 A3 m3 c3, v = .agg #[.bool (qneg (1)), .slice A2 m2 c2, .slice A3 m3 c3] ∧ w.grownBy w2 none ∧ Own w.heap.size w2 48 1 A2 m2 c2 (us (digs (qnum (1)))) ∧ Own w.heap.size w2 48 1 A3 m3 c3 (us (digs (Rat.den (1)))) ∧ m2 ≤ fb 4 0 ∧ m3 ≤ fb 4 0) v w2 :=
  qMul_c (Rd.nil (B := w.heap.size) (by simp [maxLen])) (RatsR.nil w.heap.size w) RLim.nil 4 (RLen.nil _) (by decide)

theorem rlen_of {K : Nat} {rs : List Fr3} (h : ∀ j, j < rs.length → (rs.getD j fr0).2.1.length + (rs.getD j fr0).2.2.length ≤ K) : RLen K rs := fun j hj => by have := h j hj; omega
theorem rlen_sz {rs : List Fr3} (h : ∀ j, j < rs.length → (rs.getD j fr0).2.1.length * 4 ≤ 140737488351232 ∧ (rs.getD j fr0).2.2.length * 4 ≤ 140737488351232) : RLen 140737488355328 rs := fun j hj => by have := h j hj; omega
theorem fb16 {n : Nat} (h : n ≤ 16) : fb 4 n ≤ 91 := Nat.le_trans (fb_mono h) (by decide)
end Go.Proofs.Ythfpcebcfjlkmac
