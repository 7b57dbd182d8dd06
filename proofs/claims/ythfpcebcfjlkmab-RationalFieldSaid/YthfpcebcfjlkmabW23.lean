/- Contracts of functions of the program, and what they lean on. -/
import Derived.Test.YthfpcebcfjlkmabW22
set_option linter.unusedSimpArgs false
set_option linter.unusedVariables false
namespace Go.Proofs.Ythfpcebcfjlkmab
open Go.RowKit
set_option maxHeartbeats 4000000 in
theorem RationalField_c {w : World} {Ban : Nat} {Aan : Option Addr} {man can : Nat} {xan : List Nat} (han : Rd Ban w 1 Aan man can (us xan)) {Bad : Nat} {Aad : Option Addr} {mad cad : Nat} {xad : List Nat} (had : Rd Bad w 1 Aad mad cad (us xad)) {Bbn : Nat} {Abn : Option Addr} {mbn cbn : Nat} {xbn : List Nat} (hbn : Rd Bbn w 1 Abn mbn cbn (us xbn)) {Bbd : Nat} {Abd : Option Addr} {mbd cbd : Nat} {xbd : List Nat} (hbd : Rd Bbd w 1 Abd mbd cbd (us xbd)) {Bcn : Nat} {Acn : Option Addr} {mcn ccn : Nat} {xcn : List Nat} (hcn : Rd Bcn w 1 Acn mcn ccn (us xcn)) {Bcd : Nat} {Acd : Option Addr} {mcd ccd : Nat} {xcd : List Nat} (hcd : Rd Bcd w 1 Acd mcd ccd (us xcd)) {na : Bool} (hLan : Lim xan) (hLad : Lim xad) (hza : man * 4 ≤ 140737488351232 ∧ mad * 4 ≤ 140737488351232) {nb : Bool} (hLbn : Lim xbn) (hLbd : Lim xbd) (hzb : mbn * 4 ≤ 140737488351232 ∧ mbd * 4 ≤ 140737488351232) {nc : Bool} (hLcn : Lim xcn) (hLcd : Lim xcd) (hzc : mcn * 4 ≤ 140737488351232 ∧ mcd * 4 ≤ 140737488351232) :
    Calls Try.prog 8 #[.agg #[.bool na, .slice Aan man can, .slice Aad mad cad], .agg #[.bool nb, .slice Abn mbn cbn, .slice Abd mbd cbd], .agg #[.bool nc, .slice Acn mcn ccn, .slice Acd mcd ccd]] w fun e w2 => ∃ v, e = .returned v ∧ (fun v w2 => v = .bool true ∧ w.grownBy w2 none) v w2 := by
  have han := han.norm
  have han_l := han.ulen
  have han_x := han.max
  simp only [maxLen] at han_x
  have han_c := han.cap
  have had := had.norm
  have had_l := had.ulen
  have had_x := had.max
  simp only [maxLen] at had_x
  have had_c := had.cap
  have hbn := hbn.norm
  have hbn_l := hbn.ulen
  have hbn_x := hbn.max
  simp only [maxLen] at hbn_x
  have hbn_c := hbn.cap
  have hbd := hbd.norm
  have hbd_l := hbd.ulen
  have hbd_x := hbd.max
  simp only [maxLen] at hbd_x
  have hbd_c := hbd.cap
  have hcn := hcn.norm
  have hcn_l := hcn.ulen
  have hcn_x := hcn.max
  simp only [maxLen] at hcn_x
  have hcn_c := hcn.cap
  have hcd := hcd.norm
  have hcd_l := hcd.ulen
  have hcd_x := hcd.max
  simp only [maxLen] at hcd_x
  have hcd_c := hcd.cap
  have han0 := han
  have had0 := had
  have hbn0 := hbn
  have hbd0 := hbd
  have hcn0 := hcn
  have hcd0 := hcd
  obtain ⟨qa, hqa⟩ : ∃ q, val na (nv xan) (nv xad) = q := ⟨_, rfl⟩
  obtain ⟨qb, hqb⟩ : ∃ q, val nb (nv xbn) (nv xbd) = q := ⟨_, rfl⟩
  obtain ⟨qc, hqc⟩ : ∃ q, val nc (nv xcn) (nv xcd) = q := ⟨_, rfl⟩
  have hB := ext_refl w
  refine calls_of_W (vs := [.agg #[.bool na, .slice Aan man can, .slice Aad mad cad], .agg #[.bool nb, .slice Abn mbn cbn, .slice Abd mbd cbd], .agg #[.bool nc, .slice Acn mcn ccn, .slice Acd mcd ccd]]) [6] Try.func8 rfl rfl rfl rfl ?_
  refine W.seq ?_
  refine W.region ?_
  refine WL.box Try.el31 rfl rfl rfl ?_
  intro g11 w12 hg_g11 hVg11 hGw12
  change Own _ _ _ _ _ _ _ [.bool na, .slice Aan man can, .slice Aad mad cad] at hVg11
  have hVg11 := hVg11.low (b' := w.heap.size) hB.size
  have hB := ext_trans hB hGw12
  have han := han0.ext hB
  have had := had0.ext hB
  have hbn := hbn0.ext hB
  have hbd := hbd0.ext hB
  have hcn := hcn0.ext hB
  have hcd := hcd0.ext hB
  refine WL.box Try.el31 rfl rfl rfl ?_
  intro g13 w14 hg_g13 hVg13 hGw14
  change Own _ _ _ _ _ _ _ [.bool nb, .slice Abn mbn cbn, .slice Abd mbd cbd] at hVg13
  have hlt_g11_g13 : g11 < g13 := by rw [hg_g13]; exact (hVg11.bl_ge _ rfl).2
  have hVg13 := hVg13.low (b' := w.heap.size) hB.size
  have hB := ext_trans hB hGw14
  have han := han0.ext hB
  have had := had0.ext hB
  have hbn := hbn0.ext hB
  have hbd := hbd0.ext hB
  have hcn := hcn0.ext hB
  have hcd := hcd0.ext hB
  have hVg11 := hVg11.ext hGw14
  refine WL.box Try.el31 rfl rfl rfl ?_
  intro g15 w16 hg_g15 hVg15 hGw16
  change Own _ _ _ _ _ _ _ [.bool nc, .slice Acn mcn ccn, .slice Acd mcd ccd] at hVg15
  have hlt_g11_g15 : g11 < g15 := by rw [hg_g15]; exact (hVg11.bl_ge _ rfl).2
  have hlt_g13_g15 : g13 < g15 := by rw [hg_g15]; exact (hVg13.bl_ge _ rfl).2
  have hVg15 := hVg15.low (b' := w.heap.size) hB.size
  have hB := ext_trans hB hGw16
  have han := han0.ext hB
  have had := had0.ext hB
  have hbn := hbn0.ext hB
  have hbd := hbd0.ext hB
  have hcn := hcn0.ext hB
  have hcd := hcd0.ext hB
  have hVg11 := hVg11.ext hGw16
  have hVg13 := hVg13.ext hGw16
  refine WL.assign rfl rfl ?_
  refine WL.done ?_
  refine W.seq ?_
  refine W.seq ?_
  refine W.region ?_
  refine WL.loadV (cs := [.bool na, .slice Aan man can, .slice Aad mad cad]) Try.el31 Try.agg31 rfl rfl hVg11.vcells rfl ?_
  refine WL.loadV (cs := [.bool nb, .slice Abn mbn cbn, .slice Abd mbd cbd]) Try.el31 Try.agg31 rfl rfl hVg13.vcells rfl ?_
  refine WL.loadV (cs := [.bool nc, .slice Acn mcn ccn, .slice Acd mcd ccd]) Try.el31 Try.agg31 rfl rfl hVg15.vcells rfl ?_
  refine WL.lit (b := w16.heap.size) (cells := [.bool na, .slice Aan man can, .slice Aad mad cad, .bool nb, .slice Abn mbn cbn, .slice Abd mbd cbd, .bool nc, .slice Acn mcn ccn, .slice Acd mcd ccd]) Try.underlying44 Try.el31 (by decide) ⟨_, rfl, by kernel_rfl⟩ rfl (Nat.le_refl _) rfl ?_
  rintro A17 w18 - hO19 hGw18
  have hO19 := hO19.low (b' := w.heap.size) hB.size
  have hB := ext_trans hB hGw18
  have han := han0.ext hB
  have had := had0.ext hB
  have hbn := hbn0.ext hB
  have hbd := hbd0.ext hB
  have hcn := hcn0.ext hB
  have hcd := hcd0.ext hB
  have hVg11 := hVg11.ext hGw18
  have hVg13 := hVg13.ext hGw18
  have hVg15 := hVg15.ext hGw18
  have hN20 : RatsR w18.heap.size w18 [.bool na, .slice Aan man can, .slice Aad mad cad, .bool nb, .slice Abn mbn cbn, .slice Abd mbd cbd, .bool nc, .slice Acn mcn ccn, .slice Acd mcd ccd] [(na, xan, xad), (nb, xbn, xbd), (nc, xcn, xcd)] := (RatsR.cons han.norm had.norm (RatsR.cons hbn.norm hbd.norm (RatsR.cons hcn.norm hcd.norm (RatsR.nil _ _))))
  refine WL.call Try.func17 rfl Try.nm17 rfl rfl (long_c hO19.rd hN20 rfl (RLen.cons (by first | omega | (simp; done) | (simp; omega)) (by first | omega | (simp; done) | (simp; omega)) (RLen.cons (by first | omega | (simp; done) | (simp; omega)) (by first | omega | (simp; done) | (simp; omega)) (RLen.cons (by first | omega | (simp; done) | (simp; omega)) (by first | omega | (simp; done) | (simp; omega)) (RLen.nil _))))) ?_
  rintro _ w21 ⟨bhlo, rfl, hGw21, hlo_t, hlo_f⟩
  have hB := ext_trans hB hGw21
  have han := han0.ext hB
  have had := had0.ext hB
  have hbn := hbn0.ext hB
  have hbd := hbd0.ext hB
  have hcn := hcn0.ext hB
  have hcd := hcd0.ext hB
  have hVg11 := hVg11.ext hGw21
  have hVg13 := hVg13.ext hGw21
  have hVg15 := hVg15.ext hGw21
  rcases bhlo with _ | _
  · have hlo := hlo_f rfl
    have hla : xan.length + xad.length ≤ 12 := hlo 0 (by simp)
    have hlb : xbn.length + xbd.length ≤ 12 := hlo 1 (by simp)
    have hlc : xcn.length + xcd.length ≤ 12 := hlo 2 (by simp)
    refine WL.done ?_
    refine W.condF rfl ?_
    refine W.skip ?_
    refine W.seq ?_
    refine W.region ?_
    refine WL.lit1 (b := w21.heap.size) Try.underlying23 Try.el43 rfl rfl rfl rfl (by intro v hv; simp only [List.mem_cons, List.not_mem_nil, or_false] at hv; rcases hv with rfl <;> rfl) (Nat.le_refl _) rfl ?_
    rintro A22 w23 - hO24 hGw23
    have hO24 := hO24.low (b' := w.heap.size) hB.size
    have hB := ext_trans hB hGw23
    have han := han0.ext hB
    have had := had0.ext hB
    have hbn := hbn0.ext hB
    have hbd := hbd0.ext hB
    have hcn := hcn0.ext hB
    have hcd := hcd0.ext hB
    have hVg11 := hVg11.ext hGw23
    have hVg13 := hVg13.ext hGw23
    have hVg15 := hVg15.ext hGw23
    change Own _ _ _ _ _ _ _ (us [1]) at hO24
    refine WL.lit1 (b := w23.heap.size) Try.underlying23 Try.el43 rfl rfl rfl rfl (by intro v hv; simp only [List.mem_cons, List.not_mem_nil, or_false] at hv; rcases hv with rfl <;> rfl) (Nat.le_refl _) rfl ?_
    rintro A25 w26 - hO27 hGw26
    have hO27 := hO27.low (b' := w.heap.size) hB.size
    have hB := ext_trans hB hGw26
    have han := han0.ext hB
    have had := had0.ext hB
    have hbn := hbn0.ext hB
    have hbd := hbd0.ext hB
    have hcn := hcn0.ext hB
    have hcd := hcd0.ext hB
    have hVg11 := hVg11.ext hGw26
    have hVg13 := hVg13.ext hGw26
    have hVg15 := hVg15.ext hGw26
    have hO24 := hO24.ext hGw26
    change Own _ _ _ _ _ _ _ (us [2]) at hO27
    refine WL.build (cells := #[.bool false, .slice A22 1 1, .slice A25 1 1]) Try.bld31 rfl rfl rfl ?_
    refine WL.alloc Try.el31 rfl ?_
    intro g28 w29 hg_g28 hVg28 hGw29
    change Own _ _ _ _ _ _ _ [.bool false, .slice none 0 0, .slice none 0 0] at hVg28
    have hlt_g11_g28 : g11 < g28 := by rw [hg_g28]; exact (hVg11.bl_ge _ rfl).2
    have hlt_g13_g28 : g13 < g28 := by rw [hg_g28]; exact (hVg13.bl_ge _ rfl).2
    have hlt_g15_g28 : g15 < g28 := by rw [hg_g28]; exact (hVg15.bl_ge _ rfl).2
    have hap_hO24_g28 := ap_old hO24 hg_g28
    have hap_hO27_g28 := ap_old hO27 hg_g28
    have hVg28 := hVg28.low (b' := w.heap.size) hB.size
    have hB := ext_trans hB hGw29
    have han := han0.ext hB
    have had := had0.ext hB
    have hbn := hbn0.ext hB
    have hbd := hbd0.ext hB
    have hcn := hcn0.ext hB
    have hcd := hcd0.ext hB
    have hVg11 := hVg11.ext hGw29
    have hVg13 := hVg13.ext hGw29
    have hVg15 := hVg15.ext hGw29
    have hO24 := hO24.ext hGw29
    have hO27 := hO27.ext hGw29
    refine WL.storeV Try.el31 rfl rfl rfl rfl hVg28 ?_
    have hOld31 := hVg28
    intro w30 hVg28 hGw30
    change Own _ _ _ _ _ _ _ [.bool false, .slice A22 1 1, .slice A25 1 1] at hVg28
    have hB := ext_own hB hGw30 (fun g hg => (hOld31.bl_ge g hg).1)
    have han := han0.ext hB
    have had := had0.ext hB
    have hbn := hbn0.ext hB
    have hbd := hbd0.ext hB
    have hcn := hcn0.ext hB
    have hcd := hcd0.ext hB
    have hVg11 := hVg11.grown hGw30 (apart (by omega))
    have hVg13 := hVg13.grown hGw30 (apart (by omega))
    have hVg15 := hVg15.grown hGw30 (apart (by omega))
    have hO24 := hO24.grown hGw30 (ap_row hap_hO24_g28)
    have hO27 := hO27.grown hGw30 (ap_row hap_hO27_g28)
    refine WL.done ?_
    refine W.seq ?_
    refine W.seq ?_
    refine W.draw [⟨[], [7], false⟩, ⟨[], [7], false⟩, ⟨[0, 1], [], false⟩, ⟨[2], [], false⟩, ⟨[], [], false⟩, ⟨[], [], false⟩, ⟨[4, 5], [], true⟩, ⟨[3, 6], [], false⟩, ⟨[7], [], true⟩, ⟨[8], [], true⟩, ⟨[9], [3], false⟩, ⟨[9], [4], false⟩, ⟨[9, 10, 11], [], false⟩, ⟨[9, 12], [], false⟩, ⟨[9], [4], false⟩, ⟨[9], [3], false⟩, ⟨[9, 14, 15], [], false⟩, ⟨[9, 16], [], false⟩, ⟨[9, 13, 17], [], false⟩, ⟨[9, 18], [], true⟩, ⟨[9, 19], [], true⟩, ⟨[20], [], true⟩, ⟨[21], [3], false⟩, ⟨[21], [4], false⟩, ⟨[21, 22, 23], [], false⟩, ⟨[21, 24], [], false⟩, ⟨[21], [4], false⟩, ⟨[21], [3], false⟩, ⟨[21, 26, 27], [], false⟩, ⟨[21, 28], [], false⟩, ⟨[21, 25, 29], [], false⟩, ⟨[21, 30], [], true⟩, ⟨[21, 31], [], true⟩] [[(7, .pointer (some ⟨g28, 0, none⟩))], [(7, .pointer (some ⟨g28, 0, none⟩))], [], [], [], [], [], [], [], [], [(3, .pointer (some ⟨g11, 0, none⟩))], [(4, .pointer (some ⟨g13, 0, none⟩))], [], [], [(4, .pointer (some ⟨g13, 0, none⟩))], [(3, .pointer (some ⟨g11, 0, none⟩))], [], [], [], [], [], [], [(3, .pointer (some ⟨g11, 0, none⟩))], [(4, .pointer (some ⟨g13, 0, none⟩))], [], [], [(4, .pointer (some ⟨g13, 0, none⟩))], [(3, .pointer (some ⟨g11, 0, none⟩))], [], [], [], [], []] (fun iQ => [fun v wQ => v = .agg #[.bool false, .slice A22 1 1, .slice A25 1 1], fun v wQ => v = .agg #[.bool false, .slice A22 1 1, .slice A25 1 1], fun v wQ => ∃ A35, v = .slice A35 2 2 ∧ (Own w.heap.size wQ 31 3 A35 2 2 [.bool false, .slice A22 1 1, .slice A25 1 1, .bool false, .slice A22 1 1, .slice A25 1 1]) ∧ (RatsR wQ.heap.size wQ [.bool false, .slice A22 1 1, .slice A25 1 1, .bool false, .slice A22 1 1, .slice A25 1 1] [(false, [1], [2]), (false, [1], [2])]) ∧ (∀ k, bl A35 = some k → k ≠ g11) ∧ (∀ k, bl A35 = some k → k ≠ g13) ∧ (∀ k, bl A35 = some k → k ≠ g15) ∧ (∀ k, bl A35 = some k → k ≠ g28), fun v wQ => ∃ A41 m42 c43 A44 m45 c46, v = .agg #[.bool (qneg ((val false (nv ([1])) (nv ([2]))) + (val false (nv ([1])) (nv ([2]))))), .slice A41 m42 c43, .slice A44 m45 c46] ∧ (Own w.heap.size wQ 43 1 A41 m42 c43 (us (digs (qnum ((val false (nv ([1])) (nv ([2]))) + (val false (nv ([1])) (nv ([2])))))))) ∧ (Own w.heap.size wQ 43 1 A44 m45 c46 (us (digs (Rat.den ((val false (nv ([1])) (nv ([2]))) + (val false (nv ([1])) (nv ([2])))))))) ∧ (m42 ≤ 53 ∧ m45 ≤ 53) ∧ (∀ k, bl A41 = some k → k ≠ g11) ∧ (∀ k, bl A41 = some k → k ≠ g13) ∧ (∀ k, bl A41 = some k → k ≠ g15) ∧ (∀ k, bl A41 = some k → k ≠ g28) ∧ (∀ k, bl A44 = some k → k ≠ g11) ∧ (∀ k, bl A44 = some k → k ≠ g13) ∧ (∀ k, bl A44 = some k → k ≠ g15) ∧ (∀ k, bl A44 = some k → k ≠ g28), fun v wQ => ∃ A48, v = .slice A48 1 1 ∧ (Own w.heap.size wQ 43 1 A48 1 1 (us [1])) ∧ (∀ k, bl A48 = some k → k ≠ g11) ∧ (∀ k, bl A48 = some k → k ≠ g13) ∧ (∀ k, bl A48 = some k → k ≠ g15) ∧ (∀ k, bl A48 = some k → k ≠ g28), fun v wQ => ∃ A52, v = .slice A52 1 1 ∧ (Own w.heap.size wQ 43 1 A52 1 1 (us [1])) ∧ (∀ k, bl A52 = some k → k ≠ g11) ∧ (∀ k, bl A52 = some k → k ≠ g13) ∧ (∀ k, bl A52 = some k → k ≠ g15) ∧ (∀ k, bl A52 = some k → k ≠ g28), fun v wQ => ∃ A48_6 A52_6, v = .agg #[.bool false, .slice A48_6 1 1, .slice A52_6 1 1] ∧ (Own w.heap.size wQ 43 1 A48_6 1 1 (us [1])) ∧ (∀ k, bl A48_6 = some k → k ≠ g11) ∧ (∀ k, bl A48_6 = some k → k ≠ g13) ∧ (∀ k, bl A48_6 = some k → k ≠ g15) ∧ (∀ k, bl A48_6 = some k → k ≠ g28) ∧ (Own w.heap.size wQ 43 1 A52_6 1 1 (us [1])) ∧ (∀ k, bl A52_6 = some k → k ≠ g11) ∧ (∀ k, bl A52_6 = some k → k ≠ g13) ∧ (∀ k, bl A52_6 = some k → k ≠ g15) ∧ (∀ k, bl A52_6 = some k → k ≠ g28), fun v wQ => v = .bool true, fun v wQ => v = .bool false, fun v wQ => v = .bool false, fun v wQ => v = .agg #[.bool na, .slice Aan man can, .slice Aad mad cad], fun v wQ => v = .agg #[.bool nb, .slice Abn mbn cbn, .slice Abd mbd cbd], fun v wQ => ∃ A63, v = .slice A63 2 2 ∧ (Own w.heap.size wQ 31 3 A63 2 2 [.bool na, .slice Aan man can, .slice Aad mad cad, .bool nb, .slice Abn mbn cbn, .slice Abd mbd cbd]) ∧ (RatsR wQ.heap.size wQ [.bool na, .slice Aan man can, .slice Aad mad cad, .bool nb, .slice Abn mbn cbn, .slice Abd mbd cbd] [(na, xan, xad), (nb, xbn, xbd)]) ∧ (∀ k, bl A63 = some k → k ≠ g11) ∧ (∀ k, bl A63 = some k → k ≠ g13) ∧ (∀ k, bl A63 = some k → k ≠ g15) ∧ (∀ k, bl A63 = some k → k ≠ g28), fun v wQ => ∃ A69 m70 c71 A72 m73 c74, v = .agg #[.bool (qneg (qa + qb)), .slice A69 m70 c71, .slice A72 m73 c74] ∧ (Own w.heap.size wQ 43 1 A69 m70 c71 (us (digs (qnum (qa + qb))))) ∧ (Own w.heap.size wQ 43 1 A72 m73 c74 (us (digs (Rat.den (qa + qb))))) ∧ (m70 ≤ 53 ∧ m73 ≤ 53) ∧ (∀ k, bl A69 = some k → k ≠ g11) ∧ (∀ k, bl A69 = some k → k ≠ g13) ∧ (∀ k, bl A69 = some k → k ≠ g15) ∧ (∀ k, bl A69 = some k → k ≠ g28) ∧ (∀ k, bl A72 = some k → k ≠ g11) ∧ (∀ k, bl A72 = some k → k ≠ g13) ∧ (∀ k, bl A72 = some k → k ≠ g15) ∧ (∀ k, bl A72 = some k → k ≠ g28), fun v wQ => v = .agg #[.bool nb, .slice Abn mbn cbn, .slice Abd mbd cbd], fun v wQ => v = .agg #[.bool na, .slice Aan man can, .slice Aad mad cad], fun v wQ => ∃ A78, v = .slice A78 2 2 ∧ (Own w.heap.size wQ 31 3 A78 2 2 [.bool nb, .slice Abn mbn cbn, .slice Abd mbd cbd, .bool na, .slice Aan man can, .slice Aad mad cad]) ∧ (RatsR wQ.heap.size wQ [.bool nb, .slice Abn mbn cbn, .slice Abd mbd cbd, .bool na, .slice Aan man can, .slice Aad mad cad] [(nb, xbn, xbd), (na, xan, xad)]) ∧ (∀ k, bl A78 = some k → k ≠ g11) ∧ (∀ k, bl A78 = some k → k ≠ g13) ∧ (∀ k, bl A78 = some k → k ≠ g15) ∧ (∀ k, bl A78 = some k → k ≠ g28), fun v wQ => ∃ A84 m85 c86 A87 m88 c89, v = .agg #[.bool (qneg (qb + qa)), .slice A84 m85 c86, .slice A87 m88 c89] ∧ (Own w.heap.size wQ 43 1 A84 m85 c86 (us (digs (qnum (qb + qa))))) ∧ (Own w.heap.size wQ 43 1 A87 m88 c89 (us (digs (Rat.den (qb + qa))))) ∧ (m85 ≤ 53 ∧ m88 ≤ 53) ∧ (∀ k, bl A84 = some k → k ≠ g11) ∧ (∀ k, bl A84 = some k → k ≠ g13) ∧ (∀ k, bl A84 = some k → k ≠ g15) ∧ (∀ k, bl A84 = some k → k ≠ g28) ∧ (∀ k, bl A87 = some k → k ≠ g11) ∧ (∀ k, bl A87 = some k → k ≠ g13) ∧ (∀ k, bl A87 = some k → k ≠ g15) ∧ (∀ k, bl A87 = some k → k ≠ g28), fun v wQ => v = .bool true, fun v wQ => v = .bool false, fun v wQ => v = .bool false, fun v wQ => v = .bool false, fun v wQ => v = .agg #[.bool na, .slice Aan man can, .slice Aad mad cad], fun v wQ => v = .agg #[.bool nb, .slice Abn mbn cbn, .slice Abd mbd cbd], fun v wQ => ∃ A98, v = .slice A98 2 2 ∧ (Own w.heap.size wQ 31 3 A98 2 2 [.bool na, .slice Aan man can, .slice Aad mad cad, .bool nb, .slice Abn mbn cbn, .slice Abd mbd cbd]) ∧ (RatsR wQ.heap.size wQ [.bool na, .slice Aan man can, .slice Aad mad cad, .bool nb, .slice Abn mbn cbn, .slice Abd mbd cbd] [(na, xan, xad), (nb, xbn, xbd)]) ∧ (∀ k, bl A98 = some k → k ≠ g11) ∧ (∀ k, bl A98 = some k → k ≠ g13) ∧ (∀ k, bl A98 = some k → k ≠ g15) ∧ (∀ k, bl A98 = some k → k ≠ g28), fun v wQ => ∃ A104 m105 c106 A107 m108 c109, v = .agg #[.bool (qneg (qa * qb)), .slice A104 m105 c106, .slice A107 m108 c109] ∧ (Own w.heap.size wQ 43 1 A104 m105 c106 (us (digs (qnum (qa * qb))))) ∧ (Own w.heap.size wQ 43 1 A107 m108 c109 (us (digs (Rat.den (qa * qb))))) ∧ (m105 ≤ 53 ∧ m108 ≤ 53) ∧ (∀ k, bl A104 = some k → k ≠ g11) ∧ (∀ k, bl A104 = some k → k ≠ g13) ∧ (∀ k, bl A104 = some k → k ≠ g15) ∧ (∀ k, bl A104 = some k → k ≠ g28) ∧ (∀ k, bl A107 = some k → k ≠ g11) ∧ (∀ k, bl A107 = some k → k ≠ g13) ∧ (∀ k, bl A107 = some k → k ≠ g15) ∧ (∀ k, bl A107 = some k → k ≠ g28), fun v wQ => v = .agg #[.bool nb, .slice Abn mbn cbn, .slice Abd mbd cbd], fun v wQ => v = .agg #[.bool na, .slice Aan man can, .slice Aad mad cad], fun v wQ => ∃ A113, v = .slice A113 2 2 ∧ (Own w.heap.size wQ 31 3 A113 2 2 [.bool nb, .slice Abn mbn cbn, .slice Abd mbd cbd, .bool na, .slice Aan man can, .slice Aad mad cad]) ∧ (RatsR wQ.heap.size wQ [.bool nb, .slice Abn mbn cbn, .slice Abd mbd cbd, .bool na, .slice Aan man can, .slice Aad mad cad] [(nb, xbn, xbd), (na, xan, xad)]) ∧ (∀ k, bl A113 = some k → k ≠ g11) ∧ (∀ k, bl A113 = some k → k ≠ g13) ∧ (∀ k, bl A113 = some k → k ≠ g15) ∧ (∀ k, bl A113 = some k → k ≠ g28), fun v wQ => ∃ A119 m120 c121 A122 m123 c124, v = .agg #[.bool (qneg (qb * qa)), .slice A119 m120 c121, .slice A122 m123 c124] ∧ (Own w.heap.size wQ 43 1 A119 m120 c121 (us (digs (qnum (qb * qa))))) ∧ (Own w.heap.size wQ 43 1 A122 m123 c124 (us (digs (Rat.den (qb * qa))))) ∧ (m120 ≤ 53 ∧ m123 ≤ 53) ∧ (∀ k, bl A119 = some k → k ≠ g11) ∧ (∀ k, bl A119 = some k → k ≠ g13) ∧ (∀ k, bl A119 = some k → k ≠ g15) ∧ (∀ k, bl A119 = some k → k ≠ g28) ∧ (∀ k, bl A122 = some k → k ≠ g11) ∧ (∀ k, bl A122 = some k → k ≠ g13) ∧ (∀ k, bl A122 = some k → k ≠ g15) ∧ (∀ k, bl A122 = some k → k ≠ g28), fun v wQ => v = .bool true, fun v wQ => v = .bool false, fun v wQ => v = .bool false].getD iQ (fun _ _ => True)) (fun _ => True) 33 Try.mixed (by kernel_rfl) ?_ ?_ ?_
    · refine Vs_mono _ ?_
      intro VQ hVQ vQ wQ1 wQ2 hQ1 hQ2
      have hQ2 := hQ2.resolve_right (by decide)
      simp only [List.mem_cons, List.not_mem_nil, or_false] at hVQ
      rcases hVQ with rfl | rfl | rfl | rfl | rfl | rfl | rfl | rfl | rfl | rfl | rfl | rfl | rfl | rfl | rfl | rfl | rfl | rfl | rfl | rfl | rfl | rfl | rfl | rfl | rfl | rfl | rfl | rfl | rfl | rfl | rfl | rfl | rfl
      · exact hQ1
      · exact hQ1
      · obtain ⟨A35, hQe, hO37, hN38, hap_hO37_g11, hap_hO37_g13, hap_hO37_g15, hap_hO37_g28⟩ := hQ1
        exact ⟨A35, hQe, hO37.ext hQ2, (hN38.ext hQ2).norm, hap_hO37_g11, hap_hO37_g13, hap_hO37_g15, hap_hO37_g28⟩
      · obtain ⟨A41, m42, c43, A44, m45, c46, hQe, h1n, h1d, h1m, hap_h1n_g11, hap_h1n_g13, hap_h1n_g15, hap_h1n_g28, hap_h1d_g11, hap_h1d_g13, hap_h1d_g15, hap_h1d_g28⟩ := hQ1
        exact ⟨A41, m42, c43, A44, m45, c46, hQe, h1n.ext hQ2, h1d.ext hQ2, h1m, hap_h1n_g11, hap_h1n_g13, hap_h1n_g15, hap_h1n_g28, hap_h1d_g11, hap_h1d_g13, hap_h1d_g15, hap_h1d_g28⟩
      · obtain ⟨A48, hQe, hO50, hap_hO50_g11, hap_hO50_g13, hap_hO50_g15, hap_hO50_g28⟩ := hQ1
        exact ⟨A48, hQe, hO50.ext hQ2, hap_hO50_g11, hap_hO50_g13, hap_hO50_g15, hap_hO50_g28⟩
      · obtain ⟨A52, hQe, hO54, hap_hO54_g11, hap_hO54_g13, hap_hO54_g15, hap_hO54_g28⟩ := hQ1
        exact ⟨A52, hQe, hO54.ext hQ2, hap_hO54_g11, hap_hO54_g13, hap_hO54_g15, hap_hO54_g28⟩
      · obtain ⟨A48_6, A52_6, hQe, hO50_6, hap_hO50_g11_6, hap_hO50_g13_6, hap_hO50_g15_6, hap_hO50_g28_6, hO54_6, hap_hO54_g11_6, hap_hO54_g13_6, hap_hO54_g15_6, hap_hO54_g28_6⟩ := hQ1
        exact ⟨A48_6, A52_6, hQe, hO50_6.ext hQ2, hap_hO50_g11_6, hap_hO50_g13_6, hap_hO50_g15_6, hap_hO50_g28_6, hO54_6.ext hQ2, hap_hO54_g11_6, hap_hO54_g13_6, hap_hO54_g15_6, hap_hO54_g28_6⟩
      · exact hQ1
      · exact hQ1
      · exact hQ1
      · exact hQ1
      · exact hQ1
      · obtain ⟨A63, hQe, hO65, hN66, hap_hO65_g11, hap_hO65_g13, hap_hO65_g15, hap_hO65_g28⟩ := hQ1
        exact ⟨A63, hQe, hO65.ext hQ2, (hN66.ext hQ2).norm, hap_hO65_g11, hap_hO65_g13, hap_hO65_g15, hap_hO65_g28⟩
      · obtain ⟨A69, m70, c71, A72, m73, c74, hQe, h2n, h2d, h2m, hap_h2n_g11, hap_h2n_g13, hap_h2n_g15, hap_h2n_g28, hap_h2d_g11, hap_h2d_g13, hap_h2d_g15, hap_h2d_g28⟩ := hQ1
        exact ⟨A69, m70, c71, A72, m73, c74, hQe, h2n.ext hQ2, h2d.ext hQ2, h2m, hap_h2n_g11, hap_h2n_g13, hap_h2n_g15, hap_h2n_g28, hap_h2d_g11, hap_h2d_g13, hap_h2d_g15, hap_h2d_g28⟩
      · exact hQ1
      · exact hQ1
      · obtain ⟨A78, hQe, hO80, hN81, hap_hO80_g11, hap_hO80_g13, hap_hO80_g15, hap_hO80_g28⟩ := hQ1
        exact ⟨A78, hQe, hO80.ext hQ2, (hN81.ext hQ2).norm, hap_hO80_g11, hap_hO80_g13, hap_hO80_g15, hap_hO80_g28⟩
      · obtain ⟨A84, m85, c86, A87, m88, c89, hQe, h3n, h3d, h3m, hap_h3n_g11, hap_h3n_g13, hap_h3n_g15, hap_h3n_g28, hap_h3d_g11, hap_h3d_g13, hap_h3d_g15, hap_h3d_g28⟩ := hQ1
        exact ⟨A84, m85, c86, A87, m88, c89, hQe, h3n.ext hQ2, h3d.ext hQ2, h3m, hap_h3n_g11, hap_h3n_g13, hap_h3n_g15, hap_h3n_g28, hap_h3d_g11, hap_h3d_g13, hap_h3d_g15, hap_h3d_g28⟩
      · exact hQ1
      · exact hQ1
      · exact hQ1
      · exact hQ1
      · exact hQ1
      · exact hQ1
      · obtain ⟨A98, hQe, hO100, hN101, hap_hO100_g11, hap_hO100_g13, hap_hO100_g15, hap_hO100_g28⟩ := hQ1
        exact ⟨A98, hQe, hO100.ext hQ2, (hN101.ext hQ2).norm, hap_hO100_g11, hap_hO100_g13, hap_hO100_g15, hap_hO100_g28⟩
      · obtain ⟨A104, m105, c106, A107, m108, c109, hQe, h4n, h4d, h4m, hap_h4n_g11, hap_h4n_g13, hap_h4n_g15, hap_h4n_g28, hap_h4d_g11, hap_h4d_g13, hap_h4d_g15, hap_h4d_g28⟩ := hQ1
        exact ⟨A104, m105, c106, A107, m108, c109, hQe, h4n.ext hQ2, h4d.ext hQ2, h4m, hap_h4n_g11, hap_h4n_g13, hap_h4n_g15, hap_h4n_g28, hap_h4d_g11, hap_h4d_g13, hap_h4d_g15, hap_h4d_g28⟩
      · exact hQ1
      · exact hQ1
      · obtain ⟨A113, hQe, hO115, hN116, hap_hO115_g11, hap_hO115_g13, hap_hO115_g15, hap_hO115_g28⟩ := hQ1
        exact ⟨A113, hQe, hO115.ext hQ2, (hN116.ext hQ2).norm, hap_hO115_g11, hap_hO115_g13, hap_hO115_g15, hap_hO115_g28⟩
      · obtain ⟨A119, m120, c121, A122, m123, c124, hQe, h5n, h5d, h5m, hap_h5n_g11, hap_h5n_g13, hap_h5n_g15, hap_h5n_g28, hap_h5d_g11, hap_h5d_g13, hap_h5d_g15, hap_h5d_g28⟩ := hQ1
        exact ⟨A119, m120, c121, A122, m123, c124, hQe, h5n.ext hQ2, h5d.ext hQ2, h5m, hap_h5n_g11, hap_h5n_g13, hap_h5n_g15, hap_h5n_g28, hap_h5d_g11, hap_h5d_g13, hap_h5d_g15, hap_h5d_g28⟩
      · exact hQ1
      · exact hQ1
      · exact hQ1
    · refine ⟨⟨rfl, ⟨rfl, trivial⟩, ?_⟩, ⟨rfl, ⟨rfl, trivial⟩, ?_⟩, ⟨rfl, trivial, ?_⟩, ⟨rfl, trivial, ?_⟩, ⟨rfl, trivial, ?_⟩, ⟨rfl, trivial, ?_⟩, ⟨rfl, trivial, ?_⟩, ⟨rfl, trivial, ?_⟩, ⟨rfl, trivial, ?_⟩, ⟨rfl, trivial, ?_⟩, ⟨rfl, ⟨rfl, trivial⟩, ?_⟩, ⟨rfl, ⟨rfl, trivial⟩, ?_⟩, ⟨rfl, trivial, ?_⟩, ⟨rfl, trivial, ?_⟩, ⟨rfl, ⟨rfl, trivial⟩, ?_⟩, ⟨rfl, ⟨rfl, trivial⟩, ?_⟩, ⟨rfl, trivial, ?_⟩, ⟨rfl, trivial, ?_⟩, ⟨rfl, trivial, ?_⟩, ⟨rfl, trivial, ?_⟩, ⟨rfl, trivial, ?_⟩, ⟨rfl, trivial, ?_⟩, ⟨rfl, ⟨rfl, trivial⟩, ?_⟩, ⟨rfl, ⟨rfl, trivial⟩, ?_⟩, ⟨rfl, trivial, ?_⟩, ⟨rfl, trivial, ?_⟩, ⟨rfl, ⟨rfl, trivial⟩, ?_⟩, ⟨rfl, ⟨rfl, trivial⟩, ?_⟩, ⟨rfl, trivial, ?_⟩, ⟨rfl, trivial, ?_⟩, ⟨rfl, trivial, ?_⟩, ⟨rfl, trivial, ?_⟩, ⟨rfl, trivial, ?_⟩, trivial⟩
      · intro w32 hE
        have hE := hE rfl
        have hB := ext_trans hB hE
        have hVg28 := hVg28.ext hE
        intro R
        refine WL.loadV (cs := [.bool false, .slice A22 1 1, .slice A25 1 1]) Try.el31 Try.agg31 rfl rfl hVg28.vcells rfl ?_
        exact WL.done ⟨_, rfl, ext_refl _, rfl⟩
      · intro w33 hE
        have hE := hE rfl
        have hB := ext_trans hB hE
        have hVg28 := hVg28.ext hE
        intro R
        refine WL.loadV (cs := [.bool false, .slice A22 1 1, .slice A25 1 1]) Try.el31 Try.agg31 rfl rfl hVg28.vcells rfl ?_
        exact WL.done ⟨_, rfl, ext_refl _, rfl⟩
      · intro w34 hE
        have hE := hE rfl
        have hB := ext_trans hB hE
        have hVg11 := hVg11.ext hE
        have hVg13 := hVg13.ext hE
        have hVg15 := hVg15.ext hE
        have hO24 := hO24.ext hE
        have hO27 := hO27.ext hE
        have hVg28 := hVg28.ext hE
        rintro _ rfl
        rintro _ rfl
        intro R
        refine WL.lit (b := w34.heap.size) (cells := [.bool false, .slice A22 1 1, .slice A25 1 1, .bool false, .slice A22 1 1, .slice A25 1 1]) Try.underlying44 Try.el31 (by decide) ⟨_, rfl, by kernel_rfl⟩ rfl (Nat.le_refl _) rfl ?_
        rintro A35 w36 - hO37 hGw36
        have hap_hO37_g11 := ap_new hO37 (hVg11.bl_ge _ rfl).2
        have hap_hO37_g13 := ap_new hO37 (hVg13.bl_ge _ rfl).2
        have hap_hO37_g15 := ap_new hO37 (hVg15.bl_ge _ rfl).2
        have hap_hO37_g28 := ap_new hO37 (hVg28.bl_ge _ rfl).2
        have hO37 := hO37.low (b' := w.heap.size) hB.size
        have hB := ext_trans hB hGw36
        have hO24 := hO24.ext hGw36
        have hO27 := hO27.ext hGw36
        have hN38 : RatsR w36.heap.size w36 [.bool false, .slice A22 1 1, .slice A25 1 1, .bool false, .slice A22 1 1, .slice A25 1 1] [(false, [1], [2]), (false, [1], [2])] := (RatsR.cons hO24.rd.norm hO27.rd.norm (RatsR.cons hO24.rd.norm hO27.rd.norm (RatsR.nil _ _)))
        exact WL.done ⟨_, rfl, hGw36, ⟨A35, rfl, hO37, hN38, hap_hO37_g11, hap_hO37_g13, hap_hO37_g15, hap_hO37_g28⟩⟩
      · intro w39 hE
        have hE := hE rfl
        have hB := ext_trans hB hE
        have hVg11 := hVg11.ext hE
        have hVg13 := hVg13.ext hE
        have hVg15 := hVg15.ext hE
        have hVg28 := hVg28.ext hE
        rintro _ ⟨A35, rfl, hO37, hN38, hap_hO37_g11, hap_hO37_g13, hap_hO37_g15, hap_hO37_g28⟩
        intro R
        refine WL.call Try.func32 rfl Try.nm32 rfl rfl (qAdd2_c hO37.rd hN38 (by intro x hx; simp only [List.mem_cons, List.not_mem_nil, or_false] at hx; omega) (by intro x hx; simp only [List.mem_cons, List.not_mem_nil, or_false] at hx; omega) (by intro x hx; simp only [List.mem_cons, List.not_mem_nil, or_false] at hx; omega) (by intro x hx; simp only [List.mem_cons, List.not_mem_nil, or_false] at hx; omega) (val false (nv ([1])) (nv ([2]))) rfl (val false (nv ([1])) (nv ([2]))) rfl 12 (by omega) (by omega)) ?_
        rintro _ w40 ⟨A41, m42, c43, A44, m45, c46, rfl, hGw40, h1n, h1d, h1m⟩
        have hap_h1n_g11 := ap_new h1n (hVg11.bl_ge _ rfl).2
        have hap_h1n_g13 := ap_new h1n (hVg13.bl_ge _ rfl).2
        have hap_h1n_g15 := ap_new h1n (hVg15.bl_ge _ rfl).2
        have hap_h1n_g28 := ap_new h1n (hVg28.bl_ge _ rfl).2
        have hap_h1d_g11 := ap_new h1d (hVg11.bl_ge _ rfl).2
        have hap_h1d_g13 := ap_new h1d (hVg13.bl_ge _ rfl).2
        have hap_h1d_g15 := ap_new h1d (hVg15.bl_ge _ rfl).2
        have hap_h1d_g28 := ap_new h1d (hVg28.bl_ge _ rfl).2
        have h1n := h1n.low (b' := w.heap.size) hB.size
        have h1d := h1d.low (b' := w.heap.size) hB.size
        have hB := ext_trans hB hGw40
        have h1n_l := h1n.rd.ulen
        have h1d_l := h1d.rd.ulen
        exact WL.done ⟨_, rfl, hGw40, ⟨A41, m42, c43, A44, m45, c46, rfl, h1n, h1d, h1m, hap_h1n_g11, hap_h1n_g13, hap_h1n_g15, hap_h1n_g28, hap_h1d_g11, hap_h1d_g13, hap_h1d_g15, hap_h1d_g28⟩⟩
      · intro w47 hE
        have hE := hE rfl
        have hB := ext_trans hB hE
        have hVg11 := hVg11.ext hE
        have hVg13 := hVg13.ext hE
        have hVg15 := hVg15.ext hE
        have hVg28 := hVg28.ext hE
        intro R
        refine WL.lit1 (b := w47.heap.size) Try.underlying23 Try.el43 rfl rfl rfl rfl (by intro v hv; simp only [List.mem_cons, List.not_mem_nil, or_false] at hv; rcases hv with rfl <;> rfl) (Nat.le_refl _) rfl ?_
        rintro A48 w49 - hO50 hGw49
        have hap_hO50_g11 := ap_new hO50 (hVg11.bl_ge _ rfl).2
        have hap_hO50_g13 := ap_new hO50 (hVg13.bl_ge _ rfl).2
        have hap_hO50_g15 := ap_new hO50 (hVg15.bl_ge _ rfl).2
        have hap_hO50_g28 := ap_new hO50 (hVg28.bl_ge _ rfl).2
        have hO50 := hO50.low (b' := w.heap.size) hB.size
        have hB := ext_trans hB hGw49
        change Own _ _ _ _ _ _ _ (us [1]) at hO50
        exact WL.done ⟨_, rfl, hGw49, ⟨A48, rfl, hO50, hap_hO50_g11, hap_hO50_g13, hap_hO50_g15, hap_hO50_g28⟩⟩
      · intro w51 hE
        have hE := hE rfl
        have hB := ext_trans hB hE
        have hVg11 := hVg11.ext hE
        have hVg13 := hVg13.ext hE
        have hVg15 := hVg15.ext hE
        have hVg28 := hVg28.ext hE
        intro R
        refine WL.lit1 (b := w51.heap.size) Try.underlying23 Try.el43 rfl rfl rfl rfl (by intro v hv; simp only [List.mem_cons, List.not_mem_nil, or_false] at hv; rcases hv with rfl <;> rfl) (Nat.le_refl _) rfl ?_
        rintro A52 w53 - hO54 hGw53
        have hap_hO54_g11 := ap_new hO54 (hVg11.bl_ge _ rfl).2
        have hap_hO54_g13 := ap_new hO54 (hVg13.bl_ge _ rfl).2
        have hap_hO54_g15 := ap_new hO54 (hVg15.bl_ge _ rfl).2
        have hap_hO54_g28 := ap_new hO54 (hVg28.bl_ge _ rfl).2
        have hO54 := hO54.low (b' := w.heap.size) hB.size
        have hB := ext_trans hB hGw53
        change Own _ _ _ _ _ _ _ (us [1]) at hO54
        exact WL.done ⟨_, rfl, hGw53, ⟨A52, rfl, hO54, hap_hO54_g11, hap_hO54_g13, hap_hO54_g15, hap_hO54_g28⟩⟩
      · intro w55 hE
        rintro _ ⟨A48, rfl, hO50, hap_hO50_g11, hap_hO50_g13, hap_hO50_g15, hap_hO50_g28⟩
        rintro _ ⟨A52, rfl, hO54, hap_hO54_g11, hap_hO54_g13, hap_hO54_g15, hap_hO54_g28⟩
        intro R
        refine WL.build (cells := #[.bool false, .slice A48 1 1, .slice A52 1 1]) Try.bld31 rfl rfl rfl ?_
        exact WL.done ⟨_, rfl, rfl, ⟨A48, A52, rfl, hO50, hap_hO50_g11, hap_hO50_g13, hap_hO50_g15, hap_hO50_g28, hO54, hap_hO54_g11, hap_hO54_g13, hap_hO54_g15, hap_hO54_g28⟩⟩
      · intro w56 hE
        have hE := hE rfl
        have hB := ext_trans hB hE
        rintro _ ⟨A41, m42, c43, A44, m45, c46, rfl, h1n, h1d, h1m, hap_h1n_g11, hap_h1n_g13, hap_h1n_g15, hap_h1n_g28, hap_h1d_g11, hap_h1d_g13, hap_h1d_g15, hap_h1d_g28⟩
        rintro _ ⟨A48_6, A52_6, rfl, hO50_6, hap_hO50_g11_6, hap_hO50_g13_6, hap_hO50_g15_6, hap_hO50_g28_6, hO54_6, hap_hO54_g11_6, hap_hO54_g13_6, hap_hO54_g15_6, hap_hO54_g28_6⟩
        intro R
        refine WL.call Try.func18 rfl Try.nm18 rfl rfl (qsame_t h1n.rd h1d.rd hO50_6.rd hO54_6.rd (half_one ▸ can_one)) ?_
        rintro _ w57 ⟨rfl, hGw57⟩
        have hB := ext_trans hB hGw57
        exact WL.done ⟨_, rfl, hGw57, rfl⟩
      · intro w58 hE
        rintro _ rfl
        intro R
        refine WL.not rfl rfl ?_
        exact WL.done ⟨_, rfl, rfl, rfl⟩
      · intro w59 hE
        rintro _ rfl
        intro R
        refine WL.move rfl rfl ?_
        exact WL.done ⟨_, rfl, rfl, rfl⟩
      · intro w60 hE
        have hE := hE rfl
        have hB := ext_trans hB hE
        have hVg11 := hVg11.ext hE
        rintro _ rfl
        intro R
        refine WL.take rfl ?_
        refine WL.loadV (cs := [.bool na, .slice Aan man can, .slice Aad mad cad]) Try.el31 Try.agg31 rfl rfl hVg11.vcells rfl ?_
        exact WL.done ⟨_, rfl, ext_refl _, rfl⟩
      · intro w61 hE
        have hE := hE rfl
        have hB := ext_trans hB hE
        have hVg13 := hVg13.ext hE
        rintro _ rfl
        intro R
        refine WL.take rfl ?_
        refine WL.loadV (cs := [.bool nb, .slice Abn mbn cbn, .slice Abd mbd cbd]) Try.el31 Try.agg31 rfl rfl hVg13.vcells rfl ?_
        exact WL.done ⟨_, rfl, ext_refl _, rfl⟩
      · intro w62 hE
        have hE := hE rfl
        have hB := ext_trans hB hE
        have han := han0.ext hB
        have had := had0.ext hB
        have hbn := hbn0.ext hB
        have hbd := hbd0.ext hB
        have hVg11 := hVg11.ext hE
        have hVg13 := hVg13.ext hE
        have hVg15 := hVg15.ext hE
        have hVg28 := hVg28.ext hE
        rintro _ rfl
        rintro _ rfl
        rintro _ rfl
        intro R
        refine WL.take rfl ?_
        refine WL.lit (b := w62.heap.size) (cells := [.bool na, .slice Aan man can, .slice Aad mad cad, .bool nb, .slice Abn mbn cbn, .slice Abd mbd cbd]) Try.underlying44 Try.el31 (by decide) ⟨_, rfl, by kernel_rfl⟩ rfl (Nat.le_refl _) rfl ?_
        rintro A63 w64 - hO65 hGw64
        have hap_hO65_g11 := ap_new hO65 (hVg11.bl_ge _ rfl).2
        have hap_hO65_g13 := ap_new hO65 (hVg13.bl_ge _ rfl).2
        have hap_hO65_g15 := ap_new hO65 (hVg15.bl_ge _ rfl).2
        have hap_hO65_g28 := ap_new hO65 (hVg28.bl_ge _ rfl).2
        have hO65 := hO65.low (b' := w.heap.size) hB.size
        have hB := ext_trans hB hGw64
        have han := han0.ext hB
        have had := had0.ext hB
        have hbn := hbn0.ext hB
        have hbd := hbd0.ext hB
        have hN66 : RatsR w64.heap.size w64 [.bool na, .slice Aan man can, .slice Aad mad cad, .bool nb, .slice Abn mbn cbn, .slice Abd mbd cbd] [(na, xan, xad), (nb, xbn, xbd)] := (RatsR.cons han.norm had.norm (RatsR.cons hbn.norm hbd.norm (RatsR.nil _ _)))
        exact WL.done ⟨_, rfl, hGw64, ⟨A63, rfl, hO65, hN66, hap_hO65_g11, hap_hO65_g13, hap_hO65_g15, hap_hO65_g28⟩⟩
      · intro w67 hE
        have hE := hE rfl
        have hB := ext_trans hB hE
        have hVg11 := hVg11.ext hE
        have hVg13 := hVg13.ext hE
        have hVg15 := hVg15.ext hE
        have hVg28 := hVg28.ext hE
        rintro _ rfl
        rintro _ ⟨A63, rfl, hO65, hN66, hap_hO65_g11, hap_hO65_g13, hap_hO65_g15, hap_hO65_g28⟩
        intro R
        refine WL.take rfl ?_
        refine WL.call Try.func32 rfl Try.nm32 rfl rfl (qAdd2_c hO65.rd hN66 hLan hLad hLbn hLbd qa hqa qb hqb 12 (by omega) (by omega)) ?_
        rintro _ w68 ⟨A69, m70, c71, A72, m73, c74, rfl, hGw68, h2n, h2d, h2m⟩
        have hap_h2n_g11 := ap_new h2n (hVg11.bl_ge _ rfl).2
        have hap_h2n_g13 := ap_new h2n (hVg13.bl_ge _ rfl).2
        have hap_h2n_g15 := ap_new h2n (hVg15.bl_ge _ rfl).2
        have hap_h2n_g28 := ap_new h2n (hVg28.bl_ge _ rfl).2
        have hap_h2d_g11 := ap_new h2d (hVg11.bl_ge _ rfl).2
        have hap_h2d_g13 := ap_new h2d (hVg13.bl_ge _ rfl).2
        have hap_h2d_g15 := ap_new h2d (hVg15.bl_ge _ rfl).2
        have hap_h2d_g28 := ap_new h2d (hVg28.bl_ge _ rfl).2
        have h2n := h2n.low (b' := w.heap.size) hB.size
        have h2d := h2d.low (b' := w.heap.size) hB.size
        have hB := ext_trans hB hGw68
        have h2n_l := h2n.rd.ulen
        have h2d_l := h2d.rd.ulen
        exact WL.done ⟨_, rfl, hGw68, ⟨A69, m70, c71, A72, m73, c74, rfl, h2n, h2d, h2m, hap_h2n_g11, hap_h2n_g13, hap_h2n_g15, hap_h2n_g28, hap_h2d_g11, hap_h2d_g13, hap_h2d_g15, hap_h2d_g28⟩⟩
      · intro w75 hE
        have hE := hE rfl
        have hB := ext_trans hB hE
        have hVg13 := hVg13.ext hE
        rintro _ rfl
        intro R
        refine WL.take rfl ?_
        refine WL.loadV (cs := [.bool nb, .slice Abn mbn cbn, .slice Abd mbd cbd]) Try.el31 Try.agg31 rfl rfl hVg13.vcells rfl ?_
        exact WL.done ⟨_, rfl, ext_refl _, rfl⟩
      · intro w76 hE
        have hE := hE rfl
        have hB := ext_trans hB hE
        have hVg11 := hVg11.ext hE
        rintro _ rfl
        intro R
        refine WL.take rfl ?_
        refine WL.loadV (cs := [.bool na, .slice Aan man can, .slice Aad mad cad]) Try.el31 Try.agg31 rfl rfl hVg11.vcells rfl ?_
        exact WL.done ⟨_, rfl, ext_refl _, rfl⟩
      · intro w77 hE
        have hE := hE rfl
        have hB := ext_trans hB hE
        have han := han0.ext hB
        have had := had0.ext hB
        have hbn := hbn0.ext hB
        have hbd := hbd0.ext hB
        have hVg11 := hVg11.ext hE
        have hVg13 := hVg13.ext hE
        have hVg15 := hVg15.ext hE
        have hVg28 := hVg28.ext hE
        rintro _ rfl
        rintro _ rfl
        rintro _ rfl
        intro R
        refine WL.take rfl ?_
        refine WL.lit (b := w77.heap.size) (cells := [.bool nb, .slice Abn mbn cbn, .slice Abd mbd cbd, .bool na, .slice Aan man can, .slice Aad mad cad]) Try.underlying44 Try.el31 (by decide) ⟨_, rfl, by kernel_rfl⟩ rfl (Nat.le_refl _) rfl ?_
        rintro A78 w79 - hO80 hGw79
        have hap_hO80_g11 := ap_new hO80 (hVg11.bl_ge _ rfl).2
        have hap_hO80_g13 := ap_new hO80 (hVg13.bl_ge _ rfl).2
        have hap_hO80_g15 := ap_new hO80 (hVg15.bl_ge _ rfl).2
        have hap_hO80_g28 := ap_new hO80 (hVg28.bl_ge _ rfl).2
        have hO80 := hO80.low (b' := w.heap.size) hB.size
        have hB := ext_trans hB hGw79
        have han := han0.ext hB
        have had := had0.ext hB
        have hbn := hbn0.ext hB
        have hbd := hbd0.ext hB
        have hN81 : RatsR w79.heap.size w79 [.bool nb, .slice Abn mbn cbn, .slice Abd mbd cbd, .bool na, .slice Aan man can, .slice Aad mad cad] [(nb, xbn, xbd), (na, xan, xad)] := (RatsR.cons hbn.norm hbd.norm (RatsR.cons han.norm had.norm (RatsR.nil _ _)))
        exact WL.done ⟨_, rfl, hGw79, ⟨A78, rfl, hO80, hN81, hap_hO80_g11, hap_hO80_g13, hap_hO80_g15, hap_hO80_g28⟩⟩
      · intro w82 hE
        have hE := hE rfl
        have hB := ext_trans hB hE
        have hVg11 := hVg11.ext hE
        have hVg13 := hVg13.ext hE
        have hVg15 := hVg15.ext hE
        have hVg28 := hVg28.ext hE
        rintro _ rfl
        rintro _ ⟨A78, rfl, hO80, hN81, hap_hO80_g11, hap_hO80_g13, hap_hO80_g15, hap_hO80_g28⟩
        intro R
        refine WL.take rfl ?_
        refine WL.call Try.func32 rfl Try.nm32 rfl rfl (qAdd2_c hO80.rd hN81 hLbn hLbd hLan hLad qb hqb qa hqa 12 (by omega) (by omega)) ?_
        rintro _ w83 ⟨A84, m85, c86, A87, m88, c89, rfl, hGw83, h3n, h3d, h3m⟩
        have hap_h3n_g11 := ap_new h3n (hVg11.bl_ge _ rfl).2
        have hap_h3n_g13 := ap_new h3n (hVg13.bl_ge _ rfl).2
        have hap_h3n_g15 := ap_new h3n (hVg15.bl_ge _ rfl).2
        have hap_h3n_g28 := ap_new h3n (hVg28.bl_ge _ rfl).2
        have hap_h3d_g11 := ap_new h3d (hVg11.bl_ge _ rfl).2
        have hap_h3d_g13 := ap_new h3d (hVg13.bl_ge _ rfl).2
        have hap_h3d_g15 := ap_new h3d (hVg15.bl_ge _ rfl).2
        have hap_h3d_g28 := ap_new h3d (hVg28.bl_ge _ rfl).2
        have h3n := h3n.low (b' := w.heap.size) hB.size
        have h3d := h3d.low (b' := w.heap.size) hB.size
        have hB := ext_trans hB hGw83
        have h3n_l := h3n.rd.ulen
        have h3d_l := h3d.rd.ulen
        exact WL.done ⟨_, rfl, hGw83, ⟨A84, m85, c86, A87, m88, c89, rfl, h3n, h3d, h3m, hap_h3n_g11, hap_h3n_g13, hap_h3n_g15, hap_h3n_g28, hap_h3d_g11, hap_h3d_g13, hap_h3d_g15, hap_h3d_g28⟩⟩
      · intro w90 hE
        have hE := hE rfl
        have hB := ext_trans hB hE
        rintro _ rfl
        rintro _ ⟨A69, m70, c71, A72, m73, c74, rfl, h2n, h2d, h2m, hap_h2n_g11, hap_h2n_g13, hap_h2n_g15, hap_h2n_g28, hap_h2d_g11, hap_h2d_g13, hap_h2d_g15, hap_h2d_g28⟩
        rintro _ ⟨A84, m85, c86, A87, m88, c89, rfl, h3n, h3d, h3m, hap_h3n_g11, hap_h3n_g13, hap_h3n_g15, hap_h3n_g28, hap_h3d_g11, hap_h3d_g13, hap_h3d_g15, hap_h3d_g28⟩
        intro R
        refine WL.take rfl ?_
        refine WL.call Try.func18 rfl Try.nm18 rfl rfl (qsame_t h2n.rd h2d.rd h3n.rd h3d.rd (can_eq (Rat.add_comm qa qb))) ?_
        rintro _ w91 ⟨rfl, hGw91⟩
        have hB := ext_trans hB hGw91
        exact WL.done ⟨_, rfl, hGw91, rfl⟩
      · intro w92 hE
        rintro _ rfl
        rintro _ rfl
        intro R
        refine WL.take rfl ?_
        refine WL.not rfl rfl ?_
        exact WL.done ⟨_, rfl, rfl, rfl⟩
      · intro w93 hE
        rintro _ rfl
        rintro _ rfl
        intro R
        refine WL.pick rfl rfl rfl ?_
        exact WL.done ⟨_, rfl, rfl, rfl⟩
      · intro w94 hE
        rintro _ rfl
        intro R
        refine WL.move rfl rfl ?_
        exact WL.done ⟨_, rfl, rfl, rfl⟩
      · intro w95 hE
        have hE := hE rfl
        have hB := ext_trans hB hE
        have hVg11 := hVg11.ext hE
        rintro _ rfl
        intro R
        refine WL.take rfl ?_
        refine WL.loadV (cs := [.bool na, .slice Aan man can, .slice Aad mad cad]) Try.el31 Try.agg31 rfl rfl hVg11.vcells rfl ?_
        exact WL.done ⟨_, rfl, ext_refl _, rfl⟩
      · intro w96 hE
        have hE := hE rfl
        have hB := ext_trans hB hE
        have hVg13 := hVg13.ext hE
        rintro _ rfl
        intro R
        refine WL.take rfl ?_
        refine WL.loadV (cs := [.bool nb, .slice Abn mbn cbn, .slice Abd mbd cbd]) Try.el31 Try.agg31 rfl rfl hVg13.vcells rfl ?_
        exact WL.done ⟨_, rfl, ext_refl _, rfl⟩
      · intro w97 hE
        have hE := hE rfl
        have hB := ext_trans hB hE
        have han := han0.ext hB
        have had := had0.ext hB
        have hbn := hbn0.ext hB
        have hbd := hbd0.ext hB
        have hVg11 := hVg11.ext hE
        have hVg13 := hVg13.ext hE
        have hVg15 := hVg15.ext hE
        have hVg28 := hVg28.ext hE
        rintro _ rfl
        rintro _ rfl
        rintro _ rfl
        intro R
        refine WL.take rfl ?_
        refine WL.lit (b := w97.heap.size) (cells := [.bool na, .slice Aan man can, .slice Aad mad cad, .bool nb, .slice Abn mbn cbn, .slice Abd mbd cbd]) Try.underlying44 Try.el31 (by decide) ⟨_, rfl, by kernel_rfl⟩ rfl (Nat.le_refl _) rfl ?_
        rintro A98 w99 - hO100 hGw99
        have hap_hO100_g11 := ap_new hO100 (hVg11.bl_ge _ rfl).2
        have hap_hO100_g13 := ap_new hO100 (hVg13.bl_ge _ rfl).2
        have hap_hO100_g15 := ap_new hO100 (hVg15.bl_ge _ rfl).2
        have hap_hO100_g28 := ap_new hO100 (hVg28.bl_ge _ rfl).2
        have hO100 := hO100.low (b' := w.heap.size) hB.size
        have hB := ext_trans hB hGw99
        have han := han0.ext hB
        have had := had0.ext hB
        have hbn := hbn0.ext hB
        have hbd := hbd0.ext hB
        have hN101 : RatsR w99.heap.size w99 [.bool na, .slice Aan man can, .slice Aad mad cad, .bool nb, .slice Abn mbn cbn, .slice Abd mbd cbd] [(na, xan, xad), (nb, xbn, xbd)] := (RatsR.cons han.norm had.norm (RatsR.cons hbn.norm hbd.norm (RatsR.nil _ _)))
        exact WL.done ⟨_, rfl, hGw99, ⟨A98, rfl, hO100, hN101, hap_hO100_g11, hap_hO100_g13, hap_hO100_g15, hap_hO100_g28⟩⟩
      · intro w102 hE
        have hE := hE rfl
        have hB := ext_trans hB hE
        have hVg11 := hVg11.ext hE
        have hVg13 := hVg13.ext hE
        have hVg15 := hVg15.ext hE
        have hVg28 := hVg28.ext hE
        rintro _ rfl
        rintro _ ⟨A98, rfl, hO100, hN101, hap_hO100_g11, hap_hO100_g13, hap_hO100_g15, hap_hO100_g28⟩
        intro R
        refine WL.take rfl ?_
        refine WL.call Try.func34 rfl Try.nm34 rfl rfl (qMul2_c hO100.rd hN101 hLan hLad hLbn hLbd qa hqa qb hqb 12 (by omega) (by omega)) ?_
        rintro _ w103 ⟨A104, m105, c106, A107, m108, c109, rfl, hGw103, h4n, h4d, h4m⟩
        have hap_h4n_g11 := ap_new h4n (hVg11.bl_ge _ rfl).2
        have hap_h4n_g13 := ap_new h4n (hVg13.bl_ge _ rfl).2
        have hap_h4n_g15 := ap_new h4n (hVg15.bl_ge _ rfl).2
        have hap_h4n_g28 := ap_new h4n (hVg28.bl_ge _ rfl).2
        have hap_h4d_g11 := ap_new h4d (hVg11.bl_ge _ rfl).2
        have hap_h4d_g13 := ap_new h4d (hVg13.bl_ge _ rfl).2
        have hap_h4d_g15 := ap_new h4d (hVg15.bl_ge _ rfl).2
        have hap_h4d_g28 := ap_new h4d (hVg28.bl_ge _ rfl).2
        have h4n := h4n.low (b' := w.heap.size) hB.size
        have h4d := h4d.low (b' := w.heap.size) hB.size
        have hB := ext_trans hB hGw103
        have h4n_l := h4n.rd.ulen
        have h4d_l := h4d.rd.ulen
        exact WL.done ⟨_, rfl, hGw103, ⟨A104, m105, c106, A107, m108, c109, rfl, h4n, h4d, h4m, hap_h4n_g11, hap_h4n_g13, hap_h4n_g15, hap_h4n_g28, hap_h4d_g11, hap_h4d_g13, hap_h4d_g15, hap_h4d_g28⟩⟩
      · intro w110 hE
        have hE := hE rfl
        have hB := ext_trans hB hE
        have hVg13 := hVg13.ext hE
        rintro _ rfl
        intro R
        refine WL.take rfl ?_
        refine WL.loadV (cs := [.bool nb, .slice Abn mbn cbn, .slice Abd mbd cbd]) Try.el31 Try.agg31 rfl rfl hVg13.vcells rfl ?_
        exact WL.done ⟨_, rfl, ext_refl _, rfl⟩
      · intro w111 hE
        have hE := hE rfl
        have hB := ext_trans hB hE
        have hVg11 := hVg11.ext hE
        rintro _ rfl
        intro R
        refine WL.take rfl ?_
        refine WL.loadV (cs := [.bool na, .slice Aan man can, .slice Aad mad cad]) Try.el31 Try.agg31 rfl rfl hVg11.vcells rfl ?_
        exact WL.done ⟨_, rfl, ext_refl _, rfl⟩
      · intro w112 hE
        have hE := hE rfl
        have hB := ext_trans hB hE
        have han := han0.ext hB
        have had := had0.ext hB
        have hbn := hbn0.ext hB
        have hbd := hbd0.ext hB
        have hVg11 := hVg11.ext hE
        have hVg13 := hVg13.ext hE
        have hVg15 := hVg15.ext hE
        have hVg28 := hVg28.ext hE
        rintro _ rfl
        rintro _ rfl
        rintro _ rfl
        intro R
        refine WL.take rfl ?_
        refine WL.lit (b := w112.heap.size) (cells := [.bool nb, .slice Abn mbn cbn, .slice Abd mbd cbd, .bool na, .slice Aan man can, .slice Aad mad cad]) Try.underlying44 Try.el31 (by decide) ⟨_, rfl, by kernel_rfl⟩ rfl (Nat.le_refl _) rfl ?_
        rintro A113 w114 - hO115 hGw114
        have hap_hO115_g11 := ap_new hO115 (hVg11.bl_ge _ rfl).2
        have hap_hO115_g13 := ap_new hO115 (hVg13.bl_ge _ rfl).2
        have hap_hO115_g15 := ap_new hO115 (hVg15.bl_ge _ rfl).2
        have hap_hO115_g28 := ap_new hO115 (hVg28.bl_ge _ rfl).2
        have hO115 := hO115.low (b' := w.heap.size) hB.size
        have hB := ext_trans hB hGw114
        have han := han0.ext hB
        have had := had0.ext hB
        have hbn := hbn0.ext hB
        have hbd := hbd0.ext hB
        have hN116 : RatsR w114.heap.size w114 [.bool nb, .slice Abn mbn cbn, .slice Abd mbd cbd, .bool na, .slice Aan man can, .slice Aad mad cad] [(nb, xbn, xbd), (na, xan, xad)] := (RatsR.cons hbn.norm hbd.norm (RatsR.cons han.norm had.norm (RatsR.nil _ _)))
        exact WL.done ⟨_, rfl, hGw114, ⟨A113, rfl, hO115, hN116, hap_hO115_g11, hap_hO115_g13, hap_hO115_g15, hap_hO115_g28⟩⟩
      · intro w117 hE
        have hE := hE rfl
        have hB := ext_trans hB hE
        have hVg11 := hVg11.ext hE
        have hVg13 := hVg13.ext hE
        have hVg15 := hVg15.ext hE
        have hVg28 := hVg28.ext hE
        rintro _ rfl
        rintro _ ⟨A113, rfl, hO115, hN116, hap_hO115_g11, hap_hO115_g13, hap_hO115_g15, hap_hO115_g28⟩
        intro R
        refine WL.take rfl ?_
        refine WL.call Try.func34 rfl Try.nm34 rfl rfl (qMul2_c hO115.rd hN116 hLbn hLbd hLan hLad qb hqb qa hqa 12 (by omega) (by omega)) ?_
        rintro _ w118 ⟨A119, m120, c121, A122, m123, c124, rfl, hGw118, h5n, h5d, h5m⟩
        have hap_h5n_g11 := ap_new h5n (hVg11.bl_ge _ rfl).2
        have hap_h5n_g13 := ap_new h5n (hVg13.bl_ge _ rfl).2
        have hap_h5n_g15 := ap_new h5n (hVg15.bl_ge _ rfl).2
        have hap_h5n_g28 := ap_new h5n (hVg28.bl_ge _ rfl).2
        have hap_h5d_g11 := ap_new h5d (hVg11.bl_ge _ rfl).2
        have hap_h5d_g13 := ap_new h5d (hVg13.bl_ge _ rfl).2
        have hap_h5d_g15 := ap_new h5d (hVg15.bl_ge _ rfl).2
        have hap_h5d_g28 := ap_new h5d (hVg28.bl_ge _ rfl).2
        have h5n := h5n.low (b' := w.heap.size) hB.size
        have h5d := h5d.low (b' := w.heap.size) hB.size
        have hB := ext_trans hB hGw118
        have h5n_l := h5n.rd.ulen
        have h5d_l := h5d.rd.ulen
        exact WL.done ⟨_, rfl, hGw118, ⟨A119, m120, c121, A122, m123, c124, rfl, h5n, h5d, h5m, hap_h5n_g11, hap_h5n_g13, hap_h5n_g15, hap_h5n_g28, hap_h5d_g11, hap_h5d_g13, hap_h5d_g15, hap_h5d_g28⟩⟩
      · intro w125 hE
        have hE := hE rfl
        have hB := ext_trans hB hE
        rintro _ rfl
        rintro _ ⟨A104, m105, c106, A107, m108, c109, rfl, h4n, h4d, h4m, hap_h4n_g11, hap_h4n_g13, hap_h4n_g15, hap_h4n_g28, hap_h4d_g11, hap_h4d_g13, hap_h4d_g15, hap_h4d_g28⟩
        rintro _ ⟨A119, m120, c121, A122, m123, c124, rfl, h5n, h5d, h5m, hap_h5n_g11, hap_h5n_g13, hap_h5n_g15, hap_h5n_g28, hap_h5d_g11, hap_h5d_g13, hap_h5d_g15, hap_h5d_g28⟩
        intro R
        refine WL.take rfl ?_
        refine WL.call Try.func18 rfl Try.nm18 rfl rfl (qsame_t h4n.rd h4d.rd h5n.rd h5d.rd (can_eq (Rat.mul_comm qa qb))) ?_
        rintro _ w126 ⟨rfl, hGw126⟩
        have hB := ext_trans hB hGw126
        exact WL.done ⟨_, rfl, hGw126, rfl⟩
      · intro w127 hE
        rintro _ rfl
        rintro _ rfl
        intro R
        refine WL.take rfl ?_
        refine WL.not rfl rfl ?_
        exact WL.done ⟨_, rfl, rfl, rfl⟩
      · intro w128 hE
        rintro _ rfl
        rintro _ rfl
        intro R
        refine WL.pick rfl rfl rfl ?_
        exact WL.done ⟨_, rfl, rfl, rfl⟩
    · intro vals w129 hT hVs
      rw [if_neg (by decide)] at hT
      have hB := ext_trans hB hT
      have han := han0.ext hB
      have had := had0.ext hB
      have hbn := hbn0.ext hB
      have hbd := hbd0.ext hB
      have hcn := hcn0.ext hB
      have hcd := hcd0.ext hB
      have hVg11 := hVg11.ext hT
      have hVg13 := hVg13.ext hT
      have hVg15 := hVg15.ext hT
      have hVg28 := hVg28.ext hT
      have hv0 : vals 0 = _ := hVs 0 (by decide) (by decide)
      have hv1 : vals 1 = _ := hVs 1 (by decide) (by decide)
      obtain ⟨A35, hv2, hO37, hN38, hap_hO37_g11, hap_hO37_g13, hap_hO37_g15, hap_hO37_g28⟩ := hVs 2 (by decide) (by decide)
      obtain ⟨A41, m42, c43, A44, m45, c46, hv3, h1n, h1d, h1m, hap_h1n_g11, hap_h1n_g13, hap_h1n_g15, hap_h1n_g28, hap_h1d_g11, hap_h1d_g13, hap_h1d_g15, hap_h1d_g28⟩ := hVs 3 (by decide) (by decide)
      obtain ⟨A48, hv4, hO50, hap_hO50_g11, hap_hO50_g13, hap_hO50_g15, hap_hO50_g28⟩ := hVs 4 (by decide) (by decide)
      obtain ⟨A52, hv5, hO54, hap_hO54_g11, hap_hO54_g13, hap_hO54_g15, hap_hO54_g28⟩ := hVs 5 (by decide) (by decide)
      obtain ⟨A48_6, A52_6, hv6, hO50_6, hap_hO50_g11_6, hap_hO50_g13_6, hap_hO50_g15_6, hap_hO50_g28_6, hO54_6, hap_hO54_g11_6, hap_hO54_g13_6, hap_hO54_g15_6, hap_hO54_g28_6⟩ := hVs 6 (by decide) (by decide)
      have hv7 : vals 7 = _ := hVs 7 (by decide) (by decide)
      have hv8 : vals 8 = _ := hVs 8 (by decide) (by decide)
      have hv9 : vals 9 = _ := hVs 9 (by decide) (by decide)
      have hv10 : vals 10 = _ := hVs 10 (by decide) (by decide)
      have hv11 : vals 11 = _ := hVs 11 (by decide) (by decide)
      obtain ⟨A63, hv12, hO65, hN66, hap_hO65_g11, hap_hO65_g13, hap_hO65_g15, hap_hO65_g28⟩ := hVs 12 (by decide) (by decide)
      obtain ⟨A69, m70, c71, A72, m73, c74, hv13, h2n, h2d, h2m, hap_h2n_g11, hap_h2n_g13, hap_h2n_g15, hap_h2n_g28, hap_h2d_g11, hap_h2d_g13, hap_h2d_g15, hap_h2d_g28⟩ := hVs 13 (by decide) (by decide)
      have hv14 : vals 14 = _ := hVs 14 (by decide) (by decide)
      have hv15 : vals 15 = _ := hVs 15 (by decide) (by decide)
      obtain ⟨A78, hv16, hO80, hN81, hap_hO80_g11, hap_hO80_g13, hap_hO80_g15, hap_hO80_g28⟩ := hVs 16 (by decide) (by decide)
      obtain ⟨A84, m85, c86, A87, m88, c89, hv17, h3n, h3d, h3m, hap_h3n_g11, hap_h3n_g13, hap_h3n_g15, hap_h3n_g28, hap_h3d_g11, hap_h3d_g13, hap_h3d_g15, hap_h3d_g28⟩ := hVs 17 (by decide) (by decide)
      have hv18 : vals 18 = _ := hVs 18 (by decide) (by decide)
      have hv19 : vals 19 = _ := hVs 19 (by decide) (by decide)
      have hv20 : vals 20 = _ := hVs 20 (by decide) (by decide)
      have hv21 : vals 21 = _ := hVs 21 (by decide) (by decide)
      have hv22 : vals 22 = _ := hVs 22 (by decide) (by decide)
      have hv23 : vals 23 = _ := hVs 23 (by decide) (by decide)
      obtain ⟨A98, hv24, hO100, hN101, hap_hO100_g11, hap_hO100_g13, hap_hO100_g15, hap_hO100_g28⟩ := hVs 24 (by decide) (by decide)
      obtain ⟨A104, m105, c106, A107, m108, c109, hv25, h4n, h4d, h4m, hap_h4n_g11, hap_h4n_g13, hap_h4n_g15, hap_h4n_g28, hap_h4d_g11, hap_h4d_g13, hap_h4d_g15, hap_h4d_g28⟩ := hVs 25 (by decide) (by decide)
      have hv26 : vals 26 = _ := hVs 26 (by decide) (by decide)
      have hv27 : vals 27 = _ := hVs 27 (by decide) (by decide)
      obtain ⟨A113, hv28, hO115, hN116, hap_hO115_g11, hap_hO115_g13, hap_hO115_g15, hap_hO115_g28⟩ := hVs 28 (by decide) (by decide)
      obtain ⟨A119, m120, c121, A122, m123, c124, hv29, h5n, h5d, h5m, hap_h5n_g11, hap_h5n_g13, hap_h5n_g15, hap_h5n_g28, hap_h5d_g11, hap_h5d_g13, hap_h5d_g15, hap_h5d_g28⟩ := hVs 29 (by decide) (by decide)
      have hv30 : vals 30 = _ := hVs 30 (by decide) (by decide)
      have hv31 : vals 31 = _ := hVs 31 (by decide) (by decide)
      have hv32 : vals 32 = _ := hVs 32 (by decide) (by decide)
      rw [show (List.filterMap (fun i => Option.map (fun t => (t, vals i)) (dstAt _ i)) (List.range _)) = [(16, .agg #[.bool false, .slice A22 1 1, .slice A25 1 1]), (17, .agg #[.bool false, .slice A22 1 1, .slice A25 1 1]), (18, .slice A35 2 2), (19, .agg #[.bool (qneg ((val false (nv ([1])) (nv ([2]))) + (val false (nv ([1])) (nv ([2]))))), .slice A41 m42 c43, .slice A44 m45 c46]), (20, .slice A48 1 1), (21, .slice A52 1 1), (22, .agg #[.bool false, .slice A48_6 1 1, .slice A52_6 1 1]), (23, .bool true), (24, .bool false), (25, .bool false), (26, .agg #[.bool na, .slice Aan man can, .slice Aad mad cad]), (27, .agg #[.bool nb, .slice Abn mbn cbn, .slice Abd mbd cbd]), (28, .slice A63 2 2), (29, .agg #[.bool (qneg (qa + qb)), .slice A69 m70 c71, .slice A72 m73 c74]), (30, .agg #[.bool nb, .slice Abn mbn cbn, .slice Abd mbd cbd]), (31, .agg #[.bool na, .slice Aan man can, .slice Aad mad cad]), (32, .slice A78 2 2), (33, .agg #[.bool (qneg (qb + qa)), .slice A84 m85 c86, .slice A87 m88 c89]), (34, .bool true), (35, .bool false), (36, .bool false), (37, .bool false), (38, .agg #[.bool na, .slice Aan man can, .slice Aad mad cad]), (39, .agg #[.bool nb, .slice Abn mbn cbn, .slice Abd mbd cbd]), (40, .slice A98 2 2), (41, .agg #[.bool (qneg (qa * qb)), .slice A104 m105 c106, .slice A107 m108 c109]), (42, .agg #[.bool nb, .slice Abn mbn cbn, .slice Abd mbd cbd]), (43, .agg #[.bool na, .slice Aan man can, .slice Aad mad cad]), (44, .slice A113 2 2), (45, .agg #[.bool (qneg (qb * qa)), .slice A119 m120 c121, .slice A122 m123 c124]), (46, .bool true), (47, .bool false), (48, .bool false)] from by
        show [(16, vals 0), (17, vals 1), (18, vals 2), (19, vals 3), (20, vals 4), (21, vals 5), (22, vals 6), (23, vals 7), (24, vals 8), (25, vals 9), (26, vals 10), (27, vals 11), (28, vals 12), (29, vals 13), (30, vals 14), (31, vals 15), (32, vals 16), (33, vals 17), (34, vals 18), (35, vals 19), (36, vals 20), (37, vals 21), (38, vals 22), (39, vals 23), (40, vals 24), (41, vals 25), (42, vals 26), (43, vals 27), (44, vals 28), (45, vals 29), (46, vals 30), (47, vals 31), (48, vals 32)] = _
        rw [hv0, hv1, hv2, hv3, hv4, hv5, hv6, hv7, hv8, hv9, hv10, hv11, hv12, hv13, hv14, hv15, hv16, hv17, hv18, hv19, hv20, hv21, hv22, hv23, hv24, hv25, hv26, hv27, hv28, hv29, hv30, hv31, hv32]]
      refine W.condF rfl ?_
      refine W.skip ?_
      refine W.seq ?_
      refine W.seq ?_
      refine W.draw [⟨[], [3], false⟩, ⟨[], [4], false⟩, ⟨[0, 1], [], false⟩, ⟨[2], [], false⟩, ⟨[], [5], false⟩, ⟨[3, 4], [], false⟩, ⟨[5], [], false⟩, ⟨[], [3], false⟩, ⟨[], [4], false⟩, ⟨[], [5], false⟩, ⟨[8, 9], [], false⟩, ⟨[10], [], false⟩, ⟨[7, 11], [], false⟩, ⟨[12], [], false⟩, ⟨[6, 13], [], false⟩, ⟨[14], [], true⟩, ⟨[15], [], true⟩, ⟨[16], [3], false⟩, ⟨[16], [4], false⟩, ⟨[16, 17, 18], [], false⟩, ⟨[16, 19], [], false⟩, ⟨[16], [5], false⟩, ⟨[16, 20, 21], [], false⟩, ⟨[16, 22], [], false⟩, ⟨[16], [3], false⟩, ⟨[16], [4], false⟩, ⟨[16], [5], false⟩, ⟨[16, 25, 26], [], false⟩, ⟨[16, 27], [], false⟩, ⟨[16, 24, 28], [], false⟩, ⟨[16, 29], [], false⟩, ⟨[16, 23, 30], [], false⟩, ⟨[16, 31], [], true⟩, ⟨[16, 32], [], true⟩] [[(3, .pointer (some ⟨g11, 0, none⟩))], [(4, .pointer (some ⟨g13, 0, none⟩))], [], [], [(5, .pointer (some ⟨g15, 0, none⟩))], [], [], [(3, .pointer (some ⟨g11, 0, none⟩))], [(4, .pointer (some ⟨g13, 0, none⟩))], [(5, .pointer (some ⟨g15, 0, none⟩))], [], [], [], [], [], [], [], [(3, .pointer (some ⟨g11, 0, none⟩))], [(4, .pointer (some ⟨g13, 0, none⟩))], [], [], [(5, .pointer (some ⟨g15, 0, none⟩))], [], [], [(3, .pointer (some ⟨g11, 0, none⟩))], [(4, .pointer (some ⟨g13, 0, none⟩))], [(5, .pointer (some ⟨g15, 0, none⟩))], [], [], [], [], [], [], []] (fun iQ => [fun v wQ => v = .agg #[.bool na, .slice Aan man can, .slice Aad mad cad], fun v wQ => v = .agg #[.bool nb, .slice Abn mbn cbn, .slice Abd mbd cbd], fun v wQ => ∃ A133, v = .slice A133 2 2 ∧ (Own w.heap.size wQ 31 3 A133 2 2 [.bool na, .slice Aan man can, .slice Aad mad cad, .bool nb, .slice Abn mbn cbn, .slice Abd mbd cbd]) ∧ (RatsR wQ.heap.size wQ [.bool na, .slice Aan man can, .slice Aad mad cad, .bool nb, .slice Abn mbn cbn, .slice Abd mbd cbd] [(na, xan, xad), (nb, xbn, xbd)]) ∧ (∀ k, bl A133 = some k → k ≠ g11) ∧ (∀ k, bl A133 = some k → k ≠ g13) ∧ (∀ k, bl A133 = some k → k ≠ g15) ∧ (∀ k, bl A133 = some k → k ≠ g28), fun v wQ => ∃ A139 m140 c141 A142 m143 c144, v = .agg #[.bool (qneg (qa + qb)), .slice A139 m140 c141, .slice A142 m143 c144] ∧ (Own w.heap.size wQ 43 1 A139 m140 c141 (us (digs (qnum (qa + qb))))) ∧ (Own w.heap.size wQ 43 1 A142 m143 c144 (us (digs (Rat.den (qa + qb))))) ∧ (m140 ≤ 53 ∧ m143 ≤ 53) ∧ (∀ k, bl A139 = some k → k ≠ g11) ∧ (∀ k, bl A139 = some k → k ≠ g13) ∧ (∀ k, bl A139 = some k → k ≠ g15) ∧ (∀ k, bl A139 = some k → k ≠ g28) ∧ (∀ k, bl A142 = some k → k ≠ g11) ∧ (∀ k, bl A142 = some k → k ≠ g13) ∧ (∀ k, bl A142 = some k → k ≠ g15) ∧ (∀ k, bl A142 = some k → k ≠ g28), fun v wQ => v = .agg #[.bool nc, .slice Acn mcn ccn, .slice Acd mcd ccd], fun v wQ => ∃ A139_5 m140_5 c141_5 A142_5 m143_5 c144_5 A147, v = .slice A147 2 2 ∧ (Own w.heap.size wQ 43 1 A139_5 m140_5 c141_5 (us (digs (qnum (qa + qb))))) ∧ (Own w.heap.size wQ 43 1 A142_5 m143_5 c144_5 (us (digs (Rat.den (qa + qb))))) ∧ (m140_5 ≤ 53 ∧ m143_5 ≤ 53) ∧ (∀ k, bl A139_5 = some k → k ≠ g11) ∧ (∀ k, bl A139_5 = some k → k ≠ g13) ∧ (∀ k, bl A139_5 = some k → k ≠ g15) ∧ (∀ k, bl A139_5 = some k → k ≠ g28) ∧ (∀ k, bl A142_5 = some k → k ≠ g11) ∧ (∀ k, bl A142_5 = some k → k ≠ g13) ∧ (∀ k, bl A142_5 = some k → k ≠ g15) ∧ (∀ k, bl A142_5 = some k → k ≠ g28) ∧ (Own w.heap.size wQ 31 3 A147 2 2 [.bool (qneg (qa + qb)), .slice A139_5 m140_5 c141_5, .slice A142_5 m143_5 c144_5, .bool nc, .slice Acn mcn ccn, .slice Acd mcd ccd]) ∧ (RatsR wQ.heap.size wQ [.bool (qneg (qa + qb)), .slice A139_5 m140_5 c141_5, .slice A142_5 m143_5 c144_5, .bool nc, .slice Acn mcn ccn, .slice Acd mcd ccd] [((qneg (qa + qb)), digs (qnum (qa + qb)), digs (Rat.den (qa + qb))), (nc, xcn, xcd)]) ∧ (∀ k, bl A147 = some k → k ≠ g11) ∧ (∀ k, bl A147 = some k → k ≠ g13) ∧ (∀ k, bl A147 = some k → k ≠ g15) ∧ (∀ k, bl A147 = some k → k ≠ g28), fun v wQ => ∃ A153 m154 c155 A156 m157 c158, v = .agg #[.bool (qneg ((qa + qb) + qc)), .slice A153 m154 c155, .slice A156 m157 c158] ∧ (Own w.heap.size wQ 43 1 A153 m154 c155 (us (digs (qnum ((qa + qb) + qc))))) ∧ (Own w.heap.size wQ 43 1 A156 m157 c158 (us (digs (Rat.den ((qa + qb) + qc))))) ∧ (m154 ≤ 405 ∧ m157 ≤ 405) ∧ (∀ k, bl A153 = some k → k ≠ g11) ∧ (∀ k, bl A153 = some k → k ≠ g13) ∧ (∀ k, bl A153 = some k → k ≠ g15) ∧ (∀ k, bl A153 = some k → k ≠ g28) ∧ (∀ k, bl A156 = some k → k ≠ g11) ∧ (∀ k, bl A156 = some k → k ≠ g13) ∧ (∀ k, bl A156 = some k → k ≠ g15) ∧ (∀ k, bl A156 = some k → k ≠ g28), fun v wQ => v = .agg #[.bool na, .slice Aan man can, .slice Aad mad cad], fun v wQ => v = .agg #[.bool nb, .slice Abn mbn cbn, .slice Abd mbd cbd], fun v wQ => v = .agg #[.bool nc, .slice Acn mcn ccn, .slice Acd mcd ccd], fun v wQ => ∃ A163, v = .slice A163 2 2 ∧ (Own w.heap.size wQ 31 3 A163 2 2 [.bool nb, .slice Abn mbn cbn, .slice Abd mbd cbd, .bool nc, .slice Acn mcn ccn, .slice Acd mcd ccd]) ∧ (RatsR wQ.heap.size wQ [.bool nb, .slice Abn mbn cbn, .slice Abd mbd cbd, .bool nc, .slice Acn mcn ccn, .slice Acd mcd ccd] [(nb, xbn, xbd), (nc, xcn, xcd)]) ∧ (∀ k, bl A163 = some k → k ≠ g11) ∧ (∀ k, bl A163 = some k → k ≠ g13) ∧ (∀ k, bl A163 = some k → k ≠ g15) ∧ (∀ k, bl A163 = some k → k ≠ g28), fun v wQ => ∃ A169 m170 c171 A172 m173 c174, v = .agg #[.bool (qneg (qb + qc)), .slice A169 m170 c171, .slice A172 m173 c174] ∧ (Own w.heap.size wQ 43 1 A169 m170 c171 (us (digs (qnum (qb + qc))))) ∧ (Own w.heap.size wQ 43 1 A172 m173 c174 (us (digs (Rat.den (qb + qc))))) ∧ (m170 ≤ 53 ∧ m173 ≤ 53) ∧ (∀ k, bl A169 = some k → k ≠ g11) ∧ (∀ k, bl A169 = some k → k ≠ g13) ∧ (∀ k, bl A169 = some k → k ≠ g15) ∧ (∀ k, bl A169 = some k → k ≠ g28) ∧ (∀ k, bl A172 = some k → k ≠ g11) ∧ (∀ k, bl A172 = some k → k ≠ g13) ∧ (∀ k, bl A172 = some k → k ≠ g15) ∧ (∀ k, bl A172 = some k → k ≠ g28), fun v wQ => ∃ A169_12 m170_12 c171_12 A172_12 m173_12 c174_12 A176, v = .slice A176 2 2 ∧ (Own w.heap.size wQ 43 1 A169_12 m170_12 c171_12 (us (digs (qnum (qb + qc))))) ∧ (Own w.heap.size wQ 43 1 A172_12 m173_12 c174_12 (us (digs (Rat.den (qb + qc))))) ∧ (m170_12 ≤ 53 ∧ m173_12 ≤ 53) ∧ (∀ k, bl A169_12 = some k → k ≠ g11) ∧ (∀ k, bl A169_12 = some k → k ≠ g13) ∧ (∀ k, bl A169_12 = some k → k ≠ g15) ∧ (∀ k, bl A169_12 = some k → k ≠ g28) ∧ (∀ k, bl A172_12 = some k → k ≠ g11) ∧ (∀ k, bl A172_12 = some k → k ≠ g13) ∧ (∀ k, bl A172_12 = some k → k ≠ g15) ∧ (∀ k, bl A172_12 = some k → k ≠ g28) ∧ (Own w.heap.size wQ 31 3 A176 2 2 [.bool na, .slice Aan man can, .slice Aad mad cad, .bool (qneg (qb + qc)), .slice A169_12 m170_12 c171_12, .slice A172_12 m173_12 c174_12]) ∧ (RatsR wQ.heap.size wQ [.bool na, .slice Aan man can, .slice Aad mad cad, .bool (qneg (qb + qc)), .slice A169_12 m170_12 c171_12, .slice A172_12 m173_12 c174_12] [(na, xan, xad), ((qneg (qb + qc)), digs (qnum (qb + qc)), digs (Rat.den (qb + qc)))]) ∧ (∀ k, bl A176 = some k → k ≠ g11) ∧ (∀ k, bl A176 = some k → k ≠ g13) ∧ (∀ k, bl A176 = some k → k ≠ g15) ∧ (∀ k, bl A176 = some k → k ≠ g28), fun v wQ => ∃ A182 m183 c184 A185 m186 c187, v = .agg #[.bool (qneg (qa + (qb + qc))), .slice A182 m183 c184, .slice A185 m186 c187] ∧ (Own w.heap.size wQ 43 1 A182 m183 c184 (us (digs (qnum (qa + (qb + qc)))))) ∧ (Own w.heap.size wQ 43 1 A185 m186 c187 (us (digs (Rat.den (qa + (qb + qc)))))) ∧ (m183 ≤ 405 ∧ m186 ≤ 405) ∧ (∀ k, bl A182 = some k → k ≠ g11) ∧ (∀ k, bl A182 = some k → k ≠ g13) ∧ (∀ k, bl A182 = some k → k ≠ g15) ∧ (∀ k, bl A182 = some k → k ≠ g28) ∧ (∀ k, bl A185 = some k → k ≠ g11) ∧ (∀ k, bl A185 = some k → k ≠ g13) ∧ (∀ k, bl A185 = some k → k ≠ g15) ∧ (∀ k, bl A185 = some k → k ≠ g28), fun v wQ => v = .bool true, fun v wQ => v = .bool false, fun v wQ => v = .bool false, fun v wQ => v = .agg #[.bool na, .slice Aan man can, .slice Aad mad cad], fun v wQ => v = .agg #[.bool nb, .slice Abn mbn cbn, .slice Abd mbd cbd], fun v wQ => ∃ A195, v = .slice A195 2 2 ∧ (Own w.heap.size wQ 31 3 A195 2 2 [.bool na, .slice Aan man can, .slice Aad mad cad, .bool nb, .slice Abn mbn cbn, .slice Abd mbd cbd]) ∧ (RatsR wQ.heap.size wQ [.bool na, .slice Aan man can, .slice Aad mad cad, .bool nb, .slice Abn mbn cbn, .slice Abd mbd cbd] [(na, xan, xad), (nb, xbn, xbd)]) ∧ (∀ k, bl A195 = some k → k ≠ g11) ∧ (∀ k, bl A195 = some k → k ≠ g13) ∧ (∀ k, bl A195 = some k → k ≠ g15) ∧ (∀ k, bl A195 = some k → k ≠ g28), fun v wQ => ∃ A201 m202 c203 A204 m205 c206, v = .agg #[.bool (qneg (qa * qb)), .slice A201 m202 c203, .slice A204 m205 c206] ∧ (Own w.heap.size wQ 43 1 A201 m202 c203 (us (digs (qnum (qa * qb))))) ∧ (Own w.heap.size wQ 43 1 A204 m205 c206 (us (digs (Rat.den (qa * qb))))) ∧ (m202 ≤ 53 ∧ m205 ≤ 53) ∧ (∀ k, bl A201 = some k → k ≠ g11) ∧ (∀ k, bl A201 = some k → k ≠ g13) ∧ (∀ k, bl A201 = some k → k ≠ g15) ∧ (∀ k, bl A201 = some k → k ≠ g28) ∧ (∀ k, bl A204 = some k → k ≠ g11) ∧ (∀ k, bl A204 = some k → k ≠ g13) ∧ (∀ k, bl A204 = some k → k ≠ g15) ∧ (∀ k, bl A204 = some k → k ≠ g28), fun v wQ => v = .agg #[.bool nc, .slice Acn mcn ccn, .slice Acd mcd ccd], fun v wQ => ∃ A201_22 m202_22 c203_22 A204_22 m205_22 c206_22 A209, v = .slice A209 2 2 ∧ (Own w.heap.size wQ 43 1 A201_22 m202_22 c203_22 (us (digs (qnum (qa * qb))))) ∧ (Own w.heap.size wQ 43 1 A204_22 m205_22 c206_22 (us (digs (Rat.den (qa * qb))))) ∧ (m202_22 ≤ 53 ∧ m205_22 ≤ 53) ∧ (∀ k, bl A201_22 = some k → k ≠ g11) ∧ (∀ k, bl A201_22 = some k → k ≠ g13) ∧ (∀ k, bl A201_22 = some k → k ≠ g15) ∧ (∀ k, bl A201_22 = some k → k ≠ g28) ∧ (∀ k, bl A204_22 = some k → k ≠ g11) ∧ (∀ k, bl A204_22 = some k → k ≠ g13) ∧ (∀ k, bl A204_22 = some k → k ≠ g15) ∧ (∀ k, bl A204_22 = some k → k ≠ g28) ∧ (Own w.heap.size wQ 31 3 A209 2 2 [.bool (qneg (qa * qb)), .slice A201_22 m202_22 c203_22, .slice A204_22 m205_22 c206_22, .bool nc, .slice Acn mcn ccn, .slice Acd mcd ccd]) ∧ (RatsR wQ.heap.size wQ [.bool (qneg (qa * qb)), .slice A201_22 m202_22 c203_22, .slice A204_22 m205_22 c206_22, .bool nc, .slice Acn mcn ccn, .slice Acd mcd ccd] [((qneg (qa * qb)), digs (qnum (qa * qb)), digs (Rat.den (qa * qb))), (nc, xcn, xcd)]) ∧ (∀ k, bl A209 = some k → k ≠ g11) ∧ (∀ k, bl A209 = some k → k ≠ g13) ∧ (∀ k, bl A209 = some k → k ≠ g15) ∧ (∀ k, bl A209 = some k → k ≠ g28), fun v wQ => ∃ A215 m216 c217 A218 m219 c220, v = .agg #[.bool (qneg ((qa * qb) * qc)), .slice A215 m216 c217, .slice A218 m219 c220] ∧ (Own w.heap.size wQ 43 1 A215 m216 c217 (us (digs (qnum ((qa * qb) * qc))))) ∧ (Own w.heap.size wQ 43 1 A218 m219 c220 (us (digs (Rat.den ((qa * qb) * qc))))) ∧ (m216 ≤ 405 ∧ m219 ≤ 405) ∧ (∀ k, bl A215 = some k → k ≠ g11) ∧ (∀ k, bl A215 = some k → k ≠ g13) ∧ (∀ k, bl A215 = some k → k ≠ g15) ∧ (∀ k, bl A215 = some k → k ≠ g28) ∧ (∀ k, bl A218 = some k → k ≠ g11) ∧ (∀ k, bl A218 = some k → k ≠ g13) ∧ (∀ k, bl A218 = some k → k ≠ g15) ∧ (∀ k, bl A218 = some k → k ≠ g28), fun v wQ => v = .agg #[.bool na, .slice Aan man can, .slice Aad mad cad], fun v wQ => v = .agg #[.bool nb, .slice Abn mbn cbn, .slice Abd mbd cbd], fun v wQ => v = .agg #[.bool nc, .slice Acn mcn ccn, .slice Acd mcd ccd], fun v wQ => ∃ A225, v = .slice A225 2 2 ∧ (Own w.heap.size wQ 31 3 A225 2 2 [.bool nb, .slice Abn mbn cbn, .slice Abd mbd cbd, .bool nc, .slice Acn mcn ccn, .slice Acd mcd ccd]) ∧ (RatsR wQ.heap.size wQ [.bool nb, .slice Abn mbn cbn, .slice Abd mbd cbd, .bool nc, .slice Acn mcn ccn, .slice Acd mcd ccd] [(nb, xbn, xbd), (nc, xcn, xcd)]) ∧ (∀ k, bl A225 = some k → k ≠ g11) ∧ (∀ k, bl A225 = some k → k ≠ g13) ∧ (∀ k, bl A225 = some k → k ≠ g15) ∧ (∀ k, bl A225 = some k → k ≠ g28), fun v wQ => ∃ A231 m232 c233 A234 m235 c236, v = .agg #[.bool (qneg (qb * qc)), .slice A231 m232 c233, .slice A234 m235 c236] ∧ (Own w.heap.size wQ 43 1 A231 m232 c233 (us (digs (qnum (qb * qc))))) ∧ (Own w.heap.size wQ 43 1 A234 m235 c236 (us (digs (Rat.den (qb * qc))))) ∧ (m232 ≤ 53 ∧ m235 ≤ 53) ∧ (∀ k, bl A231 = some k → k ≠ g11) ∧ (∀ k, bl A231 = some k → k ≠ g13) ∧ (∀ k, bl A231 = some k → k ≠ g15) ∧ (∀ k, bl A231 = some k → k ≠ g28) ∧ (∀ k, bl A234 = some k → k ≠ g11) ∧ (∀ k, bl A234 = some k → k ≠ g13) ∧ (∀ k, bl A234 = some k → k ≠ g15) ∧ (∀ k, bl A234 = some k → k ≠ g28), fun v wQ => ∃ A231_29 m232_29 c233_29 A234_29 m235_29 c236_29 A238, v = .slice A238 2 2 ∧ (Own w.heap.size wQ 43 1 A231_29 m232_29 c233_29 (us (digs (qnum (qb * qc))))) ∧ (Own w.heap.size wQ 43 1 A234_29 m235_29 c236_29 (us (digs (Rat.den (qb * qc))))) ∧ (m232_29 ≤ 53 ∧ m235_29 ≤ 53) ∧ (∀ k, bl A231_29 = some k → k ≠ g11) ∧ (∀ k, bl A231_29 = some k → k ≠ g13) ∧ (∀ k, bl A231_29 = some k → k ≠ g15) ∧ (∀ k, bl A231_29 = some k → k ≠ g28) ∧ (∀ k, bl A234_29 = some k → k ≠ g11) ∧ (∀ k, bl A234_29 = some k → k ≠ g13) ∧ (∀ k, bl A234_29 = some k → k ≠ g15) ∧ (∀ k, bl A234_29 = some k → k ≠ g28) ∧ (Own w.heap.size wQ 31 3 A238 2 2 [.bool na, .slice Aan man can, .slice Aad mad cad, .bool (qneg (qb * qc)), .slice A231_29 m232_29 c233_29, .slice A234_29 m235_29 c236_29]) ∧ (RatsR wQ.heap.size wQ [.bool na, .slice Aan man can, .slice Aad mad cad, .bool (qneg (qb * qc)), .slice A231_29 m232_29 c233_29, .slice A234_29 m235_29 c236_29] [(na, xan, xad), ((qneg (qb * qc)), digs (qnum (qb * qc)), digs (Rat.den (qb * qc)))]) ∧ (∀ k, bl A238 = some k → k ≠ g11) ∧ (∀ k, bl A238 = some k → k ≠ g13) ∧ (∀ k, bl A238 = some k → k ≠ g15) ∧ (∀ k, bl A238 = some k → k ≠ g28), fun v wQ => ∃ A244 m245 c246 A247 m248 c249, v = .agg #[.bool (qneg (qa * (qb * qc))), .slice A244 m245 c246, .slice A247 m248 c249] ∧ (Own w.heap.size wQ 43 1 A244 m245 c246 (us (digs (qnum (qa * (qb * qc)))))) ∧ (Own w.heap.size wQ 43 1 A247 m248 c249 (us (digs (Rat.den (qa * (qb * qc)))))) ∧ (m245 ≤ 405 ∧ m248 ≤ 405) ∧ (∀ k, bl A244 = some k → k ≠ g11) ∧ (∀ k, bl A244 = some k → k ≠ g13) ∧ (∀ k, bl A244 = some k → k ≠ g15) ∧ (∀ k, bl A244 = some k → k ≠ g28) ∧ (∀ k, bl A247 = some k → k ≠ g11) ∧ (∀ k, bl A247 = some k → k ≠ g13) ∧ (∀ k, bl A247 = some k → k ≠ g15) ∧ (∀ k, bl A247 = some k → k ≠ g28), fun v wQ => v = .bool true, fun v wQ => v = .bool false, fun v wQ => v = .bool false].getD iQ (fun _ _ => True)) (fun _ => True) 34 Try.mixed (by kernel_rfl) ?_ ?_ ?_
      · refine Vs_mono _ ?_
        intro VQ hVQ vQ wQ1 wQ2 hQ1 hQ2
        have hQ2 := hQ2.resolve_right (by decide)
        simp only [List.mem_cons, List.not_mem_nil, or_false] at hVQ
        rcases hVQ with rfl | rfl | rfl | rfl | rfl | rfl | rfl | rfl | rfl | rfl | rfl | rfl | rfl | rfl | rfl | rfl | rfl | rfl | rfl | rfl | rfl | rfl | rfl | rfl | rfl | rfl | rfl | rfl | rfl | rfl | rfl | rfl | rfl | rfl
        · exact hQ1
        · exact hQ1
        · obtain ⟨A133, hQe, hO135, hN136, hap_hO135_g11, hap_hO135_g13, hap_hO135_g15, hap_hO135_g28⟩ := hQ1
          exact ⟨A133, hQe, hO135.ext hQ2, (hN136.ext hQ2).norm, hap_hO135_g11, hap_hO135_g13, hap_hO135_g15, hap_hO135_g28⟩
        · obtain ⟨A139, m140, c141, A142, m143, c144, hQe, h6n, h6d, h6m, hap_h6n_g11, hap_h6n_g13, hap_h6n_g15, hap_h6n_g28, hap_h6d_g11, hap_h6d_g13, hap_h6d_g15, hap_h6d_g28⟩ := hQ1
          exact ⟨A139, m140, c141, A142, m143, c144, hQe, h6n.ext hQ2, h6d.ext hQ2, h6m, hap_h6n_g11, hap_h6n_g13, hap_h6n_g15, hap_h6n_g28, hap_h6d_g11, hap_h6d_g13, hap_h6d_g15, hap_h6d_g28⟩
        · exact hQ1
        · obtain ⟨A139_5, m140_5, c141_5, A142_5, m143_5, c144_5, A147, hQe, h6n_5, h6d_5, h6m_5, hap_h6n_g11_5, hap_h6n_g13_5, hap_h6n_g15_5, hap_h6n_g28_5, hap_h6d_g11_5, hap_h6d_g13_5, hap_h6d_g15_5, hap_h6d_g28_5, hO149, hN150, hap_hO149_g11, hap_hO149_g13, hap_hO149_g15, hap_hO149_g28⟩ := hQ1
          exact ⟨A139_5, m140_5, c141_5, A142_5, m143_5, c144_5, A147, hQe, h6n_5.ext hQ2, h6d_5.ext hQ2, h6m_5, hap_h6n_g11_5, hap_h6n_g13_5, hap_h6n_g15_5, hap_h6n_g28_5, hap_h6d_g11_5, hap_h6d_g13_5, hap_h6d_g15_5, hap_h6d_g28_5, hO149.ext hQ2, (hN150.ext hQ2).norm, hap_hO149_g11, hap_hO149_g13, hap_hO149_g15, hap_hO149_g28⟩
        · obtain ⟨A153, m154, c155, A156, m157, c158, hQe, h7n, h7d, h7m, hap_h7n_g11, hap_h7n_g13, hap_h7n_g15, hap_h7n_g28, hap_h7d_g11, hap_h7d_g13, hap_h7d_g15, hap_h7d_g28⟩ := hQ1
          exact ⟨A153, m154, c155, A156, m157, c158, hQe, h7n.ext hQ2, h7d.ext hQ2, h7m, hap_h7n_g11, hap_h7n_g13, hap_h7n_g15, hap_h7n_g28, hap_h7d_g11, hap_h7d_g13, hap_h7d_g15, hap_h7d_g28⟩
        · exact hQ1
        · exact hQ1
        · exact hQ1
        · obtain ⟨A163, hQe, hO165, hN166, hap_hO165_g11, hap_hO165_g13, hap_hO165_g15, hap_hO165_g28⟩ := hQ1
          exact ⟨A163, hQe, hO165.ext hQ2, (hN166.ext hQ2).norm, hap_hO165_g11, hap_hO165_g13, hap_hO165_g15, hap_hO165_g28⟩
        · obtain ⟨A169, m170, c171, A172, m173, c174, hQe, h8n, h8d, h8m, hap_h8n_g11, hap_h8n_g13, hap_h8n_g15, hap_h8n_g28, hap_h8d_g11, hap_h8d_g13, hap_h8d_g15, hap_h8d_g28⟩ := hQ1
          exact ⟨A169, m170, c171, A172, m173, c174, hQe, h8n.ext hQ2, h8d.ext hQ2, h8m, hap_h8n_g11, hap_h8n_g13, hap_h8n_g15, hap_h8n_g28, hap_h8d_g11, hap_h8d_g13, hap_h8d_g15, hap_h8d_g28⟩
        · obtain ⟨A169_12, m170_12, c171_12, A172_12, m173_12, c174_12, A176, hQe, h8n_12, h8d_12, h8m_12, hap_h8n_g11_12, hap_h8n_g13_12, hap_h8n_g15_12, hap_h8n_g28_12, hap_h8d_g11_12, hap_h8d_g13_12, hap_h8d_g15_12, hap_h8d_g28_12, hO178, hN179, hap_hO178_g11, hap_hO178_g13, hap_hO178_g15, hap_hO178_g28⟩ := hQ1
          exact ⟨A169_12, m170_12, c171_12, A172_12, m173_12, c174_12, A176, hQe, h8n_12.ext hQ2, h8d_12.ext hQ2, h8m_12, hap_h8n_g11_12, hap_h8n_g13_12, hap_h8n_g15_12, hap_h8n_g28_12, hap_h8d_g11_12, hap_h8d_g13_12, hap_h8d_g15_12, hap_h8d_g28_12, hO178.ext hQ2, (hN179.ext hQ2).norm, hap_hO178_g11, hap_hO178_g13, hap_hO178_g15, hap_hO178_g28⟩
        · obtain ⟨A182, m183, c184, A185, m186, c187, hQe, h9n, h9d, h9m, hap_h9n_g11, hap_h9n_g13, hap_h9n_g15, hap_h9n_g28, hap_h9d_g11, hap_h9d_g13, hap_h9d_g15, hap_h9d_g28⟩ := hQ1
          exact ⟨A182, m183, c184, A185, m186, c187, hQe, h9n.ext hQ2, h9d.ext hQ2, h9m, hap_h9n_g11, hap_h9n_g13, hap_h9n_g15, hap_h9n_g28, hap_h9d_g11, hap_h9d_g13, hap_h9d_g15, hap_h9d_g28⟩
        · exact hQ1
        · exact hQ1
        · exact hQ1
        · exact hQ1
        · exact hQ1
        · obtain ⟨A195, hQe, hO197, hN198, hap_hO197_g11, hap_hO197_g13, hap_hO197_g15, hap_hO197_g28⟩ := hQ1
          exact ⟨A195, hQe, hO197.ext hQ2, (hN198.ext hQ2).norm, hap_hO197_g11, hap_hO197_g13, hap_hO197_g15, hap_hO197_g28⟩
        · obtain ⟨A201, m202, c203, A204, m205, c206, hQe, i1n, i1d, i1m, hap_i1n_g11, hap_i1n_g13, hap_i1n_g15, hap_i1n_g28, hap_i1d_g11, hap_i1d_g13, hap_i1d_g15, hap_i1d_g28⟩ := hQ1
          exact ⟨A201, m202, c203, A204, m205, c206, hQe, i1n.ext hQ2, i1d.ext hQ2, i1m, hap_i1n_g11, hap_i1n_g13, hap_i1n_g15, hap_i1n_g28, hap_i1d_g11, hap_i1d_g13, hap_i1d_g15, hap_i1d_g28⟩
        · exact hQ1
        · obtain ⟨A201_22, m202_22, c203_22, A204_22, m205_22, c206_22, A209, hQe, i1n_22, i1d_22, i1m_22, hap_i1n_g11_22, hap_i1n_g13_22, hap_i1n_g15_22, hap_i1n_g28_22, hap_i1d_g11_22, hap_i1d_g13_22, hap_i1d_g15_22, hap_i1d_g28_22, hO211, hN212, hap_hO211_g11, hap_hO211_g13, hap_hO211_g15, hap_hO211_g28⟩ := hQ1
          exact ⟨A201_22, m202_22, c203_22, A204_22, m205_22, c206_22, A209, hQe, i1n_22.ext hQ2, i1d_22.ext hQ2, i1m_22, hap_i1n_g11_22, hap_i1n_g13_22, hap_i1n_g15_22, hap_i1n_g28_22, hap_i1d_g11_22, hap_i1d_g13_22, hap_i1d_g15_22, hap_i1d_g28_22, hO211.ext hQ2, (hN212.ext hQ2).norm, hap_hO211_g11, hap_hO211_g13, hap_hO211_g15, hap_hO211_g28⟩
        · obtain ⟨A215, m216, c217, A218, m219, c220, hQe, i2n, i2d, i2m, hap_i2n_g11, hap_i2n_g13, hap_i2n_g15, hap_i2n_g28, hap_i2d_g11, hap_i2d_g13, hap_i2d_g15, hap_i2d_g28⟩ := hQ1
          exact ⟨A215, m216, c217, A218, m219, c220, hQe, i2n.ext hQ2, i2d.ext hQ2, i2m, hap_i2n_g11, hap_i2n_g13, hap_i2n_g15, hap_i2n_g28, hap_i2d_g11, hap_i2d_g13, hap_i2d_g15, hap_i2d_g28⟩
        · exact hQ1
        · exact hQ1
        · exact hQ1
        · obtain ⟨A225, hQe, hO227, hN228, hap_hO227_g11, hap_hO227_g13, hap_hO227_g15, hap_hO227_g28⟩ := hQ1
          exact ⟨A225, hQe, hO227.ext hQ2, (hN228.ext hQ2).norm, hap_hO227_g11, hap_hO227_g13, hap_hO227_g15, hap_hO227_g28⟩
        · obtain ⟨A231, m232, c233, A234, m235, c236, hQe, i3n, i3d, i3m, hap_i3n_g11, hap_i3n_g13, hap_i3n_g15, hap_i3n_g28, hap_i3d_g11, hap_i3d_g13, hap_i3d_g15, hap_i3d_g28⟩ := hQ1
          exact ⟨A231, m232, c233, A234, m235, c236, hQe, i3n.ext hQ2, i3d.ext hQ2, i3m, hap_i3n_g11, hap_i3n_g13, hap_i3n_g15, hap_i3n_g28, hap_i3d_g11, hap_i3d_g13, hap_i3d_g15, hap_i3d_g28⟩
        · obtain ⟨A231_29, m232_29, c233_29, A234_29, m235_29, c236_29, A238, hQe, i3n_29, i3d_29, i3m_29, hap_i3n_g11_29, hap_i3n_g13_29, hap_i3n_g15_29, hap_i3n_g28_29, hap_i3d_g11_29, hap_i3d_g13_29, hap_i3d_g15_29, hap_i3d_g28_29, hO240, hN241, hap_hO240_g11, hap_hO240_g13, hap_hO240_g15, hap_hO240_g28⟩ := hQ1
          exact ⟨A231_29, m232_29, c233_29, A234_29, m235_29, c236_29, A238, hQe, i3n_29.ext hQ2, i3d_29.ext hQ2, i3m_29, hap_i3n_g11_29, hap_i3n_g13_29, hap_i3n_g15_29, hap_i3n_g28_29, hap_i3d_g11_29, hap_i3d_g13_29, hap_i3d_g15_29, hap_i3d_g28_29, hO240.ext hQ2, (hN241.ext hQ2).norm, hap_hO240_g11, hap_hO240_g13, hap_hO240_g15, hap_hO240_g28⟩
        · obtain ⟨A244, m245, c246, A247, m248, c249, hQe, i4n, i4d, i4m, hap_i4n_g11, hap_i4n_g13, hap_i4n_g15, hap_i4n_g28, hap_i4d_g11, hap_i4d_g13, hap_i4d_g15, hap_i4d_g28⟩ := hQ1
          exact ⟨A244, m245, c246, A247, m248, c249, hQe, i4n.ext hQ2, i4d.ext hQ2, i4m, hap_i4n_g11, hap_i4n_g13, hap_i4n_g15, hap_i4n_g28, hap_i4d_g11, hap_i4d_g13, hap_i4d_g15, hap_i4d_g28⟩
        · exact hQ1
        · exact hQ1
        · exact hQ1
      · refine ⟨⟨rfl, ⟨rfl, trivial⟩, ?_⟩, ⟨rfl, ⟨rfl, trivial⟩, ?_⟩, ⟨rfl, trivial, ?_⟩, ⟨rfl, trivial, ?_⟩, ⟨rfl, ⟨rfl, trivial⟩, ?_⟩, ⟨rfl, trivial, ?_⟩, ⟨rfl, trivial, ?_⟩, ⟨rfl, ⟨rfl, trivial⟩, ?_⟩, ⟨rfl, ⟨rfl, trivial⟩, ?_⟩, ⟨rfl, ⟨rfl, trivial⟩, ?_⟩, ⟨rfl, trivial, ?_⟩, ⟨rfl, trivial, ?_⟩, ⟨rfl, trivial, ?_⟩, ⟨rfl, trivial, ?_⟩, ⟨rfl, trivial, ?_⟩, ⟨rfl, trivial, ?_⟩, ⟨rfl, trivial, ?_⟩, ⟨rfl, ⟨rfl, trivial⟩, ?_⟩, ⟨rfl, ⟨rfl, trivial⟩, ?_⟩, ⟨rfl, trivial, ?_⟩, ⟨rfl, trivial, ?_⟩, ⟨rfl, ⟨rfl, trivial⟩, ?_⟩, ⟨rfl, trivial, ?_⟩, ⟨rfl, trivial, ?_⟩, ⟨rfl, ⟨rfl, trivial⟩, ?_⟩, ⟨rfl, ⟨rfl, trivial⟩, ?_⟩, ⟨rfl, ⟨rfl, trivial⟩, ?_⟩, ⟨rfl, trivial, ?_⟩, ⟨rfl, trivial, ?_⟩, ⟨rfl, trivial, ?_⟩, ⟨rfl, trivial, ?_⟩, ⟨rfl, trivial, ?_⟩, ⟨rfl, trivial, ?_⟩, ⟨rfl, trivial, ?_⟩, trivial⟩
        · intro w130 hE
          have hE := hE rfl
          have hB := ext_trans hB hE
          have hVg11 := hVg11.ext hE
          intro R
          refine WL.loadV (cs := [.bool na, .slice Aan man can, .slice Aad mad cad]) Try.el31 Try.agg31 rfl rfl hVg11.vcells rfl ?_
          exact WL.done ⟨_, rfl, ext_refl _, rfl⟩
        · intro w131 hE
          have hE := hE rfl
          have hB := ext_trans hB hE
          have hVg13 := hVg13.ext hE
          intro R
          refine WL.loadV (cs := [.bool nb, .slice Abn mbn cbn, .slice Abd mbd cbd]) Try.el31 Try.agg31 rfl rfl hVg13.vcells rfl ?_
          exact WL.done ⟨_, rfl, ext_refl _, rfl⟩
        · intro w132 hE
          have hE := hE rfl
          have hB := ext_trans hB hE
          have han := han0.ext hB
          have had := had0.ext hB
          have hbn := hbn0.ext hB
          have hbd := hbd0.ext hB
          have hVg11 := hVg11.ext hE
          have hVg13 := hVg13.ext hE
          have hVg15 := hVg15.ext hE
          have hVg28 := hVg28.ext hE
          rintro _ rfl
          rintro _ rfl
          intro R
          refine WL.lit (b := w132.heap.size) (cells := [.bool na, .slice Aan man can, .slice Aad mad cad, .bool nb, .slice Abn mbn cbn, .slice Abd mbd cbd]) Try.underlying44 Try.el31 (by decide) ⟨_, rfl, by kernel_rfl⟩ rfl (Nat.le_refl _) rfl ?_
          rintro A133 w134 - hO135 hGw134
          have hap_hO135_g11 := ap_new hO135 (hVg11.bl_ge _ rfl).2
          have hap_hO135_g13 := ap_new hO135 (hVg13.bl_ge _ rfl).2
          have hap_hO135_g15 := ap_new hO135 (hVg15.bl_ge _ rfl).2
          have hap_hO135_g28 := ap_new hO135 (hVg28.bl_ge _ rfl).2
          have hO135 := hO135.low (b' := w.heap.size) hB.size
          have hB := ext_trans hB hGw134
          have han := han0.ext hB
          have had := had0.ext hB
          have hbn := hbn0.ext hB
          have hbd := hbd0.ext hB
          have hN136 : RatsR w134.heap.size w134 [.bool na, .slice Aan man can, .slice Aad mad cad, .bool nb, .slice Abn mbn cbn, .slice Abd mbd cbd] [(na, xan, xad), (nb, xbn, xbd)] := (RatsR.cons han.norm had.norm (RatsR.cons hbn.norm hbd.norm (RatsR.nil _ _)))
          exact WL.done ⟨_, rfl, hGw134, ⟨A133, rfl, hO135, hN136, hap_hO135_g11, hap_hO135_g13, hap_hO135_g15, hap_hO135_g28⟩⟩
        · intro w137 hE
          have hE := hE rfl
          have hB := ext_trans hB hE
          have hVg11 := hVg11.ext hE
          have hVg13 := hVg13.ext hE
          have hVg15 := hVg15.ext hE
          have hVg28 := hVg28.ext hE
          rintro _ ⟨A133, rfl, hO135, hN136, hap_hO135_g11, hap_hO135_g13, hap_hO135_g15, hap_hO135_g28⟩
          intro R
          refine WL.call Try.func32 rfl Try.nm32 rfl rfl (qAdd2_c hO135.rd hN136 hLan hLad hLbn hLbd qa hqa qb hqb 12 (by omega) (by omega)) ?_
          rintro _ w138 ⟨A139, m140, c141, A142, m143, c144, rfl, hGw138, h6n, h6d, h6m⟩
          have hap_h6n_g11 := ap_new h6n (hVg11.bl_ge _ rfl).2
          have hap_h6n_g13 := ap_new h6n (hVg13.bl_ge _ rfl).2
          have hap_h6n_g15 := ap_new h6n (hVg15.bl_ge _ rfl).2
          have hap_h6n_g28 := ap_new h6n (hVg28.bl_ge _ rfl).2
          have hap_h6d_g11 := ap_new h6d (hVg11.bl_ge _ rfl).2
          have hap_h6d_g13 := ap_new h6d (hVg13.bl_ge _ rfl).2
          have hap_h6d_g15 := ap_new h6d (hVg15.bl_ge _ rfl).2
          have hap_h6d_g28 := ap_new h6d (hVg28.bl_ge _ rfl).2
          have h6n := h6n.low (b' := w.heap.size) hB.size
          have h6d := h6d.low (b' := w.heap.size) hB.size
          have hB := ext_trans hB hGw138
          have h6n_l := h6n.rd.ulen
          have h6d_l := h6d.rd.ulen
          exact WL.done ⟨_, rfl, hGw138, ⟨A139, m140, c141, A142, m143, c144, rfl, h6n, h6d, h6m, hap_h6n_g11, hap_h6n_g13, hap_h6n_g15, hap_h6n_g28, hap_h6d_g11, hap_h6d_g13, hap_h6d_g15, hap_h6d_g28⟩⟩
        · intro w145 hE
          have hE := hE rfl
          have hB := ext_trans hB hE
          have hVg15 := hVg15.ext hE
          intro R
          refine WL.loadV (cs := [.bool nc, .slice Acn mcn ccn, .slice Acd mcd ccd]) Try.el31 Try.agg31 rfl rfl hVg15.vcells rfl ?_
          exact WL.done ⟨_, rfl, ext_refl _, rfl⟩
        · intro w146 hE
          have hE := hE rfl
          have hB := ext_trans hB hE
          have hcn := hcn0.ext hB
          have hcd := hcd0.ext hB
          have hVg11 := hVg11.ext hE
          have hVg13 := hVg13.ext hE
          have hVg15 := hVg15.ext hE
          have hVg28 := hVg28.ext hE
          rintro _ ⟨A139, m140, c141, A142, m143, c144, rfl, h6n, h6d, h6m, hap_h6n_g11, hap_h6n_g13, hap_h6n_g15, hap_h6n_g28, hap_h6d_g11, hap_h6d_g13, hap_h6d_g15, hap_h6d_g28⟩
          rintro _ rfl
          intro R
          refine WL.lit (b := w146.heap.size) (cells := [.bool (qneg (qa + qb)), .slice A139 m140 c141, .slice A142 m143 c144, .bool nc, .slice Acn mcn ccn, .slice Acd mcd ccd]) Try.underlying44 Try.el31 (by decide) ⟨_, rfl, by kernel_rfl⟩ rfl (Nat.le_refl _) rfl ?_
          rintro A147 w148 - hO149 hGw148
          have hap_hO149_g11 := ap_new hO149 (hVg11.bl_ge _ rfl).2
          have hap_hO149_g13 := ap_new hO149 (hVg13.bl_ge _ rfl).2
          have hap_hO149_g15 := ap_new hO149 (hVg15.bl_ge _ rfl).2
          have hap_hO149_g28 := ap_new hO149 (hVg28.bl_ge _ rfl).2
          have hO149 := hO149.low (b' := w.heap.size) hB.size
          have hB := ext_trans hB hGw148
          have hcn := hcn0.ext hB
          have hcd := hcd0.ext hB
          have h6n := h6n.ext hGw148
          have h6d := h6d.ext hGw148
          have hN150 : RatsR w148.heap.size w148 [.bool (qneg (qa + qb)), .slice A139 m140 c141, .slice A142 m143 c144, .bool nc, .slice Acn mcn ccn, .slice Acd mcd ccd] [((qneg (qa + qb)), digs (qnum (qa + qb)), digs (Rat.den (qa + qb))), (nc, xcn, xcd)] := (RatsR.cons h6n.rd.norm h6d.rd.norm (RatsR.cons hcn.norm hcd.norm (RatsR.nil _ _)))
          exact WL.done ⟨_, rfl, hGw148, ⟨A139, m140, c141, A142, m143, c144, A147, rfl, h6n, h6d, h6m, hap_h6n_g11, hap_h6n_g13, hap_h6n_g15, hap_h6n_g28, hap_h6d_g11, hap_h6d_g13, hap_h6d_g15, hap_h6d_g28, hO149, hN150, hap_hO149_g11, hap_hO149_g13, hap_hO149_g15, hap_hO149_g28⟩⟩
        · intro w151 hE
          have hE := hE rfl
          have hB := ext_trans hB hE
          have hVg11 := hVg11.ext hE
          have hVg13 := hVg13.ext hE
          have hVg15 := hVg15.ext hE
          have hVg28 := hVg28.ext hE
          rintro _ ⟨A139_5, m140_5, c141_5, A142_5, m143_5, c144_5, A147, rfl, h6n_5, h6d_5, h6m_5, hap_h6n_g11_5, hap_h6n_g13_5, hap_h6n_g15_5, hap_h6n_g28_5, hap_h6d_g11_5, hap_h6d_g13_5, hap_h6d_g15_5, hap_h6d_g28_5, hO149, hN150, hap_hO149_g11, hap_hO149_g13, hap_hO149_g15, hap_hO149_g28⟩
          intro R
          refine WL.call Try.func32 rfl Try.nm32 rfl rfl (qAdd2_c hO149.rd hN150 (digs_lim _) (digs_lim _) hLcn hLcd (qa + qb) (val_canon _) qc hqc 100 (by omega) (by omega)) ?_
          rintro _ w152 ⟨A153, m154, c155, A156, m157, c158, rfl, hGw152, h7n, h7d, h7m⟩
          have hap_h7n_g11 := ap_new h7n (hVg11.bl_ge _ rfl).2
          have hap_h7n_g13 := ap_new h7n (hVg13.bl_ge _ rfl).2
          have hap_h7n_g15 := ap_new h7n (hVg15.bl_ge _ rfl).2
          have hap_h7n_g28 := ap_new h7n (hVg28.bl_ge _ rfl).2
          have hap_h7d_g11 := ap_new h7d (hVg11.bl_ge _ rfl).2
          have hap_h7d_g13 := ap_new h7d (hVg13.bl_ge _ rfl).2
          have hap_h7d_g15 := ap_new h7d (hVg15.bl_ge _ rfl).2
          have hap_h7d_g28 := ap_new h7d (hVg28.bl_ge _ rfl).2
          have h7n := h7n.low (b' := w.heap.size) hB.size
          have h7d := h7d.low (b' := w.heap.size) hB.size
          have hB := ext_trans hB hGw152
          have h7n_l := h7n.rd.ulen
          have h7d_l := h7d.rd.ulen
          exact WL.done ⟨_, rfl, hGw152, ⟨A153, m154, c155, A156, m157, c158, rfl, h7n, h7d, h7m, hap_h7n_g11, hap_h7n_g13, hap_h7n_g15, hap_h7n_g28, hap_h7d_g11, hap_h7d_g13, hap_h7d_g15, hap_h7d_g28⟩⟩
        · intro w159 hE
          have hE := hE rfl
          have hB := ext_trans hB hE
          have hVg11 := hVg11.ext hE
          intro R
          refine WL.loadV (cs := [.bool na, .slice Aan man can, .slice Aad mad cad]) Try.el31 Try.agg31 rfl rfl hVg11.vcells rfl ?_
          exact WL.done ⟨_, rfl, ext_refl _, rfl⟩
        · intro w160 hE
          have hE := hE rfl
          have hB := ext_trans hB hE
          have hVg13 := hVg13.ext hE
          intro R
          refine WL.loadV (cs := [.bool nb, .slice Abn mbn cbn, .slice Abd mbd cbd]) Try.el31 Try.agg31 rfl rfl hVg13.vcells rfl ?_
          exact WL.done ⟨_, rfl, ext_refl _, rfl⟩
        · intro w161 hE
          have hE := hE rfl
          have hB := ext_trans hB hE
          have hVg15 := hVg15.ext hE
          intro R
          refine WL.loadV (cs := [.bool nc, .slice Acn mcn ccn, .slice Acd mcd ccd]) Try.el31 Try.agg31 rfl rfl hVg15.vcells rfl ?_
          exact WL.done ⟨_, rfl, ext_refl _, rfl⟩
        · intro w162 hE
          have hE := hE rfl
          have hB := ext_trans hB hE
          have hbn := hbn0.ext hB
          have hbd := hbd0.ext hB
          have hcn := hcn0.ext hB
          have hcd := hcd0.ext hB
          have hVg11 := hVg11.ext hE
          have hVg13 := hVg13.ext hE
          have hVg15 := hVg15.ext hE
          have hVg28 := hVg28.ext hE
          rintro _ rfl
          rintro _ rfl
          intro R
          refine WL.lit (b := w162.heap.size) (cells := [.bool nb, .slice Abn mbn cbn, .slice Abd mbd cbd, .bool nc, .slice Acn mcn ccn, .slice Acd mcd ccd]) Try.underlying44 Try.el31 (by decide) ⟨_, rfl, by kernel_rfl⟩ rfl (Nat.le_refl _) rfl ?_
          rintro A163 w164 - hO165 hGw164
          have hap_hO165_g11 := ap_new hO165 (hVg11.bl_ge _ rfl).2
          have hap_hO165_g13 := ap_new hO165 (hVg13.bl_ge _ rfl).2
          have hap_hO165_g15 := ap_new hO165 (hVg15.bl_ge _ rfl).2
          have hap_hO165_g28 := ap_new hO165 (hVg28.bl_ge _ rfl).2
          have hO165 := hO165.low (b' := w.heap.size) hB.size
          have hB := ext_trans hB hGw164
          have hbn := hbn0.ext hB
          have hbd := hbd0.ext hB
          have hcn := hcn0.ext hB
          have hcd := hcd0.ext hB
          have hN166 : RatsR w164.heap.size w164 [.bool nb, .slice Abn mbn cbn, .slice Abd mbd cbd, .bool nc, .slice Acn mcn ccn, .slice Acd mcd ccd] [(nb, xbn, xbd), (nc, xcn, xcd)] := (RatsR.cons hbn.norm hbd.norm (RatsR.cons hcn.norm hcd.norm (RatsR.nil _ _)))
          exact WL.done ⟨_, rfl, hGw164, ⟨A163, rfl, hO165, hN166, hap_hO165_g11, hap_hO165_g13, hap_hO165_g15, hap_hO165_g28⟩⟩
        · intro w167 hE
          have hE := hE rfl
          have hB := ext_trans hB hE
          have hVg11 := hVg11.ext hE
          have hVg13 := hVg13.ext hE
          have hVg15 := hVg15.ext hE
          have hVg28 := hVg28.ext hE
          rintro _ ⟨A163, rfl, hO165, hN166, hap_hO165_g11, hap_hO165_g13, hap_hO165_g15, hap_hO165_g28⟩
          intro R
          refine WL.call Try.func32 rfl Try.nm32 rfl rfl (qAdd2_c hO165.rd hN166 hLbn hLbd hLcn hLcd qb hqb qc hqc 12 (by omega) (by omega)) ?_
          rintro _ w168 ⟨A169, m170, c171, A172, m173, c174, rfl, hGw168, h8n, h8d, h8m⟩
          have hap_h8n_g11 := ap_new h8n (hVg11.bl_ge _ rfl).2
          have hap_h8n_g13 := ap_new h8n (hVg13.bl_ge _ rfl).2
          have hap_h8n_g15 := ap_new h8n (hVg15.bl_ge _ rfl).2
          have hap_h8n_g28 := ap_new h8n (hVg28.bl_ge _ rfl).2
          have hap_h8d_g11 := ap_new h8d (hVg11.bl_ge _ rfl).2
          have hap_h8d_g13 := ap_new h8d (hVg13.bl_ge _ rfl).2
          have hap_h8d_g15 := ap_new h8d (hVg15.bl_ge _ rfl).2
          have hap_h8d_g28 := ap_new h8d (hVg28.bl_ge _ rfl).2
          have h8n := h8n.low (b' := w.heap.size) hB.size
          have h8d := h8d.low (b' := w.heap.size) hB.size
          have hB := ext_trans hB hGw168
          have h8n_l := h8n.rd.ulen
          have h8d_l := h8d.rd.ulen
          exact WL.done ⟨_, rfl, hGw168, ⟨A169, m170, c171, A172, m173, c174, rfl, h8n, h8d, h8m, hap_h8n_g11, hap_h8n_g13, hap_h8n_g15, hap_h8n_g28, hap_h8d_g11, hap_h8d_g13, hap_h8d_g15, hap_h8d_g28⟩⟩
        · intro w175 hE
          have hE := hE rfl
          have hB := ext_trans hB hE
          have han := han0.ext hB
          have had := had0.ext hB
          have hVg11 := hVg11.ext hE
          have hVg13 := hVg13.ext hE
          have hVg15 := hVg15.ext hE
          have hVg28 := hVg28.ext hE
          rintro _ rfl
          rintro _ ⟨A169, m170, c171, A172, m173, c174, rfl, h8n, h8d, h8m, hap_h8n_g11, hap_h8n_g13, hap_h8n_g15, hap_h8n_g28, hap_h8d_g11, hap_h8d_g13, hap_h8d_g15, hap_h8d_g28⟩
          intro R
          refine WL.lit (b := w175.heap.size) (cells := [.bool na, .slice Aan man can, .slice Aad mad cad, .bool (qneg (qb + qc)), .slice A169 m170 c171, .slice A172 m173 c174]) Try.underlying44 Try.el31 (by decide) ⟨_, rfl, by kernel_rfl⟩ rfl (Nat.le_refl _) rfl ?_
          rintro A176 w177 - hO178 hGw177
          have hap_hO178_g11 := ap_new hO178 (hVg11.bl_ge _ rfl).2
          have hap_hO178_g13 := ap_new hO178 (hVg13.bl_ge _ rfl).2
          have hap_hO178_g15 := ap_new hO178 (hVg15.bl_ge _ rfl).2
          have hap_hO178_g28 := ap_new hO178 (hVg28.bl_ge _ rfl).2
          have hO178 := hO178.low (b' := w.heap.size) hB.size
          have hB := ext_trans hB hGw177
          have han := han0.ext hB
          have had := had0.ext hB
          have h8n := h8n.ext hGw177
          have h8d := h8d.ext hGw177
          have hN179 : RatsR w177.heap.size w177 [.bool na, .slice Aan man can, .slice Aad mad cad, .bool (qneg (qb + qc)), .slice A169 m170 c171, .slice A172 m173 c174] [(na, xan, xad), ((qneg (qb + qc)), digs (qnum (qb + qc)), digs (Rat.den (qb + qc)))] := (RatsR.cons han.norm had.norm (RatsR.cons h8n.rd.norm h8d.rd.norm (RatsR.nil _ _)))
          exact WL.done ⟨_, rfl, hGw177, ⟨A169, m170, c171, A172, m173, c174, A176, rfl, h8n, h8d, h8m, hap_h8n_g11, hap_h8n_g13, hap_h8n_g15, hap_h8n_g28, hap_h8d_g11, hap_h8d_g13, hap_h8d_g15, hap_h8d_g28, hO178, hN179, hap_hO178_g11, hap_hO178_g13, hap_hO178_g15, hap_hO178_g28⟩⟩
        · intro w180 hE
          have hE := hE rfl
          have hB := ext_trans hB hE
          have hVg11 := hVg11.ext hE
          have hVg13 := hVg13.ext hE
          have hVg15 := hVg15.ext hE
          have hVg28 := hVg28.ext hE
          rintro _ ⟨A169_12, m170_12, c171_12, A172_12, m173_12, c174_12, A176, rfl, h8n_12, h8d_12, h8m_12, hap_h8n_g11_12, hap_h8n_g13_12, hap_h8n_g15_12, hap_h8n_g28_12, hap_h8d_g11_12, hap_h8d_g13_12, hap_h8d_g15_12, hap_h8d_g28_12, hO178, hN179, hap_hO178_g11, hap_hO178_g13, hap_hO178_g15, hap_hO178_g28⟩
          intro R
          refine WL.call Try.func32 rfl Try.nm32 rfl rfl (qAdd2_c hO178.rd hN179 hLan hLad (digs_lim _) (digs_lim _) qa hqa (qb + qc) (val_canon _) 100 (by omega) (by omega)) ?_
          rintro _ w181 ⟨A182, m183, c184, A185, m186, c187, rfl, hGw181, h9n, h9d, h9m⟩
          have hap_h9n_g11 := ap_new h9n (hVg11.bl_ge _ rfl).2
          have hap_h9n_g13 := ap_new h9n (hVg13.bl_ge _ rfl).2
          have hap_h9n_g15 := ap_new h9n (hVg15.bl_ge _ rfl).2
          have hap_h9n_g28 := ap_new h9n (hVg28.bl_ge _ rfl).2
          have hap_h9d_g11 := ap_new h9d (hVg11.bl_ge _ rfl).2
          have hap_h9d_g13 := ap_new h9d (hVg13.bl_ge _ rfl).2
          have hap_h9d_g15 := ap_new h9d (hVg15.bl_ge _ rfl).2
          have hap_h9d_g28 := ap_new h9d (hVg28.bl_ge _ rfl).2
          have h9n := h9n.low (b' := w.heap.size) hB.size
          have h9d := h9d.low (b' := w.heap.size) hB.size
          have hB := ext_trans hB hGw181
          have h9n_l := h9n.rd.ulen
          have h9d_l := h9d.rd.ulen
          exact WL.done ⟨_, rfl, hGw181, ⟨A182, m183, c184, A185, m186, c187, rfl, h9n, h9d, h9m, hap_h9n_g11, hap_h9n_g13, hap_h9n_g15, hap_h9n_g28, hap_h9d_g11, hap_h9d_g13, hap_h9d_g15, hap_h9d_g28⟩⟩
        · intro w188 hE
          have hE := hE rfl
          have hB := ext_trans hB hE
          rintro _ ⟨A153, m154, c155, A156, m157, c158, rfl, h7n, h7d, h7m, hap_h7n_g11, hap_h7n_g13, hap_h7n_g15, hap_h7n_g28, hap_h7d_g11, hap_h7d_g13, hap_h7d_g15, hap_h7d_g28⟩
          rintro _ ⟨A182, m183, c184, A185, m186, c187, rfl, h9n, h9d, h9m, hap_h9n_g11, hap_h9n_g13, hap_h9n_g15, hap_h9n_g28, hap_h9d_g11, hap_h9d_g13, hap_h9d_g15, hap_h9d_g28⟩
          intro R
          refine WL.call Try.func18 rfl Try.nm18 rfl rfl (qsame_t h7n.rd h7d.rd h9n.rd h9d.rd (can_eq (Rat.add_assoc qa qb qc))) ?_
          rintro _ w189 ⟨rfl, hGw189⟩
          have hB := ext_trans hB hGw189
          exact WL.done ⟨_, rfl, hGw189, rfl⟩
        · intro w190 hE
          rintro _ rfl
          intro R
          refine WL.not rfl rfl ?_
          exact WL.done ⟨_, rfl, rfl, rfl⟩
        · intro w191 hE
          rintro _ rfl
          intro R
          refine WL.move rfl rfl ?_
          exact WL.done ⟨_, rfl, rfl, rfl⟩
        · intro w192 hE
          have hE := hE rfl
          have hB := ext_trans hB hE
          have hVg11 := hVg11.ext hE
          rintro _ rfl
          intro R
          refine WL.take rfl ?_
          refine WL.loadV (cs := [.bool na, .slice Aan man can, .slice Aad mad cad]) Try.el31 Try.agg31 rfl rfl hVg11.vcells rfl ?_
          exact WL.done ⟨_, rfl, ext_refl _, rfl⟩
        · intro w193 hE
          have hE := hE rfl
          have hB := ext_trans hB hE
          have hVg13 := hVg13.ext hE
          rintro _ rfl
          intro R
          refine WL.take rfl ?_
          refine WL.loadV (cs := [.bool nb, .slice Abn mbn cbn, .slice Abd mbd cbd]) Try.el31 Try.agg31 rfl rfl hVg13.vcells rfl ?_
          exact WL.done ⟨_, rfl, ext_refl _, rfl⟩
        · intro w194 hE
          have hE := hE rfl
          have hB := ext_trans hB hE
          have han := han0.ext hB
          have had := had0.ext hB
          have hbn := hbn0.ext hB
          have hbd := hbd0.ext hB
          have hVg11 := hVg11.ext hE
          have hVg13 := hVg13.ext hE
          have hVg15 := hVg15.ext hE
          have hVg28 := hVg28.ext hE
          rintro _ rfl
          rintro _ rfl
          rintro _ rfl
          intro R
          refine WL.take rfl ?_
          refine WL.lit (b := w194.heap.size) (cells := [.bool na, .slice Aan man can, .slice Aad mad cad, .bool nb, .slice Abn mbn cbn, .slice Abd mbd cbd]) Try.underlying44 Try.el31 (by decide) ⟨_, rfl, by kernel_rfl⟩ rfl (Nat.le_refl _) rfl ?_
          rintro A195 w196 - hO197 hGw196
          have hap_hO197_g11 := ap_new hO197 (hVg11.bl_ge _ rfl).2
          have hap_hO197_g13 := ap_new hO197 (hVg13.bl_ge _ rfl).2
          have hap_hO197_g15 := ap_new hO197 (hVg15.bl_ge _ rfl).2
          have hap_hO197_g28 := ap_new hO197 (hVg28.bl_ge _ rfl).2
          have hO197 := hO197.low (b' := w.heap.size) hB.size
          have hB := ext_trans hB hGw196
          have han := han0.ext hB
          have had := had0.ext hB
          have hbn := hbn0.ext hB
          have hbd := hbd0.ext hB
          have hN198 : RatsR w196.heap.size w196 [.bool na, .slice Aan man can, .slice Aad mad cad, .bool nb, .slice Abn mbn cbn, .slice Abd mbd cbd] [(na, xan, xad), (nb, xbn, xbd)] := (RatsR.cons han.norm had.norm (RatsR.cons hbn.norm hbd.norm (RatsR.nil _ _)))
          exact WL.done ⟨_, rfl, hGw196, ⟨A195, rfl, hO197, hN198, hap_hO197_g11, hap_hO197_g13, hap_hO197_g15, hap_hO197_g28⟩⟩
        · intro w199 hE
          have hE := hE rfl
          have hB := ext_trans hB hE
          have hVg11 := hVg11.ext hE
          have hVg13 := hVg13.ext hE
          have hVg15 := hVg15.ext hE
          have hVg28 := hVg28.ext hE
          rintro _ rfl
          rintro _ ⟨A195, rfl, hO197, hN198, hap_hO197_g11, hap_hO197_g13, hap_hO197_g15, hap_hO197_g28⟩
          intro R
          refine WL.take rfl ?_
          refine WL.call Try.func34 rfl Try.nm34 rfl rfl (qMul2_c hO197.rd hN198 hLan hLad hLbn hLbd qa hqa qb hqb 12 (by omega) (by omega)) ?_
          rintro _ w200 ⟨A201, m202, c203, A204, m205, c206, rfl, hGw200, i1n, i1d, i1m⟩
          have hap_i1n_g11 := ap_new i1n (hVg11.bl_ge _ rfl).2
          have hap_i1n_g13 := ap_new i1n (hVg13.bl_ge _ rfl).2
          have hap_i1n_g15 := ap_new i1n (hVg15.bl_ge _ rfl).2
          have hap_i1n_g28 := ap_new i1n (hVg28.bl_ge _ rfl).2
          have hap_i1d_g11 := ap_new i1d (hVg11.bl_ge _ rfl).2
          have hap_i1d_g13 := ap_new i1d (hVg13.bl_ge _ rfl).2
          have hap_i1d_g15 := ap_new i1d (hVg15.bl_ge _ rfl).2
          have hap_i1d_g28 := ap_new i1d (hVg28.bl_ge _ rfl).2
          have i1n := i1n.low (b' := w.heap.size) hB.size
          have i1d := i1d.low (b' := w.heap.size) hB.size
          have hB := ext_trans hB hGw200
          have i1n_l := i1n.rd.ulen
          have i1d_l := i1d.rd.ulen
          exact WL.done ⟨_, rfl, hGw200, ⟨A201, m202, c203, A204, m205, c206, rfl, i1n, i1d, i1m, hap_i1n_g11, hap_i1n_g13, hap_i1n_g15, hap_i1n_g28, hap_i1d_g11, hap_i1d_g13, hap_i1d_g15, hap_i1d_g28⟩⟩
        · intro w207 hE
          have hE := hE rfl
          have hB := ext_trans hB hE
          have hVg15 := hVg15.ext hE
          rintro _ rfl
          intro R
          refine WL.take rfl ?_
          refine WL.loadV (cs := [.bool nc, .slice Acn mcn ccn, .slice Acd mcd ccd]) Try.el31 Try.agg31 rfl rfl hVg15.vcells rfl ?_
          exact WL.done ⟨_, rfl, ext_refl _, rfl⟩
        · intro w208 hE
          have hE := hE rfl
          have hB := ext_trans hB hE
          have hcn := hcn0.ext hB
          have hcd := hcd0.ext hB
          have hVg11 := hVg11.ext hE
          have hVg13 := hVg13.ext hE
          have hVg15 := hVg15.ext hE
          have hVg28 := hVg28.ext hE
          rintro _ rfl
          rintro _ ⟨A201, m202, c203, A204, m205, c206, rfl, i1n, i1d, i1m, hap_i1n_g11, hap_i1n_g13, hap_i1n_g15, hap_i1n_g28, hap_i1d_g11, hap_i1d_g13, hap_i1d_g15, hap_i1d_g28⟩
          rintro _ rfl
          intro R
          refine WL.take rfl ?_
          refine WL.lit (b := w208.heap.size) (cells := [.bool (qneg (qa * qb)), .slice A201 m202 c203, .slice A204 m205 c206, .bool nc, .slice Acn mcn ccn, .slice Acd mcd ccd]) Try.underlying44 Try.el31 (by decide) ⟨_, rfl, by kernel_rfl⟩ rfl (Nat.le_refl _) rfl ?_
          rintro A209 w210 - hO211 hGw210
          have hap_hO211_g11 := ap_new hO211 (hVg11.bl_ge _ rfl).2
          have hap_hO211_g13 := ap_new hO211 (hVg13.bl_ge _ rfl).2
          have hap_hO211_g15 := ap_new hO211 (hVg15.bl_ge _ rfl).2
          have hap_hO211_g28 := ap_new hO211 (hVg28.bl_ge _ rfl).2
          have hO211 := hO211.low (b' := w.heap.size) hB.size
          have hB := ext_trans hB hGw210
          have hcn := hcn0.ext hB
          have hcd := hcd0.ext hB
          have i1n := i1n.ext hGw210
          have i1d := i1d.ext hGw210
          have hN212 : RatsR w210.heap.size w210 [.bool (qneg (qa * qb)), .slice A201 m202 c203, .slice A204 m205 c206, .bool nc, .slice Acn mcn ccn, .slice Acd mcd ccd] [((qneg (qa * qb)), digs (qnum (qa * qb)), digs (Rat.den (qa * qb))), (nc, xcn, xcd)] := (RatsR.cons i1n.rd.norm i1d.rd.norm (RatsR.cons hcn.norm hcd.norm (RatsR.nil _ _)))
          exact WL.done ⟨_, rfl, hGw210, ⟨A201, m202, c203, A204, m205, c206, A209, rfl, i1n, i1d, i1m, hap_i1n_g11, hap_i1n_g13, hap_i1n_g15, hap_i1n_g28, hap_i1d_g11, hap_i1d_g13, hap_i1d_g15, hap_i1d_g28, hO211, hN212, hap_hO211_g11, hap_hO211_g13, hap_hO211_g15, hap_hO211_g28⟩⟩
        · intro w213 hE
          have hE := hE rfl
          have hB := ext_trans hB hE
          have hVg11 := hVg11.ext hE
          have hVg13 := hVg13.ext hE
          have hVg15 := hVg15.ext hE
          have hVg28 := hVg28.ext hE
          rintro _ rfl
          rintro _ ⟨A201_22, m202_22, c203_22, A204_22, m205_22, c206_22, A209, rfl, i1n_22, i1d_22, i1m_22, hap_i1n_g11_22, hap_i1n_g13_22, hap_i1n_g15_22, hap_i1n_g28_22, hap_i1d_g11_22, hap_i1d_g13_22, hap_i1d_g15_22, hap_i1d_g28_22, hO211, hN212, hap_hO211_g11, hap_hO211_g13, hap_hO211_g15, hap_hO211_g28⟩
          intro R
          refine WL.take rfl ?_
          refine WL.call Try.func34 rfl Try.nm34 rfl rfl (qMul2_c hO211.rd hN212 (digs_lim _) (digs_lim _) hLcn hLcd (qa * qb) (val_canon _) qc hqc 100 (by omega) (by omega)) ?_
          rintro _ w214 ⟨A215, m216, c217, A218, m219, c220, rfl, hGw214, i2n, i2d, i2m⟩
          have hap_i2n_g11 := ap_new i2n (hVg11.bl_ge _ rfl).2
          have hap_i2n_g13 := ap_new i2n (hVg13.bl_ge _ rfl).2
          have hap_i2n_g15 := ap_new i2n (hVg15.bl_ge _ rfl).2
          have hap_i2n_g28 := ap_new i2n (hVg28.bl_ge _ rfl).2
          have hap_i2d_g11 := ap_new i2d (hVg11.bl_ge _ rfl).2
          have hap_i2d_g13 := ap_new i2d (hVg13.bl_ge _ rfl).2
          have hap_i2d_g15 := ap_new i2d (hVg15.bl_ge _ rfl).2
          have hap_i2d_g28 := ap_new i2d (hVg28.bl_ge _ rfl).2
          have i2n := i2n.low (b' := w.heap.size) hB.size
          have i2d := i2d.low (b' := w.heap.size) hB.size
          have hB := ext_trans hB hGw214
          have i2n_l := i2n.rd.ulen
          have i2d_l := i2d.rd.ulen
          exact WL.done ⟨_, rfl, hGw214, ⟨A215, m216, c217, A218, m219, c220, rfl, i2n, i2d, i2m, hap_i2n_g11, hap_i2n_g13, hap_i2n_g15, hap_i2n_g28, hap_i2d_g11, hap_i2d_g13, hap_i2d_g15, hap_i2d_g28⟩⟩
        · intro w221 hE
          have hE := hE rfl
          have hB := ext_trans hB hE
          have hVg11 := hVg11.ext hE
          rintro _ rfl
          intro R
          refine WL.take rfl ?_
          refine WL.loadV (cs := [.bool na, .slice Aan man can, .slice Aad mad cad]) Try.el31 Try.agg31 rfl rfl hVg11.vcells rfl ?_
          exact WL.done ⟨_, rfl, ext_refl _, rfl⟩
        · intro w222 hE
          have hE := hE rfl
          have hB := ext_trans hB hE
          have hVg13 := hVg13.ext hE
          rintro _ rfl
          intro R
          refine WL.take rfl ?_
          refine WL.loadV (cs := [.bool nb, .slice Abn mbn cbn, .slice Abd mbd cbd]) Try.el31 Try.agg31 rfl rfl hVg13.vcells rfl ?_
          exact WL.done ⟨_, rfl, ext_refl _, rfl⟩
        · intro w223 hE
          have hE := hE rfl
          have hB := ext_trans hB hE
          have hVg15 := hVg15.ext hE
          rintro _ rfl
          intro R
          refine WL.take rfl ?_
          refine WL.loadV (cs := [.bool nc, .slice Acn mcn ccn, .slice Acd mcd ccd]) Try.el31 Try.agg31 rfl rfl hVg15.vcells rfl ?_
          exact WL.done ⟨_, rfl, ext_refl _, rfl⟩
        · intro w224 hE
          have hE := hE rfl
          have hB := ext_trans hB hE
          have hbn := hbn0.ext hB
          have hbd := hbd0.ext hB
          have hcn := hcn0.ext hB
          have hcd := hcd0.ext hB
          have hVg11 := hVg11.ext hE
          have hVg13 := hVg13.ext hE
          have hVg15 := hVg15.ext hE
          have hVg28 := hVg28.ext hE
          rintro _ rfl
          rintro _ rfl
          rintro _ rfl
          intro R
          refine WL.take rfl ?_
          refine WL.lit (b := w224.heap.size) (cells := [.bool nb, .slice Abn mbn cbn, .slice Abd mbd cbd, .bool nc, .slice Acn mcn ccn, .slice Acd mcd ccd]) Try.underlying44 Try.el31 (by decide) ⟨_, rfl, by kernel_rfl⟩ rfl (Nat.le_refl _) rfl ?_
          rintro A225 w226 - hO227 hGw226
          have hap_hO227_g11 := ap_new hO227 (hVg11.bl_ge _ rfl).2
          have hap_hO227_g13 := ap_new hO227 (hVg13.bl_ge _ rfl).2
          have hap_hO227_g15 := ap_new hO227 (hVg15.bl_ge _ rfl).2
          have hap_hO227_g28 := ap_new hO227 (hVg28.bl_ge _ rfl).2
          have hO227 := hO227.low (b' := w.heap.size) hB.size
          have hB := ext_trans hB hGw226
          have hbn := hbn0.ext hB
          have hbd := hbd0.ext hB
          have hcn := hcn0.ext hB
          have hcd := hcd0.ext hB
          have hN228 : RatsR w226.heap.size w226 [.bool nb, .slice Abn mbn cbn, .slice Abd mbd cbd, .bool nc, .slice Acn mcn ccn, .slice Acd mcd ccd] [(nb, xbn, xbd), (nc, xcn, xcd)] := (RatsR.cons hbn.norm hbd.norm (RatsR.cons hcn.norm hcd.norm (RatsR.nil _ _)))
          exact WL.done ⟨_, rfl, hGw226, ⟨A225, rfl, hO227, hN228, hap_hO227_g11, hap_hO227_g13, hap_hO227_g15, hap_hO227_g28⟩⟩
        · intro w229 hE
          have hE := hE rfl
          have hB := ext_trans hB hE
          have hVg11 := hVg11.ext hE
          have hVg13 := hVg13.ext hE
          have hVg15 := hVg15.ext hE
          have hVg28 := hVg28.ext hE
          rintro _ rfl
          rintro _ ⟨A225, rfl, hO227, hN228, hap_hO227_g11, hap_hO227_g13, hap_hO227_g15, hap_hO227_g28⟩
          intro R
          refine WL.take rfl ?_
          refine WL.call Try.func34 rfl Try.nm34 rfl rfl (qMul2_c hO227.rd hN228 hLbn hLbd hLcn hLcd qb hqb qc hqc 12 (by omega) (by omega)) ?_
          rintro _ w230 ⟨A231, m232, c233, A234, m235, c236, rfl, hGw230, i3n, i3d, i3m⟩
          have hap_i3n_g11 := ap_new i3n (hVg11.bl_ge _ rfl).2
          have hap_i3n_g13 := ap_new i3n (hVg13.bl_ge _ rfl).2
          have hap_i3n_g15 := ap_new i3n (hVg15.bl_ge _ rfl).2
          have hap_i3n_g28 := ap_new i3n (hVg28.bl_ge _ rfl).2
          have hap_i3d_g11 := ap_new i3d (hVg11.bl_ge _ rfl).2
          have hap_i3d_g13 := ap_new i3d (hVg13.bl_ge _ rfl).2
          have hap_i3d_g15 := ap_new i3d (hVg15.bl_ge _ rfl).2
          have hap_i3d_g28 := ap_new i3d (hVg28.bl_ge _ rfl).2
          have i3n := i3n.low (b' := w.heap.size) hB.size
          have i3d := i3d.low (b' := w.heap.size) hB.size
          have hB := ext_trans hB hGw230
          have i3n_l := i3n.rd.ulen
          have i3d_l := i3d.rd.ulen
          exact WL.done ⟨_, rfl, hGw230, ⟨A231, m232, c233, A234, m235, c236, rfl, i3n, i3d, i3m, hap_i3n_g11, hap_i3n_g13, hap_i3n_g15, hap_i3n_g28, hap_i3d_g11, hap_i3d_g13, hap_i3d_g15, hap_i3d_g28⟩⟩
        · intro w237 hE
          have hE := hE rfl
          have hB := ext_trans hB hE
          have han := han0.ext hB
          have had := had0.ext hB
          have hVg11 := hVg11.ext hE
          have hVg13 := hVg13.ext hE
          have hVg15 := hVg15.ext hE
          have hVg28 := hVg28.ext hE
          rintro _ rfl
          rintro _ rfl
          rintro _ ⟨A231, m232, c233, A234, m235, c236, rfl, i3n, i3d, i3m, hap_i3n_g11, hap_i3n_g13, hap_i3n_g15, hap_i3n_g28, hap_i3d_g11, hap_i3d_g13, hap_i3d_g15, hap_i3d_g28⟩
          intro R
          refine WL.take rfl ?_
          refine WL.lit (b := w237.heap.size) (cells := [.bool na, .slice Aan man can, .slice Aad mad cad, .bool (qneg (qb * qc)), .slice A231 m232 c233, .slice A234 m235 c236]) Try.underlying44 Try.el31 (by decide) ⟨_, rfl, by kernel_rfl⟩ rfl (Nat.le_refl _) rfl ?_
          rintro A238 w239 - hO240 hGw239
          have hap_hO240_g11 := ap_new hO240 (hVg11.bl_ge _ rfl).2
          have hap_hO240_g13 := ap_new hO240 (hVg13.bl_ge _ rfl).2
          have hap_hO240_g15 := ap_new hO240 (hVg15.bl_ge _ rfl).2
          have hap_hO240_g28 := ap_new hO240 (hVg28.bl_ge _ rfl).2
          have hO240 := hO240.low (b' := w.heap.size) hB.size
          have hB := ext_trans hB hGw239
          have han := han0.ext hB
          have had := had0.ext hB
          have i3n := i3n.ext hGw239
          have i3d := i3d.ext hGw239
          have hN241 : RatsR w239.heap.size w239 [.bool na, .slice Aan man can, .slice Aad mad cad, .bool (qneg (qb * qc)), .slice A231 m232 c233, .slice A234 m235 c236] [(na, xan, xad), ((qneg (qb * qc)), digs (qnum (qb * qc)), digs (Rat.den (qb * qc)))] := (RatsR.cons han.norm had.norm (RatsR.cons i3n.rd.norm i3d.rd.norm (RatsR.nil _ _)))
          exact WL.done ⟨_, rfl, hGw239, ⟨A231, m232, c233, A234, m235, c236, A238, rfl, i3n, i3d, i3m, hap_i3n_g11, hap_i3n_g13, hap_i3n_g15, hap_i3n_g28, hap_i3d_g11, hap_i3d_g13, hap_i3d_g15, hap_i3d_g28, hO240, hN241, hap_hO240_g11, hap_hO240_g13, hap_hO240_g15, hap_hO240_g28⟩⟩
        · intro w242 hE
          have hE := hE rfl
          have hB := ext_trans hB hE
          have hVg11 := hVg11.ext hE
          have hVg13 := hVg13.ext hE
          have hVg15 := hVg15.ext hE
          have hVg28 := hVg28.ext hE
          rintro _ rfl
          rintro _ ⟨A231_29, m232_29, c233_29, A234_29, m235_29, c236_29, A238, rfl, i3n_29, i3d_29, i3m_29, hap_i3n_g11_29, hap_i3n_g13_29, hap_i3n_g15_29, hap_i3n_g28_29, hap_i3d_g11_29, hap_i3d_g13_29, hap_i3d_g15_29, hap_i3d_g28_29, hO240, hN241, hap_hO240_g11, hap_hO240_g13, hap_hO240_g15, hap_hO240_g28⟩
          intro R
          refine WL.take rfl ?_
          refine WL.call Try.func34 rfl Try.nm34 rfl rfl (qMul2_c hO240.rd hN241 hLan hLad (digs_lim _) (digs_lim _) qa hqa (qb * qc) (val_canon _) 100 (by omega) (by omega)) ?_
          rintro _ w243 ⟨A244, m245, c246, A247, m248, c249, rfl, hGw243, i4n, i4d, i4m⟩
          have hap_i4n_g11 := ap_new i4n (hVg11.bl_ge _ rfl).2
          have hap_i4n_g13 := ap_new i4n (hVg13.bl_ge _ rfl).2
          have hap_i4n_g15 := ap_new i4n (hVg15.bl_ge _ rfl).2
          have hap_i4n_g28 := ap_new i4n (hVg28.bl_ge _ rfl).2
          have hap_i4d_g11 := ap_new i4d (hVg11.bl_ge _ rfl).2
          have hap_i4d_g13 := ap_new i4d (hVg13.bl_ge _ rfl).2
          have hap_i4d_g15 := ap_new i4d (hVg15.bl_ge _ rfl).2
          have hap_i4d_g28 := ap_new i4d (hVg28.bl_ge _ rfl).2
          have i4n := i4n.low (b' := w.heap.size) hB.size
          have i4d := i4d.low (b' := w.heap.size) hB.size
          have hB := ext_trans hB hGw243
          have i4n_l := i4n.rd.ulen
          have i4d_l := i4d.rd.ulen
          exact WL.done ⟨_, rfl, hGw243, ⟨A244, m245, c246, A247, m248, c249, rfl, i4n, i4d, i4m, hap_i4n_g11, hap_i4n_g13, hap_i4n_g15, hap_i4n_g28, hap_i4d_g11, hap_i4d_g13, hap_i4d_g15, hap_i4d_g28⟩⟩
        · intro w250 hE
          have hE := hE rfl
          have hB := ext_trans hB hE
          rintro _ rfl
          rintro _ ⟨A215, m216, c217, A218, m219, c220, rfl, i2n, i2d, i2m, hap_i2n_g11, hap_i2n_g13, hap_i2n_g15, hap_i2n_g28, hap_i2d_g11, hap_i2d_g13, hap_i2d_g15, hap_i2d_g28⟩
          rintro _ ⟨A244, m245, c246, A247, m248, c249, rfl, i4n, i4d, i4m, hap_i4n_g11, hap_i4n_g13, hap_i4n_g15, hap_i4n_g28, hap_i4d_g11, hap_i4d_g13, hap_i4d_g15, hap_i4d_g28⟩
          intro R
          refine WL.take rfl ?_
          refine WL.call Try.func18 rfl Try.nm18 rfl rfl (qsame_t i2n.rd i2d.rd i4n.rd i4d.rd (can_eq (Rat.mul_assoc qa qb qc))) ?_
          rintro _ w251 ⟨rfl, hGw251⟩
          have hB := ext_trans hB hGw251
          exact WL.done ⟨_, rfl, hGw251, rfl⟩
        · intro w252 hE
          rintro _ rfl
          rintro _ rfl
          intro R
          refine WL.take rfl ?_
          refine WL.not rfl rfl ?_
          exact WL.done ⟨_, rfl, rfl, rfl⟩
        · intro w253 hE
          rintro _ rfl
          rintro _ rfl
          intro R
          refine WL.pick rfl rfl rfl ?_
          exact WL.done ⟨_, rfl, rfl, rfl⟩
      · intro vals w254 hT hVs
        rw [if_neg (by decide)] at hT
        have hB := ext_trans hB hT
        have han := han0.ext hB
        have had := had0.ext hB
        have hbn := hbn0.ext hB
        have hbd := hbd0.ext hB
        have hcn := hcn0.ext hB
        have hcd := hcd0.ext hB
        have hVg11 := hVg11.ext hT
        have hVg13 := hVg13.ext hT
        have hVg15 := hVg15.ext hT
        have hVg28 := hVg28.ext hT
        have hv0 : vals 0 = _ := hVs 0 (by decide) (by decide)
        have hv1 : vals 1 = _ := hVs 1 (by decide) (by decide)
        obtain ⟨A133, hv2, hO135, hN136, hap_hO135_g11, hap_hO135_g13, hap_hO135_g15, hap_hO135_g28⟩ := hVs 2 (by decide) (by decide)
        obtain ⟨A139, m140, c141, A142, m143, c144, hv3, h6n, h6d, h6m, hap_h6n_g11, hap_h6n_g13, hap_h6n_g15, hap_h6n_g28, hap_h6d_g11, hap_h6d_g13, hap_h6d_g15, hap_h6d_g28⟩ := hVs 3 (by decide) (by decide)
        have hv4 : vals 4 = _ := hVs 4 (by decide) (by decide)
        obtain ⟨A139_5, m140_5, c141_5, A142_5, m143_5, c144_5, A147, hv5, h6n_5, h6d_5, h6m_5, hap_h6n_g11_5, hap_h6n_g13_5, hap_h6n_g15_5, hap_h6n_g28_5, hap_h6d_g11_5, hap_h6d_g13_5, hap_h6d_g15_5, hap_h6d_g28_5, hO149, hN150, hap_hO149_g11, hap_hO149_g13, hap_hO149_g15, hap_hO149_g28⟩ := hVs 5 (by decide) (by decide)
        obtain ⟨A153, m154, c155, A156, m157, c158, hv6, h7n, h7d, h7m, hap_h7n_g11, hap_h7n_g13, hap_h7n_g15, hap_h7n_g28, hap_h7d_g11, hap_h7d_g13, hap_h7d_g15, hap_h7d_g28⟩ := hVs 6 (by decide) (by decide)
        have hv7 : vals 7 = _ := hVs 7 (by decide) (by decide)
        have hv8 : vals 8 = _ := hVs 8 (by decide) (by decide)
        have hv9 : vals 9 = _ := hVs 9 (by decide) (by decide)
        obtain ⟨A163, hv10, hO165, hN166, hap_hO165_g11, hap_hO165_g13, hap_hO165_g15, hap_hO165_g28⟩ := hVs 10 (by decide) (by decide)
        obtain ⟨A169, m170, c171, A172, m173, c174, hv11, h8n, h8d, h8m, hap_h8n_g11, hap_h8n_g13, hap_h8n_g15, hap_h8n_g28, hap_h8d_g11, hap_h8d_g13, hap_h8d_g15, hap_h8d_g28⟩ := hVs 11 (by decide) (by decide)
        obtain ⟨A169_12, m170_12, c171_12, A172_12, m173_12, c174_12, A176, hv12, h8n_12, h8d_12, h8m_12, hap_h8n_g11_12, hap_h8n_g13_12, hap_h8n_g15_12, hap_h8n_g28_12, hap_h8d_g11_12, hap_h8d_g13_12, hap_h8d_g15_12, hap_h8d_g28_12, hO178, hN179, hap_hO178_g11, hap_hO178_g13, hap_hO178_g15, hap_hO178_g28⟩ := hVs 12 (by decide) (by decide)
        obtain ⟨A182, m183, c184, A185, m186, c187, hv13, h9n, h9d, h9m, hap_h9n_g11, hap_h9n_g13, hap_h9n_g15, hap_h9n_g28, hap_h9d_g11, hap_h9d_g13, hap_h9d_g15, hap_h9d_g28⟩ := hVs 13 (by decide) (by decide)
        have hv14 : vals 14 = _ := hVs 14 (by decide) (by decide)
        have hv15 : vals 15 = _ := hVs 15 (by decide) (by decide)
        have hv16 : vals 16 = _ := hVs 16 (by decide) (by decide)
        have hv17 : vals 17 = _ := hVs 17 (by decide) (by decide)
        have hv18 : vals 18 = _ := hVs 18 (by decide) (by decide)
        obtain ⟨A195, hv19, hO197, hN198, hap_hO197_g11, hap_hO197_g13, hap_hO197_g15, hap_hO197_g28⟩ := hVs 19 (by decide) (by decide)
        obtain ⟨A201, m202, c203, A204, m205, c206, hv20, i1n, i1d, i1m, hap_i1n_g11, hap_i1n_g13, hap_i1n_g15, hap_i1n_g28, hap_i1d_g11, hap_i1d_g13, hap_i1d_g15, hap_i1d_g28⟩ := hVs 20 (by decide) (by decide)
        have hv21 : vals 21 = _ := hVs 21 (by decide) (by decide)
        obtain ⟨A201_22, m202_22, c203_22, A204_22, m205_22, c206_22, A209, hv22, i1n_22, i1d_22, i1m_22, hap_i1n_g11_22, hap_i1n_g13_22, hap_i1n_g15_22, hap_i1n_g28_22, hap_i1d_g11_22, hap_i1d_g13_22, hap_i1d_g15_22, hap_i1d_g28_22, hO211, hN212, hap_hO211_g11, hap_hO211_g13, hap_hO211_g15, hap_hO211_g28⟩ := hVs 22 (by decide) (by decide)
        obtain ⟨A215, m216, c217, A218, m219, c220, hv23, i2n, i2d, i2m, hap_i2n_g11, hap_i2n_g13, hap_i2n_g15, hap_i2n_g28, hap_i2d_g11, hap_i2d_g13, hap_i2d_g15, hap_i2d_g28⟩ := hVs 23 (by decide) (by decide)
        have hv24 : vals 24 = _ := hVs 24 (by decide) (by decide)
        have hv25 : vals 25 = _ := hVs 25 (by decide) (by decide)
        have hv26 : vals 26 = _ := hVs 26 (by decide) (by decide)
        obtain ⟨A225, hv27, hO227, hN228, hap_hO227_g11, hap_hO227_g13, hap_hO227_g15, hap_hO227_g28⟩ := hVs 27 (by decide) (by decide)
        obtain ⟨A231, m232, c233, A234, m235, c236, hv28, i3n, i3d, i3m, hap_i3n_g11, hap_i3n_g13, hap_i3n_g15, hap_i3n_g28, hap_i3d_g11, hap_i3d_g13, hap_i3d_g15, hap_i3d_g28⟩ := hVs 28 (by decide) (by decide)
        obtain ⟨A231_29, m232_29, c233_29, A234_29, m235_29, c236_29, A238, hv29, i3n_29, i3d_29, i3m_29, hap_i3n_g11_29, hap_i3n_g13_29, hap_i3n_g15_29, hap_i3n_g28_29, hap_i3d_g11_29, hap_i3d_g13_29, hap_i3d_g15_29, hap_i3d_g28_29, hO240, hN241, hap_hO240_g11, hap_hO240_g13, hap_hO240_g15, hap_hO240_g28⟩ := hVs 29 (by decide) (by decide)
        obtain ⟨A244, m245, c246, A247, m248, c249, hv30, i4n, i4d, i4m, hap_i4n_g11, hap_i4n_g13, hap_i4n_g15, hap_i4n_g28, hap_i4d_g11, hap_i4d_g13, hap_i4d_g15, hap_i4d_g28⟩ := hVs 30 (by decide) (by decide)
        have hv31 : vals 31 = _ := hVs 31 (by decide) (by decide)
        have hv32 : vals 32 = _ := hVs 32 (by decide) (by decide)
        have hv33 : vals 33 = _ := hVs 33 (by decide) (by decide)
        rw [show (List.filterMap (fun i => Option.map (fun t => (t, vals i)) (dstAt _ i)) (List.range _)) = [(49, .agg #[.bool na, .slice Aan man can, .slice Aad mad cad]), (50, .agg #[.bool nb, .slice Abn mbn cbn, .slice Abd mbd cbd]), (51, .slice A133 2 2), (52, .agg #[.bool (qneg (qa + qb)), .slice A139 m140 c141, .slice A142 m143 c144]), (53, .agg #[.bool nc, .slice Acn mcn ccn, .slice Acd mcd ccd]), (54, .slice A147 2 2), (55, .agg #[.bool (qneg ((qa + qb) + qc)), .slice A153 m154 c155, .slice A156 m157 c158]), (56, .agg #[.bool na, .slice Aan man can, .slice Aad mad cad]), (57, .agg #[.bool nb, .slice Abn mbn cbn, .slice Abd mbd cbd]), (58, .agg #[.bool nc, .slice Acn mcn ccn, .slice Acd mcd ccd]), (59, .slice A163 2 2), (60, .agg #[.bool (qneg (qb + qc)), .slice A169 m170 c171, .slice A172 m173 c174]), (61, .slice A176 2 2), (62, .agg #[.bool (qneg (qa + (qb + qc))), .slice A182 m183 c184, .slice A185 m186 c187]), (63, .bool true), (64, .bool false), (65, .bool false), (66, .agg #[.bool na, .slice Aan man can, .slice Aad mad cad]), (67, .agg #[.bool nb, .slice Abn mbn cbn, .slice Abd mbd cbd]), (68, .slice A195 2 2), (69, .agg #[.bool (qneg (qa * qb)), .slice A201 m202 c203, .slice A204 m205 c206]), (70, .agg #[.bool nc, .slice Acn mcn ccn, .slice Acd mcd ccd]), (71, .slice A209 2 2), (72, .agg #[.bool (qneg ((qa * qb) * qc)), .slice A215 m216 c217, .slice A218 m219 c220]), (73, .agg #[.bool na, .slice Aan man can, .slice Aad mad cad]), (74, .agg #[.bool nb, .slice Abn mbn cbn, .slice Abd mbd cbd]), (75, .agg #[.bool nc, .slice Acn mcn ccn, .slice Acd mcd ccd]), (76, .slice A225 2 2), (77, .agg #[.bool (qneg (qb * qc)), .slice A231 m232 c233, .slice A234 m235 c236]), (78, .slice A238 2 2), (79, .agg #[.bool (qneg (qa * (qb * qc))), .slice A244 m245 c246, .slice A247 m248 c249]), (80, .bool true), (81, .bool false), (82, .bool false)] from by
          show [(49, vals 0), (50, vals 1), (51, vals 2), (52, vals 3), (53, vals 4), (54, vals 5), (55, vals 6), (56, vals 7), (57, vals 8), (58, vals 9), (59, vals 10), (60, vals 11), (61, vals 12), (62, vals 13), (63, vals 14), (64, vals 15), (65, vals 16), (66, vals 17), (67, vals 18), (68, vals 19), (69, vals 20), (70, vals 21), (71, vals 22), (72, vals 23), (73, vals 24), (74, vals 25), (75, vals 26), (76, vals 27), (77, vals 28), (78, vals 29), (79, vals 30), (80, vals 31), (81, vals 32), (82, vals 33)] = _
          rw [hv0, hv1, hv2, hv3, hv4, hv5, hv6, hv7, hv8, hv9, hv10, hv11, hv12, hv13, hv14, hv15, hv16, hv17, hv18, hv19, hv20, hv21, hv22, hv23, hv24, hv25, hv26, hv27, hv28, hv29, hv30, hv31, hv32, hv33]]
        refine W.condF rfl ?_
        refine W.skip ?_
        refine W.seq ?_
        refine W.seq ?_
        refine W.draw [⟨[], [3], false⟩, ⟨[], [4], false⟩, ⟨[], [5], false⟩, ⟨[1, 2], [], false⟩, ⟨[3], [], false⟩, ⟨[0, 4], [], false⟩, ⟨[5], [], false⟩, ⟨[], [3], false⟩, ⟨[], [4], false⟩, ⟨[7, 8], [], false⟩, ⟨[9], [], false⟩, ⟨[], [3], false⟩, ⟨[], [5], false⟩, ⟨[11, 12], [], false⟩, ⟨[13], [], false⟩, ⟨[10, 14], [], false⟩, ⟨[15], [], false⟩, ⟨[6, 16], [], false⟩, ⟨[17], [], true⟩] [[(3, .pointer (some ⟨g11, 0, none⟩))], [(4, .pointer (some ⟨g13, 0, none⟩))], [(5, .pointer (some ⟨g15, 0, none⟩))], [], [], [], [], [(3, .pointer (some ⟨g11, 0, none⟩))], [(4, .pointer (some ⟨g13, 0, none⟩))], [], [], [(3, .pointer (some ⟨g11, 0, none⟩))], [(5, .pointer (some ⟨g15, 0, none⟩))], [], [], [], [], [], []] (fun iQ => [fun v wQ => v = .agg #[.bool na, .slice Aan man can, .slice Aad mad cad], fun v wQ => v = .agg #[.bool nb, .slice Abn mbn cbn, .slice Abd mbd cbd], fun v wQ => v = .agg #[.bool nc, .slice Acn mcn ccn, .slice Acd mcd ccd], fun v wQ => ∃ A259, v = .slice A259 2 2 ∧ (Own w.heap.size wQ 31 3 A259 2 2 [.bool nb, .slice Abn mbn cbn, .slice Abd mbd cbd, .bool nc, .slice Acn mcn ccn, .slice Acd mcd ccd]) ∧ (RatsR wQ.heap.size wQ [.bool nb, .slice Abn mbn cbn, .slice Abd mbd cbd, .bool nc, .slice Acn mcn ccn, .slice Acd mcd ccd] [(nb, xbn, xbd), (nc, xcn, xcd)]) ∧ (∀ k, bl A259 = some k → k ≠ g11) ∧ (∀ k, bl A259 = some k → k ≠ g13) ∧ (∀ k, bl A259 = some k → k ≠ g15) ∧ (∀ k, bl A259 = some k → k ≠ g28), fun v wQ => ∃ A265 m266 c267 A268 m269 c270, v = .agg #[.bool (qneg (qb + qc)), .slice A265 m266 c267, .slice A268 m269 c270] ∧ (Own w.heap.size wQ 43 1 A265 m266 c267 (us (digs (qnum (qb + qc))))) ∧ (Own w.heap.size wQ 43 1 A268 m269 c270 (us (digs (Rat.den (qb + qc))))) ∧ (m266 ≤ 53 ∧ m269 ≤ 53) ∧ (∀ k, bl A265 = some k → k ≠ g11) ∧ (∀ k, bl A265 = some k → k ≠ g13) ∧ (∀ k, bl A265 = some k → k ≠ g15) ∧ (∀ k, bl A265 = some k → k ≠ g28) ∧ (∀ k, bl A268 = some k → k ≠ g11) ∧ (∀ k, bl A268 = some k → k ≠ g13) ∧ (∀ k, bl A268 = some k → k ≠ g15) ∧ (∀ k, bl A268 = some k → k ≠ g28), fun v wQ => ∃ A265_5 m266_5 c267_5 A268_5 m269_5 c270_5 A272, v = .slice A272 2 2 ∧ (Own w.heap.size wQ 43 1 A265_5 m266_5 c267_5 (us (digs (qnum (qb + qc))))) ∧ (Own w.heap.size wQ 43 1 A268_5 m269_5 c270_5 (us (digs (Rat.den (qb + qc))))) ∧ (m266_5 ≤ 53 ∧ m269_5 ≤ 53) ∧ (∀ k, bl A265_5 = some k → k ≠ g11) ∧ (∀ k, bl A265_5 = some k → k ≠ g13) ∧ (∀ k, bl A265_5 = some k → k ≠ g15) ∧ (∀ k, bl A265_5 = some k → k ≠ g28) ∧ (∀ k, bl A268_5 = some k → k ≠ g11) ∧ (∀ k, bl A268_5 = some k → k ≠ g13) ∧ (∀ k, bl A268_5 = some k → k ≠ g15) ∧ (∀ k, bl A268_5 = some k → k ≠ g28) ∧ (Own w.heap.size wQ 31 3 A272 2 2 [.bool na, .slice Aan man can, .slice Aad mad cad, .bool (qneg (qb + qc)), .slice A265_5 m266_5 c267_5, .slice A268_5 m269_5 c270_5]) ∧ (RatsR wQ.heap.size wQ [.bool na, .slice Aan man can, .slice Aad mad cad, .bool (qneg (qb + qc)), .slice A265_5 m266_5 c267_5, .slice A268_5 m269_5 c270_5] [(na, xan, xad), ((qneg (qb + qc)), digs (qnum (qb + qc)), digs (Rat.den (qb + qc)))]) ∧ (∀ k, bl A272 = some k → k ≠ g11) ∧ (∀ k, bl A272 = some k → k ≠ g13) ∧ (∀ k, bl A272 = some k → k ≠ g15) ∧ (∀ k, bl A272 = some k → k ≠ g28), fun v wQ => ∃ A278 m279 c280 A281 m282 c283, v = .agg #[.bool (qneg (qa * (qb + qc))), .slice A278 m279 c280, .slice A281 m282 c283] ∧ (Own w.heap.size wQ 43 1 A278 m279 c280 (us (digs (qnum (qa * (qb + qc)))))) ∧ (Own w.heap.size wQ 43 1 A281 m282 c283 (us (digs (Rat.den (qa * (qb + qc)))))) ∧ (m279 ≤ 405 ∧ m282 ≤ 405) ∧ (∀ k, bl A278 = some k → k ≠ g11) ∧ (∀ k, bl A278 = some k → k ≠ g13) ∧ (∀ k, bl A278 = some k → k ≠ g15) ∧ (∀ k, bl A278 = some k → k ≠ g28) ∧ (∀ k, bl A281 = some k → k ≠ g11) ∧ (∀ k, bl A281 = some k → k ≠ g13) ∧ (∀ k, bl A281 = some k → k ≠ g15) ∧ (∀ k, bl A281 = some k → k ≠ g28), fun v wQ => v = .agg #[.bool na, .slice Aan man can, .slice Aad mad cad], fun v wQ => v = .agg #[.bool nb, .slice Abn mbn cbn, .slice Abd mbd cbd], fun v wQ => ∃ A287, v = .slice A287 2 2 ∧ (Own w.heap.size wQ 31 3 A287 2 2 [.bool na, .slice Aan man can, .slice Aad mad cad, .bool nb, .slice Abn mbn cbn, .slice Abd mbd cbd]) ∧ (RatsR wQ.heap.size wQ [.bool na, .slice Aan man can, .slice Aad mad cad, .bool nb, .slice Abn mbn cbn, .slice Abd mbd cbd] [(na, xan, xad), (nb, xbn, xbd)]) ∧ (∀ k, bl A287 = some k → k ≠ g11) ∧ (∀ k, bl A287 = some k → k ≠ g13) ∧ (∀ k, bl A287 = some k → k ≠ g15) ∧ (∀ k, bl A287 = some k → k ≠ g28), fun v wQ => ∃ A293 m294 c295 A296 m297 c298, v = .agg #[.bool (qneg (qa * qb)), .slice A293 m294 c295, .slice A296 m297 c298] ∧ (Own w.heap.size wQ 43 1 A293 m294 c295 (us (digs (qnum (qa * qb))))) ∧ (Own w.heap.size wQ 43 1 A296 m297 c298 (us (digs (Rat.den (qa * qb))))) ∧ (m294 ≤ 53 ∧ m297 ≤ 53) ∧ (∀ k, bl A293 = some k → k ≠ g11) ∧ (∀ k, bl A293 = some k → k ≠ g13) ∧ (∀ k, bl A293 = some k → k ≠ g15) ∧ (∀ k, bl A293 = some k → k ≠ g28) ∧ (∀ k, bl A296 = some k → k ≠ g11) ∧ (∀ k, bl A296 = some k → k ≠ g13) ∧ (∀ k, bl A296 = some k → k ≠ g15) ∧ (∀ k, bl A296 = some k → k ≠ g28), fun v wQ => v = .agg #[.bool na, .slice Aan man can, .slice Aad mad cad], fun v wQ => v = .agg #[.bool nc, .slice Acn mcn ccn, .slice Acd mcd ccd], fun v wQ => ∃ A302, v = .slice A302 2 2 ∧ (Own w.heap.size wQ 31 3 A302 2 2 [.bool na, .slice Aan man can, .slice Aad mad cad, .bool nc, .slice Acn mcn ccn, .slice Acd mcd ccd]) ∧ (RatsR wQ.heap.size wQ [.bool na, .slice Aan man can, .slice Aad mad cad, .bool nc, .slice Acn mcn ccn, .slice Acd mcd ccd] [(na, xan, xad), (nc, xcn, xcd)]) ∧ (∀ k, bl A302 = some k → k ≠ g11) ∧ (∀ k, bl A302 = some k → k ≠ g13) ∧ (∀ k, bl A302 = some k → k ≠ g15) ∧ (∀ k, bl A302 = some k → k ≠ g28), fun v wQ => ∃ A308 m309 c310 A311 m312 c313, v = .agg #[.bool (qneg (qa * qc)), .slice A308 m309 c310, .slice A311 m312 c313] ∧ (Own w.heap.size wQ 43 1 A308 m309 c310 (us (digs (qnum (qa * qc))))) ∧ (Own w.heap.size wQ 43 1 A311 m312 c313 (us (digs (Rat.den (qa * qc))))) ∧ (m309 ≤ 53 ∧ m312 ≤ 53) ∧ (∀ k, bl A308 = some k → k ≠ g11) ∧ (∀ k, bl A308 = some k → k ≠ g13) ∧ (∀ k, bl A308 = some k → k ≠ g15) ∧ (∀ k, bl A308 = some k → k ≠ g28) ∧ (∀ k, bl A311 = some k → k ≠ g11) ∧ (∀ k, bl A311 = some k → k ≠ g13) ∧ (∀ k, bl A311 = some k → k ≠ g15) ∧ (∀ k, bl A311 = some k → k ≠ g28), fun v wQ => ∃ A293_15 m294_15 c295_15 A296_15 m297_15 c298_15 A308_15 m309_15 c310_15 A311_15 m312_15 c313_15 A315, v = .slice A315 2 2 ∧ (Own w.heap.size wQ 43 1 A293_15 m294_15 c295_15 (us (digs (qnum (qa * qb))))) ∧ (Own w.heap.size wQ 43 1 A296_15 m297_15 c298_15 (us (digs (Rat.den (qa * qb))))) ∧ (m294_15 ≤ 53 ∧ m297_15 ≤ 53) ∧ (∀ k, bl A293_15 = some k → k ≠ g11) ∧ (∀ k, bl A293_15 = some k → k ≠ g13) ∧ (∀ k, bl A293_15 = some k → k ≠ g15) ∧ (∀ k, bl A293_15 = some k → k ≠ g28) ∧ (∀ k, bl A296_15 = some k → k ≠ g11) ∧ (∀ k, bl A296_15 = some k → k ≠ g13) ∧ (∀ k, bl A296_15 = some k → k ≠ g15) ∧ (∀ k, bl A296_15 = some k → k ≠ g28) ∧ (Own w.heap.size wQ 43 1 A308_15 m309_15 c310_15 (us (digs (qnum (qa * qc))))) ∧ (Own w.heap.size wQ 43 1 A311_15 m312_15 c313_15 (us (digs (Rat.den (qa * qc))))) ∧ (m309_15 ≤ 53 ∧ m312_15 ≤ 53) ∧ (∀ k, bl A308_15 = some k → k ≠ g11) ∧ (∀ k, bl A308_15 = some k → k ≠ g13) ∧ (∀ k, bl A308_15 = some k → k ≠ g15) ∧ (∀ k, bl A308_15 = some k → k ≠ g28) ∧ (∀ k, bl A311_15 = some k → k ≠ g11) ∧ (∀ k, bl A311_15 = some k → k ≠ g13) ∧ (∀ k, bl A311_15 = some k → k ≠ g15) ∧ (∀ k, bl A311_15 = some k → k ≠ g28) ∧ (Own w.heap.size wQ 31 3 A315 2 2 [.bool (qneg (qa * qb)), .slice A293_15 m294_15 c295_15, .slice A296_15 m297_15 c298_15, .bool (qneg (qa * qc)), .slice A308_15 m309_15 c310_15, .slice A311_15 m312_15 c313_15]) ∧ (RatsR wQ.heap.size wQ [.bool (qneg (qa * qb)), .slice A293_15 m294_15 c295_15, .slice A296_15 m297_15 c298_15, .bool (qneg (qa * qc)), .slice A308_15 m309_15 c310_15, .slice A311_15 m312_15 c313_15] [((qneg (qa * qb)), digs (qnum (qa * qb)), digs (Rat.den (qa * qb))), ((qneg (qa * qc)), digs (qnum (qa * qc)), digs (Rat.den (qa * qc)))]) ∧ (∀ k, bl A315 = some k → k ≠ g11) ∧ (∀ k, bl A315 = some k → k ≠ g13) ∧ (∀ k, bl A315 = some k → k ≠ g15) ∧ (∀ k, bl A315 = some k → k ≠ g28), fun v wQ => ∃ A321 m322 c323 A324 m325 c326, v = .agg #[.bool (qneg ((qa * qb) + (qa * qc))), .slice A321 m322 c323, .slice A324 m325 c326] ∧ (Own w.heap.size wQ 43 1 A321 m322 c323 (us (digs (qnum ((qa * qb) + (qa * qc)))))) ∧ (Own w.heap.size wQ 43 1 A324 m325 c326 (us (digs (Rat.den ((qa * qb) + (qa * qc)))))) ∧ (m322 ≤ 405 ∧ m325 ≤ 405) ∧ (∀ k, bl A321 = some k → k ≠ g11) ∧ (∀ k, bl A321 = some k → k ≠ g13) ∧ (∀ k, bl A321 = some k → k ≠ g15) ∧ (∀ k, bl A321 = some k → k ≠ g28) ∧ (∀ k, bl A324 = some k → k ≠ g11) ∧ (∀ k, bl A324 = some k → k ≠ g13) ∧ (∀ k, bl A324 = some k → k ≠ g15) ∧ (∀ k, bl A324 = some k → k ≠ g28), fun v wQ => v = .bool true, fun v wQ => v = .bool false].getD iQ (fun _ _ => True)) (fun _ => True) 19 Try.mixed (by kernel_rfl) ?_ ?_ ?_
        · refine Vs_mono _ ?_
          intro VQ hVQ vQ wQ1 wQ2 hQ1 hQ2
          have hQ2 := hQ2.resolve_right (by decide)
          simp only [List.mem_cons, List.not_mem_nil, or_false] at hVQ
          rcases hVQ with rfl | rfl | rfl | rfl | rfl | rfl | rfl | rfl | rfl | rfl | rfl | rfl | rfl | rfl | rfl | rfl | rfl | rfl | rfl
          · exact hQ1
          · exact hQ1
          · exact hQ1
          · obtain ⟨A259, hQe, hO261, hN262, hap_hO261_g11, hap_hO261_g13, hap_hO261_g15, hap_hO261_g28⟩ := hQ1
            exact ⟨A259, hQe, hO261.ext hQ2, (hN262.ext hQ2).norm, hap_hO261_g11, hap_hO261_g13, hap_hO261_g15, hap_hO261_g28⟩
          · obtain ⟨A265, m266, c267, A268, m269, c270, hQe, i5n, i5d, i5m, hap_i5n_g11, hap_i5n_g13, hap_i5n_g15, hap_i5n_g28, hap_i5d_g11, hap_i5d_g13, hap_i5d_g15, hap_i5d_g28⟩ := hQ1
            exact ⟨A265, m266, c267, A268, m269, c270, hQe, i5n.ext hQ2, i5d.ext hQ2, i5m, hap_i5n_g11, hap_i5n_g13, hap_i5n_g15, hap_i5n_g28, hap_i5d_g11, hap_i5d_g13, hap_i5d_g15, hap_i5d_g28⟩
          · obtain ⟨A265_5, m266_5, c267_5, A268_5, m269_5, c270_5, A272, hQe, i5n_5, i5d_5, i5m_5, hap_i5n_g11_5, hap_i5n_g13_5, hap_i5n_g15_5, hap_i5n_g28_5, hap_i5d_g11_5, hap_i5d_g13_5, hap_i5d_g15_5, hap_i5d_g28_5, hO274, hN275, hap_hO274_g11, hap_hO274_g13, hap_hO274_g15, hap_hO274_g28⟩ := hQ1
            exact ⟨A265_5, m266_5, c267_5, A268_5, m269_5, c270_5, A272, hQe, i5n_5.ext hQ2, i5d_5.ext hQ2, i5m_5, hap_i5n_g11_5, hap_i5n_g13_5, hap_i5n_g15_5, hap_i5n_g28_5, hap_i5d_g11_5, hap_i5d_g13_5, hap_i5d_g15_5, hap_i5d_g28_5, hO274.ext hQ2, (hN275.ext hQ2).norm, hap_hO274_g11, hap_hO274_g13, hap_hO274_g15, hap_hO274_g28⟩
          · obtain ⟨A278, m279, c280, A281, m282, c283, hQe, i6n, i6d, i6m, hap_i6n_g11, hap_i6n_g13, hap_i6n_g15, hap_i6n_g28, hap_i6d_g11, hap_i6d_g13, hap_i6d_g15, hap_i6d_g28⟩ := hQ1
            exact ⟨A278, m279, c280, A281, m282, c283, hQe, i6n.ext hQ2, i6d.ext hQ2, i6m, hap_i6n_g11, hap_i6n_g13, hap_i6n_g15, hap_i6n_g28, hap_i6d_g11, hap_i6d_g13, hap_i6d_g15, hap_i6d_g28⟩
          · exact hQ1
          · exact hQ1
          · obtain ⟨A287, hQe, hO289, hN290, hap_hO289_g11, hap_hO289_g13, hap_hO289_g15, hap_hO289_g28⟩ := hQ1
            exact ⟨A287, hQe, hO289.ext hQ2, (hN290.ext hQ2).norm, hap_hO289_g11, hap_hO289_g13, hap_hO289_g15, hap_hO289_g28⟩
          · obtain ⟨A293, m294, c295, A296, m297, c298, hQe, i7n, i7d, i7m, hap_i7n_g11, hap_i7n_g13, hap_i7n_g15, hap_i7n_g28, hap_i7d_g11, hap_i7d_g13, hap_i7d_g15, hap_i7d_g28⟩ := hQ1
            exact ⟨A293, m294, c295, A296, m297, c298, hQe, i7n.ext hQ2, i7d.ext hQ2, i7m, hap_i7n_g11, hap_i7n_g13, hap_i7n_g15, hap_i7n_g28, hap_i7d_g11, hap_i7d_g13, hap_i7d_g15, hap_i7d_g28⟩
          · exact hQ1
          · exact hQ1
          · obtain ⟨A302, hQe, hO304, hN305, hap_hO304_g11, hap_hO304_g13, hap_hO304_g15, hap_hO304_g28⟩ := hQ1
            exact ⟨A302, hQe, hO304.ext hQ2, (hN305.ext hQ2).norm, hap_hO304_g11, hap_hO304_g13, hap_hO304_g15, hap_hO304_g28⟩
          · obtain ⟨A308, m309, c310, A311, m312, c313, hQe, i8n, i8d, i8m, hap_i8n_g11, hap_i8n_g13, hap_i8n_g15, hap_i8n_g28, hap_i8d_g11, hap_i8d_g13, hap_i8d_g15, hap_i8d_g28⟩ := hQ1
            exact ⟨A308, m309, c310, A311, m312, c313, hQe, i8n.ext hQ2, i8d.ext hQ2, i8m, hap_i8n_g11, hap_i8n_g13, hap_i8n_g15, hap_i8n_g28, hap_i8d_g11, hap_i8d_g13, hap_i8d_g15, hap_i8d_g28⟩
          · obtain ⟨A293_15, m294_15, c295_15, A296_15, m297_15, c298_15, A308_15, m309_15, c310_15, A311_15, m312_15, c313_15, A315, hQe, i7n_15, i7d_15, i7m_15, hap_i7n_g11_15, hap_i7n_g13_15, hap_i7n_g15_15, hap_i7n_g28_15, hap_i7d_g11_15, hap_i7d_g13_15, hap_i7d_g15_15, hap_i7d_g28_15, i8n_15, i8d_15, i8m_15, hap_i8n_g11_15, hap_i8n_g13_15, hap_i8n_g15_15, hap_i8n_g28_15, hap_i8d_g11_15, hap_i8d_g13_15, hap_i8d_g15_15, hap_i8d_g28_15, hO317, hN318, hap_hO317_g11, hap_hO317_g13, hap_hO317_g15, hap_hO317_g28⟩ := hQ1
            exact ⟨A293_15, m294_15, c295_15, A296_15, m297_15, c298_15, A308_15, m309_15, c310_15, A311_15, m312_15, c313_15, A315, hQe, i7n_15.ext hQ2, i7d_15.ext hQ2, i7m_15, hap_i7n_g11_15, hap_i7n_g13_15, hap_i7n_g15_15, hap_i7n_g28_15, hap_i7d_g11_15, hap_i7d_g13_15, hap_i7d_g15_15, hap_i7d_g28_15, i8n_15.ext hQ2, i8d_15.ext hQ2, i8m_15, hap_i8n_g11_15, hap_i8n_g13_15, hap_i8n_g15_15, hap_i8n_g28_15, hap_i8d_g11_15, hap_i8d_g13_15, hap_i8d_g15_15, hap_i8d_g28_15, hO317.ext hQ2, (hN318.ext hQ2).norm, hap_hO317_g11, hap_hO317_g13, hap_hO317_g15, hap_hO317_g28⟩
          · obtain ⟨A321, m322, c323, A324, m325, c326, hQe, i9n, i9d, i9m, hap_i9n_g11, hap_i9n_g13, hap_i9n_g15, hap_i9n_g28, hap_i9d_g11, hap_i9d_g13, hap_i9d_g15, hap_i9d_g28⟩ := hQ1
            exact ⟨A321, m322, c323, A324, m325, c326, hQe, i9n.ext hQ2, i9d.ext hQ2, i9m, hap_i9n_g11, hap_i9n_g13, hap_i9n_g15, hap_i9n_g28, hap_i9d_g11, hap_i9d_g13, hap_i9d_g15, hap_i9d_g28⟩
          · exact hQ1
          · exact hQ1
        · refine ⟨⟨rfl, ⟨rfl, trivial⟩, ?_⟩, ⟨rfl, ⟨rfl, trivial⟩, ?_⟩, ⟨rfl, ⟨rfl, trivial⟩, ?_⟩, ⟨rfl, trivial, ?_⟩, ⟨rfl, trivial, ?_⟩, ⟨rfl, trivial, ?_⟩, ⟨rfl, trivial, ?_⟩, ⟨rfl, ⟨rfl, trivial⟩, ?_⟩, ⟨rfl, ⟨rfl, trivial⟩, ?_⟩, ⟨rfl, trivial, ?_⟩, ⟨rfl, trivial, ?_⟩, ⟨rfl, ⟨rfl, trivial⟩, ?_⟩, ⟨rfl, ⟨rfl, trivial⟩, ?_⟩, ⟨rfl, trivial, ?_⟩, ⟨rfl, trivial, ?_⟩, ⟨rfl, trivial, ?_⟩, ⟨rfl, trivial, ?_⟩, ⟨rfl, trivial, ?_⟩, ⟨rfl, trivial, ?_⟩, trivial⟩
          · intro w255 hE
            have hE := hE rfl
            have hB := ext_trans hB hE
            have hVg11 := hVg11.ext hE
            intro R
            refine WL.loadV (cs := [.bool na, .slice Aan man can, .slice Aad mad cad]) Try.el31 Try.agg31 rfl rfl hVg11.vcells rfl ?_
            exact WL.done ⟨_, rfl, ext_refl _, rfl⟩
          · intro w256 hE
            have hE := hE rfl
            have hB := ext_trans hB hE
            have hVg13 := hVg13.ext hE
            intro R
            refine WL.loadV (cs := [.bool nb, .slice Abn mbn cbn, .slice Abd mbd cbd]) Try.el31 Try.agg31 rfl rfl hVg13.vcells rfl ?_
            exact WL.done ⟨_, rfl, ext_refl _, rfl⟩
          · intro w257 hE
            have hE := hE rfl
            have hB := ext_trans hB hE
            have hVg15 := hVg15.ext hE
            intro R
            refine WL.loadV (cs := [.bool nc, .slice Acn mcn ccn, .slice Acd mcd ccd]) Try.el31 Try.agg31 rfl rfl hVg15.vcells rfl ?_
            exact WL.done ⟨_, rfl, ext_refl _, rfl⟩
          · intro w258 hE
            have hE := hE rfl
            have hB := ext_trans hB hE
            have hbn := hbn0.ext hB
            have hbd := hbd0.ext hB
            have hcn := hcn0.ext hB
            have hcd := hcd0.ext hB
            have hVg11 := hVg11.ext hE
            have hVg13 := hVg13.ext hE
            have hVg15 := hVg15.ext hE
            have hVg28 := hVg28.ext hE
            rintro _ rfl
            rintro _ rfl
            intro R
            refine WL.lit (b := w258.heap.size) (cells := [.bool nb, .slice Abn mbn cbn, .slice Abd mbd cbd, .bool nc, .slice Acn mcn ccn, .slice Acd mcd ccd]) Try.underlying44 Try.el31 (by decide) ⟨_, rfl, by kernel_rfl⟩ rfl (Nat.le_refl _) rfl ?_
            rintro A259 w260 - hO261 hGw260
            have hap_hO261_g11 := ap_new hO261 (hVg11.bl_ge _ rfl).2
            have hap_hO261_g13 := ap_new hO261 (hVg13.bl_ge _ rfl).2
            have hap_hO261_g15 := ap_new hO261 (hVg15.bl_ge _ rfl).2
            have hap_hO261_g28 := ap_new hO261 (hVg28.bl_ge _ rfl).2
            have hO261 := hO261.low (b' := w.heap.size) hB.size
            have hB := ext_trans hB hGw260
            have hbn := hbn0.ext hB
            have hbd := hbd0.ext hB
            have hcn := hcn0.ext hB
            have hcd := hcd0.ext hB
            have hN262 : RatsR w260.heap.size w260 [.bool nb, .slice Abn mbn cbn, .slice Abd mbd cbd, .bool nc, .slice Acn mcn ccn, .slice Acd mcd ccd] [(nb, xbn, xbd), (nc, xcn, xcd)] := (RatsR.cons hbn.norm hbd.norm (RatsR.cons hcn.norm hcd.norm (RatsR.nil _ _)))
            exact WL.done ⟨_, rfl, hGw260, ⟨A259, rfl, hO261, hN262, hap_hO261_g11, hap_hO261_g13, hap_hO261_g15, hap_hO261_g28⟩⟩
          · intro w263 hE
            have hE := hE rfl
            have hB := ext_trans hB hE
            have hVg11 := hVg11.ext hE
            have hVg13 := hVg13.ext hE
            have hVg15 := hVg15.ext hE
            have hVg28 := hVg28.ext hE
            rintro _ ⟨A259, rfl, hO261, hN262, hap_hO261_g11, hap_hO261_g13, hap_hO261_g15, hap_hO261_g28⟩
            intro R
            refine WL.call Try.func32 rfl Try.nm32 rfl rfl (qAdd2_c hO261.rd hN262 hLbn hLbd hLcn hLcd qb hqb qc hqc 12 (by omega) (by omega)) ?_
            rintro _ w264 ⟨A265, m266, c267, A268, m269, c270, rfl, hGw264, i5n, i5d, i5m⟩
            have hap_i5n_g11 := ap_new i5n (hVg11.bl_ge _ rfl).2
            have hap_i5n_g13 := ap_new i5n (hVg13.bl_ge _ rfl).2
            have hap_i5n_g15 := ap_new i5n (hVg15.bl_ge _ rfl).2
            have hap_i5n_g28 := ap_new i5n (hVg28.bl_ge _ rfl).2
            have hap_i5d_g11 := ap_new i5d (hVg11.bl_ge _ rfl).2
            have hap_i5d_g13 := ap_new i5d (hVg13.bl_ge _ rfl).2
            have hap_i5d_g15 := ap_new i5d (hVg15.bl_ge _ rfl).2
            have hap_i5d_g28 := ap_new i5d (hVg28.bl_ge _ rfl).2
            have i5n := i5n.low (b' := w.heap.size) hB.size
            have i5d := i5d.low (b' := w.heap.size) hB.size
            have hB := ext_trans hB hGw264
            have i5n_l := i5n.rd.ulen
            have i5d_l := i5d.rd.ulen
            exact WL.done ⟨_, rfl, hGw264, ⟨A265, m266, c267, A268, m269, c270, rfl, i5n, i5d, i5m, hap_i5n_g11, hap_i5n_g13, hap_i5n_g15, hap_i5n_g28, hap_i5d_g11, hap_i5d_g13, hap_i5d_g15, hap_i5d_g28⟩⟩
          · intro w271 hE
            have hE := hE rfl
            have hB := ext_trans hB hE
            have han := han0.ext hB
            have had := had0.ext hB
            have hVg11 := hVg11.ext hE
            have hVg13 := hVg13.ext hE
            have hVg15 := hVg15.ext hE
            have hVg28 := hVg28.ext hE
            rintro _ rfl
            rintro _ ⟨A265, m266, c267, A268, m269, c270, rfl, i5n, i5d, i5m, hap_i5n_g11, hap_i5n_g13, hap_i5n_g15, hap_i5n_g28, hap_i5d_g11, hap_i5d_g13, hap_i5d_g15, hap_i5d_g28⟩
            intro R
            refine WL.lit (b := w271.heap.size) (cells := [.bool na, .slice Aan man can, .slice Aad mad cad, .bool (qneg (qb + qc)), .slice A265 m266 c267, .slice A268 m269 c270]) Try.underlying44 Try.el31 (by decide) ⟨_, rfl, by kernel_rfl⟩ rfl (Nat.le_refl _) rfl ?_
            rintro A272 w273 - hO274 hGw273
            have hap_hO274_g11 := ap_new hO274 (hVg11.bl_ge _ rfl).2
            have hap_hO274_g13 := ap_new hO274 (hVg13.bl_ge _ rfl).2
            have hap_hO274_g15 := ap_new hO274 (hVg15.bl_ge _ rfl).2
            have hap_hO274_g28 := ap_new hO274 (hVg28.bl_ge _ rfl).2
            have hO274 := hO274.low (b' := w.heap.size) hB.size
            have hB := ext_trans hB hGw273
            have han := han0.ext hB
            have had := had0.ext hB
            have i5n := i5n.ext hGw273
            have i5d := i5d.ext hGw273
            have hN275 : RatsR w273.heap.size w273 [.bool na, .slice Aan man can, .slice Aad mad cad, .bool (qneg (qb + qc)), .slice A265 m266 c267, .slice A268 m269 c270] [(na, xan, xad), ((qneg (qb + qc)), digs (qnum (qb + qc)), digs (Rat.den (qb + qc)))] := (RatsR.cons han.norm had.norm (RatsR.cons i5n.rd.norm i5d.rd.norm (RatsR.nil _ _)))
            exact WL.done ⟨_, rfl, hGw273, ⟨A265, m266, c267, A268, m269, c270, A272, rfl, i5n, i5d, i5m, hap_i5n_g11, hap_i5n_g13, hap_i5n_g15, hap_i5n_g28, hap_i5d_g11, hap_i5d_g13, hap_i5d_g15, hap_i5d_g28, hO274, hN275, hap_hO274_g11, hap_hO274_g13, hap_hO274_g15, hap_hO274_g28⟩⟩
          · intro w276 hE
            have hE := hE rfl
            have hB := ext_trans hB hE
            have hVg11 := hVg11.ext hE
            have hVg13 := hVg13.ext hE
            have hVg15 := hVg15.ext hE
            have hVg28 := hVg28.ext hE
            rintro _ ⟨A265_5, m266_5, c267_5, A268_5, m269_5, c270_5, A272, rfl, i5n_5, i5d_5, i5m_5, hap_i5n_g11_5, hap_i5n_g13_5, hap_i5n_g15_5, hap_i5n_g28_5, hap_i5d_g11_5, hap_i5d_g13_5, hap_i5d_g15_5, hap_i5d_g28_5, hO274, hN275, hap_hO274_g11, hap_hO274_g13, hap_hO274_g15, hap_hO274_g28⟩
            intro R
            refine WL.call Try.func34 rfl Try.nm34 rfl rfl (qMul2_c hO274.rd hN275 hLan hLad (digs_lim _) (digs_lim _) qa hqa (qb + qc) (val_canon _) 100 (by omega) (by omega)) ?_
            rintro _ w277 ⟨A278, m279, c280, A281, m282, c283, rfl, hGw277, i6n, i6d, i6m⟩
            have hap_i6n_g11 := ap_new i6n (hVg11.bl_ge _ rfl).2
            have hap_i6n_g13 := ap_new i6n (hVg13.bl_ge _ rfl).2
            have hap_i6n_g15 := ap_new i6n (hVg15.bl_ge _ rfl).2
            have hap_i6n_g28 := ap_new i6n (hVg28.bl_ge _ rfl).2
            have hap_i6d_g11 := ap_new i6d (hVg11.bl_ge _ rfl).2
            have hap_i6d_g13 := ap_new i6d (hVg13.bl_ge _ rfl).2
            have hap_i6d_g15 := ap_new i6d (hVg15.bl_ge _ rfl).2
            have hap_i6d_g28 := ap_new i6d (hVg28.bl_ge _ rfl).2
            have i6n := i6n.low (b' := w.heap.size) hB.size
            have i6d := i6d.low (b' := w.heap.size) hB.size
            have hB := ext_trans hB hGw277
            have i6n_l := i6n.rd.ulen
            have i6d_l := i6d.rd.ulen
            exact WL.done ⟨_, rfl, hGw277, ⟨A278, m279, c280, A281, m282, c283, rfl, i6n, i6d, i6m, hap_i6n_g11, hap_i6n_g13, hap_i6n_g15, hap_i6n_g28, hap_i6d_g11, hap_i6d_g13, hap_i6d_g15, hap_i6d_g28⟩⟩
          · intro w284 hE
            have hE := hE rfl
            have hB := ext_trans hB hE
            have hVg11 := hVg11.ext hE
            intro R
            refine WL.loadV (cs := [.bool na, .slice Aan man can, .slice Aad mad cad]) Try.el31 Try.agg31 rfl rfl hVg11.vcells rfl ?_
            exact WL.done ⟨_, rfl, ext_refl _, rfl⟩
          · intro w285 hE
            have hE := hE rfl
            have hB := ext_trans hB hE
            have hVg13 := hVg13.ext hE
            intro R
            refine WL.loadV (cs := [.bool nb, .slice Abn mbn cbn, .slice Abd mbd cbd]) Try.el31 Try.agg31 rfl rfl hVg13.vcells rfl ?_
            exact WL.done ⟨_, rfl, ext_refl _, rfl⟩
          · intro w286 hE
            have hE := hE rfl
            have hB := ext_trans hB hE
            have han := han0.ext hB
            have had := had0.ext hB
            have hbn := hbn0.ext hB
            have hbd := hbd0.ext hB
            have hVg11 := hVg11.ext hE
            have hVg13 := hVg13.ext hE
            have hVg15 := hVg15.ext hE
            have hVg28 := hVg28.ext hE
            rintro _ rfl
            rintro _ rfl
            intro R
            refine WL.lit (b := w286.heap.size) (cells := [.bool na, .slice Aan man can, .slice Aad mad cad, .bool nb, .slice Abn mbn cbn, .slice Abd mbd cbd]) Try.underlying44 Try.el31 (by decide) ⟨_, rfl, by kernel_rfl⟩ rfl (Nat.le_refl _) rfl ?_
            rintro A287 w288 - hO289 hGw288
            have hap_hO289_g11 := ap_new hO289 (hVg11.bl_ge _ rfl).2
            have hap_hO289_g13 := ap_new hO289 (hVg13.bl_ge _ rfl).2
            have hap_hO289_g15 := ap_new hO289 (hVg15.bl_ge _ rfl).2
            have hap_hO289_g28 := ap_new hO289 (hVg28.bl_ge _ rfl).2
            have hO289 := hO289.low (b' := w.heap.size) hB.size
            have hB := ext_trans hB hGw288
            have han := han0.ext hB
            have had := had0.ext hB
            have hbn := hbn0.ext hB
            have hbd := hbd0.ext hB
            have hN290 : RatsR w288.heap.size w288 [.bool na, .slice Aan man can, .slice Aad mad cad, .bool nb, .slice Abn mbn cbn, .slice Abd mbd cbd] [(na, xan, xad), (nb, xbn, xbd)] := (RatsR.cons han.norm had.norm (RatsR.cons hbn.norm hbd.norm (RatsR.nil _ _)))
            exact WL.done ⟨_, rfl, hGw288, ⟨A287, rfl, hO289, hN290, hap_hO289_g11, hap_hO289_g13, hap_hO289_g15, hap_hO289_g28⟩⟩
          · intro w291 hE
            have hE := hE rfl
            have hB := ext_trans hB hE
            have hVg11 := hVg11.ext hE
            have hVg13 := hVg13.ext hE
            have hVg15 := hVg15.ext hE
            have hVg28 := hVg28.ext hE
            rintro _ ⟨A287, rfl, hO289, hN290, hap_hO289_g11, hap_hO289_g13, hap_hO289_g15, hap_hO289_g28⟩
            intro R
            refine WL.call Try.func34 rfl Try.nm34 rfl rfl (qMul2_c hO289.rd hN290 hLan hLad hLbn hLbd qa hqa qb hqb 12 (by omega) (by omega)) ?_
            rintro _ w292 ⟨A293, m294, c295, A296, m297, c298, rfl, hGw292, i7n, i7d, i7m⟩
            have hap_i7n_g11 := ap_new i7n (hVg11.bl_ge _ rfl).2
            have hap_i7n_g13 := ap_new i7n (hVg13.bl_ge _ rfl).2
            have hap_i7n_g15 := ap_new i7n (hVg15.bl_ge _ rfl).2
            have hap_i7n_g28 := ap_new i7n (hVg28.bl_ge _ rfl).2
            have hap_i7d_g11 := ap_new i7d (hVg11.bl_ge _ rfl).2
            have hap_i7d_g13 := ap_new i7d (hVg13.bl_ge _ rfl).2
            have hap_i7d_g15 := ap_new i7d (hVg15.bl_ge _ rfl).2
            have hap_i7d_g28 := ap_new i7d (hVg28.bl_ge _ rfl).2
            have i7n := i7n.low (b' := w.heap.size) hB.size
            have i7d := i7d.low (b' := w.heap.size) hB.size
            have hB := ext_trans hB hGw292
            have i7n_l := i7n.rd.ulen
            have i7d_l := i7d.rd.ulen
            exact WL.done ⟨_, rfl, hGw292, ⟨A293, m294, c295, A296, m297, c298, rfl, i7n, i7d, i7m, hap_i7n_g11, hap_i7n_g13, hap_i7n_g15, hap_i7n_g28, hap_i7d_g11, hap_i7d_g13, hap_i7d_g15, hap_i7d_g28⟩⟩
          · intro w299 hE
            have hE := hE rfl
            have hB := ext_trans hB hE
            have hVg11 := hVg11.ext hE
            intro R
            refine WL.loadV (cs := [.bool na, .slice Aan man can, .slice Aad mad cad]) Try.el31 Try.agg31 rfl rfl hVg11.vcells rfl ?_
            exact WL.done ⟨_, rfl, ext_refl _, rfl⟩
          · intro w300 hE
            have hE := hE rfl
            have hB := ext_trans hB hE
            have hVg15 := hVg15.ext hE
            intro R
            refine WL.loadV (cs := [.bool nc, .slice Acn mcn ccn, .slice Acd mcd ccd]) Try.el31 Try.agg31 rfl rfl hVg15.vcells rfl ?_
            exact WL.done ⟨_, rfl, ext_refl _, rfl⟩
          · intro w301 hE
            have hE := hE rfl
            have hB := ext_trans hB hE
            have han := han0.ext hB
            have had := had0.ext hB
            have hcn := hcn0.ext hB
            have hcd := hcd0.ext hB
            have hVg11 := hVg11.ext hE
            have hVg13 := hVg13.ext hE
            have hVg15 := hVg15.ext hE
            have hVg28 := hVg28.ext hE
            rintro _ rfl
            rintro _ rfl
            intro R
            refine WL.lit (b := w301.heap.size) (cells := [.bool na, .slice Aan man can, .slice Aad mad cad, .bool nc, .slice Acn mcn ccn, .slice Acd mcd ccd]) Try.underlying44 Try.el31 (by decide) ⟨_, rfl, by kernel_rfl⟩ rfl (Nat.le_refl _) rfl ?_
            rintro A302 w303 - hO304 hGw303
            have hap_hO304_g11 := ap_new hO304 (hVg11.bl_ge _ rfl).2
            have hap_hO304_g13 := ap_new hO304 (hVg13.bl_ge _ rfl).2
            have hap_hO304_g15 := ap_new hO304 (hVg15.bl_ge _ rfl).2
            have hap_hO304_g28 := ap_new hO304 (hVg28.bl_ge _ rfl).2
            have hO304 := hO304.low (b' := w.heap.size) hB.size
            have hB := ext_trans hB hGw303
            have han := han0.ext hB
            have had := had0.ext hB
            have hcn := hcn0.ext hB
            have hcd := hcd0.ext hB
            have hN305 : RatsR w303.heap.size w303 [.bool na, .slice Aan man can, .slice Aad mad cad, .bool nc, .slice Acn mcn ccn, .slice Acd mcd ccd] [(na, xan, xad), (nc, xcn, xcd)] := (RatsR.cons han.norm had.norm (RatsR.cons hcn.norm hcd.norm (RatsR.nil _ _)))
            exact WL.done ⟨_, rfl, hGw303, ⟨A302, rfl, hO304, hN305, hap_hO304_g11, hap_hO304_g13, hap_hO304_g15, hap_hO304_g28⟩⟩
          · intro w306 hE
            have hE := hE rfl
            have hB := ext_trans hB hE
            have hVg11 := hVg11.ext hE
            have hVg13 := hVg13.ext hE
            have hVg15 := hVg15.ext hE
            have hVg28 := hVg28.ext hE
            rintro _ ⟨A302, rfl, hO304, hN305, hap_hO304_g11, hap_hO304_g13, hap_hO304_g15, hap_hO304_g28⟩
            intro R
            refine WL.call Try.func34 rfl Try.nm34 rfl rfl (qMul2_c hO304.rd hN305 hLan hLad hLcn hLcd qa hqa qc hqc 12 (by omega) (by omega)) ?_
            rintro _ w307 ⟨A308, m309, c310, A311, m312, c313, rfl, hGw307, i8n, i8d, i8m⟩
            have hap_i8n_g11 := ap_new i8n (hVg11.bl_ge _ rfl).2
            have hap_i8n_g13 := ap_new i8n (hVg13.bl_ge _ rfl).2
            have hap_i8n_g15 := ap_new i8n (hVg15.bl_ge _ rfl).2
            have hap_i8n_g28 := ap_new i8n (hVg28.bl_ge _ rfl).2
            have hap_i8d_g11 := ap_new i8d (hVg11.bl_ge _ rfl).2
            have hap_i8d_g13 := ap_new i8d (hVg13.bl_ge _ rfl).2
            have hap_i8d_g15 := ap_new i8d (hVg15.bl_ge _ rfl).2
            have hap_i8d_g28 := ap_new i8d (hVg28.bl_ge _ rfl).2
            have i8n := i8n.low (b' := w.heap.size) hB.size
            have i8d := i8d.low (b' := w.heap.size) hB.size
            have hB := ext_trans hB hGw307
            have i8n_l := i8n.rd.ulen
            have i8d_l := i8d.rd.ulen
            exact WL.done ⟨_, rfl, hGw307, ⟨A308, m309, c310, A311, m312, c313, rfl, i8n, i8d, i8m, hap_i8n_g11, hap_i8n_g13, hap_i8n_g15, hap_i8n_g28, hap_i8d_g11, hap_i8d_g13, hap_i8d_g15, hap_i8d_g28⟩⟩
          · intro w314 hE
            have hE := hE rfl
            have hB := ext_trans hB hE
            have hVg11 := hVg11.ext hE
            have hVg13 := hVg13.ext hE
            have hVg15 := hVg15.ext hE
            have hVg28 := hVg28.ext hE
            rintro _ ⟨A293, m294, c295, A296, m297, c298, rfl, i7n, i7d, i7m, hap_i7n_g11, hap_i7n_g13, hap_i7n_g15, hap_i7n_g28, hap_i7d_g11, hap_i7d_g13, hap_i7d_g15, hap_i7d_g28⟩
            rintro _ ⟨A308, m309, c310, A311, m312, c313, rfl, i8n, i8d, i8m, hap_i8n_g11, hap_i8n_g13, hap_i8n_g15, hap_i8n_g28, hap_i8d_g11, hap_i8d_g13, hap_i8d_g15, hap_i8d_g28⟩
            intro R
            refine WL.lit (b := w314.heap.size) (cells := [.bool (qneg (qa * qb)), .slice A293 m294 c295, .slice A296 m297 c298, .bool (qneg (qa * qc)), .slice A308 m309 c310, .slice A311 m312 c313]) Try.underlying44 Try.el31 (by decide) ⟨_, rfl, by kernel_rfl⟩ rfl (Nat.le_refl _) rfl ?_
            rintro A315 w316 - hO317 hGw316
            have hap_hO317_g11 := ap_new hO317 (hVg11.bl_ge _ rfl).2
            have hap_hO317_g13 := ap_new hO317 (hVg13.bl_ge _ rfl).2
            have hap_hO317_g15 := ap_new hO317 (hVg15.bl_ge _ rfl).2
            have hap_hO317_g28 := ap_new hO317 (hVg28.bl_ge _ rfl).2
            have hO317 := hO317.low (b' := w.heap.size) hB.size
            have hB := ext_trans hB hGw316
            have i7n := i7n.ext hGw316
            have i7d := i7d.ext hGw316
            have i8n := i8n.ext hGw316
            have i8d := i8d.ext hGw316
            have hN318 : RatsR w316.heap.size w316 [.bool (qneg (qa * qb)), .slice A293 m294 c295, .slice A296 m297 c298, .bool (qneg (qa * qc)), .slice A308 m309 c310, .slice A311 m312 c313] [((qneg (qa * qb)), digs (qnum (qa * qb)), digs (Rat.den (qa * qb))), ((qneg (qa * qc)), digs (qnum (qa * qc)), digs (Rat.den (qa * qc)))] := (RatsR.cons i7n.rd.norm i7d.rd.norm (RatsR.cons i8n.rd.norm i8d.rd.norm (RatsR.nil _ _)))
            exact WL.done ⟨_, rfl, hGw316, ⟨A293, m294, c295, A296, m297, c298, A308, m309, c310, A311, m312, c313, A315, rfl, i7n, i7d, i7m, hap_i7n_g11, hap_i7n_g13, hap_i7n_g15, hap_i7n_g28, hap_i7d_g11, hap_i7d_g13, hap_i7d_g15, hap_i7d_g28, i8n, i8d, i8m, hap_i8n_g11, hap_i8n_g13, hap_i8n_g15, hap_i8n_g28, hap_i8d_g11, hap_i8d_g13, hap_i8d_g15, hap_i8d_g28, hO317, hN318, hap_hO317_g11, hap_hO317_g13, hap_hO317_g15, hap_hO317_g28⟩⟩
          · intro w319 hE
            have hE := hE rfl
            have hB := ext_trans hB hE
            have hVg11 := hVg11.ext hE
            have hVg13 := hVg13.ext hE
            have hVg15 := hVg15.ext hE
            have hVg28 := hVg28.ext hE
            rintro _ ⟨A293_15, m294_15, c295_15, A296_15, m297_15, c298_15, A308_15, m309_15, c310_15, A311_15, m312_15, c313_15, A315, rfl, i7n_15, i7d_15, i7m_15, hap_i7n_g11_15, hap_i7n_g13_15, hap_i7n_g15_15, hap_i7n_g28_15, hap_i7d_g11_15, hap_i7d_g13_15, hap_i7d_g15_15, hap_i7d_g28_15, i8n_15, i8d_15, i8m_15, hap_i8n_g11_15, hap_i8n_g13_15, hap_i8n_g15_15, hap_i8n_g28_15, hap_i8d_g11_15, hap_i8d_g13_15, hap_i8d_g15_15, hap_i8d_g28_15, hO317, hN318, hap_hO317_g11, hap_hO317_g13, hap_hO317_g15, hap_hO317_g28⟩
            intro R
            refine WL.call Try.func32 rfl Try.nm32 rfl rfl (qAdd2_c hO317.rd hN318 (digs_lim _) (digs_lim _) (digs_lim _) (digs_lim _) (qa * qb) (val_canon _) (qa * qc) (val_canon _) 100 (by omega) (by omega)) ?_
            rintro _ w320 ⟨A321, m322, c323, A324, m325, c326, rfl, hGw320, i9n, i9d, i9m⟩
            have hap_i9n_g11 := ap_new i9n (hVg11.bl_ge _ rfl).2
            have hap_i9n_g13 := ap_new i9n (hVg13.bl_ge _ rfl).2
            have hap_i9n_g15 := ap_new i9n (hVg15.bl_ge _ rfl).2
            have hap_i9n_g28 := ap_new i9n (hVg28.bl_ge _ rfl).2
            have hap_i9d_g11 := ap_new i9d (hVg11.bl_ge _ rfl).2
            have hap_i9d_g13 := ap_new i9d (hVg13.bl_ge _ rfl).2
            have hap_i9d_g15 := ap_new i9d (hVg15.bl_ge _ rfl).2
            have hap_i9d_g28 := ap_new i9d (hVg28.bl_ge _ rfl).2
            have i9n := i9n.low (b' := w.heap.size) hB.size
            have i9d := i9d.low (b' := w.heap.size) hB.size
            have hB := ext_trans hB hGw320
            have i9n_l := i9n.rd.ulen
            have i9d_l := i9d.rd.ulen
            exact WL.done ⟨_, rfl, hGw320, ⟨A321, m322, c323, A324, m325, c326, rfl, i9n, i9d, i9m, hap_i9n_g11, hap_i9n_g13, hap_i9n_g15, hap_i9n_g28, hap_i9d_g11, hap_i9d_g13, hap_i9d_g15, hap_i9d_g28⟩⟩
          · intro w327 hE
            have hE := hE rfl
            have hB := ext_trans hB hE
            rintro _ ⟨A278, m279, c280, A281, m282, c283, rfl, i6n, i6d, i6m, hap_i6n_g11, hap_i6n_g13, hap_i6n_g15, hap_i6n_g28, hap_i6d_g11, hap_i6d_g13, hap_i6d_g15, hap_i6d_g28⟩
            rintro _ ⟨A321, m322, c323, A324, m325, c326, rfl, i9n, i9d, i9m, hap_i9n_g11, hap_i9n_g13, hap_i9n_g15, hap_i9n_g28, hap_i9d_g11, hap_i9d_g13, hap_i9d_g15, hap_i9d_g28⟩
            intro R
            refine WL.call Try.func18 rfl Try.nm18 rfl rfl (qsame_t i6n.rd i6d.rd i9n.rd i9d.rd (can_eq (Rat.mul_add qa qb qc))) ?_
            rintro _ w328 ⟨rfl, hGw328⟩
            have hB := ext_trans hB hGw328
            exact WL.done ⟨_, rfl, hGw328, rfl⟩
          · intro w329 hE
            rintro _ rfl
            intro R
            refine WL.not rfl rfl ?_
            exact WL.done ⟨_, rfl, rfl, rfl⟩
        · intro vals w330 hT hVs
          rw [if_neg (by decide)] at hT
          have hB := ext_trans hB hT
          have han := han0.ext hB
          have had := had0.ext hB
          have hbn := hbn0.ext hB
          have hbd := hbd0.ext hB
          have hVg11 := hVg11.ext hT
          have hVg13 := hVg13.ext hT
          have hVg15 := hVg15.ext hT
          have hVg28 := hVg28.ext hT
          have hv0 : vals 0 = _ := hVs 0 (by decide) (by decide)
          have hv1 : vals 1 = _ := hVs 1 (by decide) (by decide)
          have hv2 : vals 2 = _ := hVs 2 (by decide) (by decide)
          obtain ⟨A259, hv3, hO261, hN262, hap_hO261_g11, hap_hO261_g13, hap_hO261_g15, hap_hO261_g28⟩ := hVs 3 (by decide) (by decide)
          obtain ⟨A265, m266, c267, A268, m269, c270, hv4, i5n, i5d, i5m, hap_i5n_g11, hap_i5n_g13, hap_i5n_g15, hap_i5n_g28, hap_i5d_g11, hap_i5d_g13, hap_i5d_g15, hap_i5d_g28⟩ := hVs 4 (by decide) (by decide)
          obtain ⟨A265_5, m266_5, c267_5, A268_5, m269_5, c270_5, A272, hv5, i5n_5, i5d_5, i5m_5, hap_i5n_g11_5, hap_i5n_g13_5, hap_i5n_g15_5, hap_i5n_g28_5, hap_i5d_g11_5, hap_i5d_g13_5, hap_i5d_g15_5, hap_i5d_g28_5, hO274, hN275, hap_hO274_g11, hap_hO274_g13, hap_hO274_g15, hap_hO274_g28⟩ := hVs 5 (by decide) (by decide)
          obtain ⟨A278, m279, c280, A281, m282, c283, hv6, i6n, i6d, i6m, hap_i6n_g11, hap_i6n_g13, hap_i6n_g15, hap_i6n_g28, hap_i6d_g11, hap_i6d_g13, hap_i6d_g15, hap_i6d_g28⟩ := hVs 6 (by decide) (by decide)
          have hv7 : vals 7 = _ := hVs 7 (by decide) (by decide)
          have hv8 : vals 8 = _ := hVs 8 (by decide) (by decide)
          obtain ⟨A287, hv9, hO289, hN290, hap_hO289_g11, hap_hO289_g13, hap_hO289_g15, hap_hO289_g28⟩ := hVs 9 (by decide) (by decide)
          obtain ⟨A293, m294, c295, A296, m297, c298, hv10, i7n, i7d, i7m, hap_i7n_g11, hap_i7n_g13, hap_i7n_g15, hap_i7n_g28, hap_i7d_g11, hap_i7d_g13, hap_i7d_g15, hap_i7d_g28⟩ := hVs 10 (by decide) (by decide)
          have hv11 : vals 11 = _ := hVs 11 (by decide) (by decide)
          have hv12 : vals 12 = _ := hVs 12 (by decide) (by decide)
          obtain ⟨A302, hv13, hO304, hN305, hap_hO304_g11, hap_hO304_g13, hap_hO304_g15, hap_hO304_g28⟩ := hVs 13 (by decide) (by decide)
          obtain ⟨A308, m309, c310, A311, m312, c313, hv14, i8n, i8d, i8m, hap_i8n_g11, hap_i8n_g13, hap_i8n_g15, hap_i8n_g28, hap_i8d_g11, hap_i8d_g13, hap_i8d_g15, hap_i8d_g28⟩ := hVs 14 (by decide) (by decide)
          obtain ⟨A293_15, m294_15, c295_15, A296_15, m297_15, c298_15, A308_15, m309_15, c310_15, A311_15, m312_15, c313_15, A315, hv15, i7n_15, i7d_15, i7m_15, hap_i7n_g11_15, hap_i7n_g13_15, hap_i7n_g15_15, hap_i7n_g28_15, hap_i7d_g11_15, hap_i7d_g13_15, hap_i7d_g15_15, hap_i7d_g28_15, i8n_15, i8d_15, i8m_15, hap_i8n_g11_15, hap_i8n_g13_15, hap_i8n_g15_15, hap_i8n_g28_15, hap_i8d_g11_15, hap_i8d_g13_15, hap_i8d_g15_15, hap_i8d_g28_15, hO317, hN318, hap_hO317_g11, hap_hO317_g13, hap_hO317_g15, hap_hO317_g28⟩ := hVs 15 (by decide) (by decide)
          obtain ⟨A321, m322, c323, A324, m325, c326, hv16, i9n, i9d, i9m, hap_i9n_g11, hap_i9n_g13, hap_i9n_g15, hap_i9n_g28, hap_i9d_g11, hap_i9d_g13, hap_i9d_g15, hap_i9d_g28⟩ := hVs 16 (by decide) (by decide)
          have hv17 : vals 17 = _ := hVs 17 (by decide) (by decide)
          have hv18 : vals 18 = _ := hVs 18 (by decide) (by decide)
          rw [show (List.filterMap (fun i => Option.map (fun t => (t, vals i)) (dstAt _ i)) (List.range _)) = [(83, .agg #[.bool na, .slice Aan man can, .slice Aad mad cad]), (84, .agg #[.bool nb, .slice Abn mbn cbn, .slice Abd mbd cbd]), (85, .agg #[.bool nc, .slice Acn mcn ccn, .slice Acd mcd ccd]), (86, .slice A259 2 2), (87, .agg #[.bool (qneg (qb + qc)), .slice A265 m266 c267, .slice A268 m269 c270]), (88, .slice A272 2 2), (89, .agg #[.bool (qneg (qa * (qb + qc))), .slice A278 m279 c280, .slice A281 m282 c283]), (90, .agg #[.bool na, .slice Aan man can, .slice Aad mad cad]), (91, .agg #[.bool nb, .slice Abn mbn cbn, .slice Abd mbd cbd]), (92, .slice A287 2 2), (93, .agg #[.bool (qneg (qa * qb)), .slice A293 m294 c295, .slice A296 m297 c298]), (94, .agg #[.bool na, .slice Aan man can, .slice Aad mad cad]), (95, .agg #[.bool nc, .slice Acn mcn ccn, .slice Acd mcd ccd]), (96, .slice A302 2 2), (97, .agg #[.bool (qneg (qa * qc)), .slice A308 m309 c310, .slice A311 m312 c313]), (98, .slice A315 2 2), (99, .agg #[.bool (qneg ((qa * qb) + (qa * qc))), .slice A321 m322 c323, .slice A324 m325 c326]), (100, .bool true), (101, .bool false)] from by
            show [(83, vals 0), (84, vals 1), (85, vals 2), (86, vals 3), (87, vals 4), (88, vals 5), (89, vals 6), (90, vals 7), (91, vals 8), (92, vals 9), (93, vals 10), (94, vals 11), (95, vals 12), (96, vals 13), (97, vals 14), (98, vals 15), (99, vals 16), (100, vals 17), (101, vals 18)] = _
            rw [hv0, hv1, hv2, hv3, hv4, hv5, hv6, hv7, hv8, hv9, hv10, hv11, hv12, hv13, hv14, hv15, hv16, hv17, hv18]]
          refine W.condF rfl ?_
          refine W.skip ?_
          refine W.seq ?_
          refine W.drawT 32 [⟨[], [3], false⟩, ⟨[], [3], false⟩, ⟨[1], [], false⟩, ⟨[0, 2], [], false⟩, ⟨[3], [], false⟩, ⟨[4], [], false⟩, ⟨[5], [], true⟩, ⟨[6], [], true⟩, ⟨[7], [3], false⟩, ⟨[7], [4], false⟩, ⟨[7, 8, 9], [], false⟩, ⟨[7, 10], [], false⟩, ⟨[7], [4], false⟩, ⟨[7, 11, 12], [], false⟩, ⟨[7], [3], false⟩, ⟨[7, 14], [], false⟩, ⟨[7, 13, 15], [], false⟩, ⟨[7, 16], [], true⟩, ⟨[17], [], true⟩, ⟨[18], [3], false⟩, ⟨[18], [4], false⟩, ⟨[18, 19, 20], [], false⟩, ⟨[18, 21], [], false⟩, ⟨[18, 22], [], false⟩, ⟨[18, 23], [], true⟩, ⟨[24], [], true⟩, ⟨[25], [3], false⟩, ⟨[25], [4], false⟩, ⟨[25, 26, 27], [], false⟩, ⟨[25, 28], [], false⟩, ⟨[25, 29], [], false⟩, ⟨[25, 30], [], true⟩] [[(3, .pointer (some ⟨g11, 0, none⟩))], [(3, .pointer (some ⟨g11, 0, none⟩))], [], [], [], [], [], [], [(3, .pointer (some ⟨g11, 0, none⟩))], [(4, .pointer (some ⟨g13, 0, none⟩))], [], [], [(4, .pointer (some ⟨g13, 0, none⟩))], [], [(3, .pointer (some ⟨g11, 0, none⟩))], [], [], [], [], [(3, .pointer (some ⟨g11, 0, none⟩))], [(4, .pointer (some ⟨g13, 0, none⟩))], [], [], [], [], [], [(3, .pointer (some ⟨g11, 0, none⟩))], [(4, .pointer (some ⟨g13, 0, none⟩))], [], [], [], []] (fun iQ => [fun v wQ => v = .agg #[.bool na, .slice Aan man can, .slice Aad mad cad], fun v wQ => v = .agg #[.bool na, .slice Aan man can, .slice Aad mad cad], fun v wQ => ∃ A335 m336 c337 A338 m339 c340, v = .agg #[.bool (qneg (-(qa))), .slice A335 m336 c337, .slice A338 m339 c340] ∧ (Own w.heap.size wQ 43 1 A335 m336 c337 (us (digs (qnum (-(qa)))))) ∧ (Own w.heap.size wQ 43 1 A338 m339 c340 (us (digs (Rat.den (-(qa)))))) ∧ (m336 ≤ man ∧ m339 ≤ mad + 1) ∧ (∀ k, bl A335 = some k → k ≠ g11) ∧ (∀ k, bl A335 = some k → k ≠ g13) ∧ (∀ k, bl A335 = some k → k ≠ g15) ∧ (∀ k, bl A335 = some k → k ≠ g28) ∧ (∀ k, bl A338 = some k → k ≠ g11) ∧ (∀ k, bl A338 = some k → k ≠ g13) ∧ (∀ k, bl A338 = some k → k ≠ g15) ∧ (∀ k, bl A338 = some k → k ≠ g28), fun v wQ => ∃ A335_3 m336_3 c337_3 A338_3 m339_3 c340_3 A342, v = .slice A342 2 2 ∧ (Own w.heap.size wQ 43 1 A335_3 m336_3 c337_3 (us (digs (qnum (-(qa)))))) ∧ (Own w.heap.size wQ 43 1 A338_3 m339_3 c340_3 (us (digs (Rat.den (-(qa)))))) ∧ (m336_3 ≤ man ∧ m339_3 ≤ mad + 1) ∧ (∀ k, bl A335_3 = some k → k ≠ g11) ∧ (∀ k, bl A335_3 = some k → k ≠ g13) ∧ (∀ k, bl A335_3 = some k → k ≠ g15) ∧ (∀ k, bl A335_3 = some k → k ≠ g28) ∧ (∀ k, bl A338_3 = some k → k ≠ g11) ∧ (∀ k, bl A338_3 = some k → k ≠ g13) ∧ (∀ k, bl A338_3 = some k → k ≠ g15) ∧ (∀ k, bl A338_3 = some k → k ≠ g28) ∧ (Own w.heap.size wQ 31 3 A342 2 2 [.bool na, .slice Aan man can, .slice Aad mad cad, .bool (qneg (-(qa))), .slice A335_3 m336_3 c337_3, .slice A338_3 m339_3 c340_3]) ∧ (RatsR wQ.heap.size wQ [.bool na, .slice Aan man can, .slice Aad mad cad, .bool (qneg (-(qa))), .slice A335_3 m336_3 c337_3, .slice A338_3 m339_3 c340_3] [(na, xan, xad), ((qneg (-(qa))), digs (qnum (-(qa))), digs (Rat.den (-(qa))))]) ∧ (∀ k, bl A342 = some k → k ≠ g11) ∧ (∀ k, bl A342 = some k → k ≠ g13) ∧ (∀ k, bl A342 = some k → k ≠ g15) ∧ (∀ k, bl A342 = some k → k ≠ g28), fun v wQ => ∃ A348 m349 c350 A351 m352 c353, v = .agg #[.bool (qneg (qa + (-(qa)))), .slice A348 m349 c350, .slice A351 m352 c353] ∧ (Own w.heap.size wQ 43 1 A348 m349 c350 (us (digs (qnum (qa + (-(qa))))))) ∧ (Own w.heap.size wQ 43 1 A351 m352 c353 (us (digs (Rat.den (qa + (-(qa))))))) ∧ (m349 ≤ 405 ∧ m352 ≤ 405) ∧ (∀ k, bl A348 = some k → k ≠ g11) ∧ (∀ k, bl A348 = some k → k ≠ g13) ∧ (∀ k, bl A348 = some k → k ≠ g15) ∧ (∀ k, bl A348 = some k → k ≠ g28) ∧ (∀ k, bl A351 = some k → k ≠ g11) ∧ (∀ k, bl A351 = some k → k ≠ g13) ∧ (∀ k, bl A351 = some k → k ≠ g15) ∧ (∀ k, bl A351 = some k → k ≠ g28), fun v wQ => v = .int .i64 (sg (qa + (-(qa)))), fun v _ => v = .bool true, fun v wQ => v = .bool true, fun v wQ => v = .agg #[.bool na, .slice Aan man can, .slice Aad mad cad], fun v wQ => v = .agg #[.bool nb, .slice Abn mbn cbn, .slice Abd mbd cbd], fun v wQ => ∃ A361, v = .slice A361 2 2 ∧ (Own w.heap.size wQ 31 3 A361 2 2 [.bool na, .slice Aan man can, .slice Aad mad cad, .bool nb, .slice Abn mbn cbn, .slice Abd mbd cbd]) ∧ (RatsR wQ.heap.size wQ [.bool na, .slice Aan man can, .slice Aad mad cad, .bool nb, .slice Abn mbn cbn, .slice Abd mbd cbd] [(na, xan, xad), (nb, xbn, xbd)]) ∧ (∀ k, bl A361 = some k → k ≠ g11) ∧ (∀ k, bl A361 = some k → k ≠ g13) ∧ (∀ k, bl A361 = some k → k ≠ g15) ∧ (∀ k, bl A361 = some k → k ≠ g28), fun v wQ => ∃ A367 m368 c369 A370 m371 c372, v = .agg #[.bool (qneg (qa + qb)), .slice A367 m368 c369, .slice A370 m371 c372] ∧ (Own w.heap.size wQ 43 1 A367 m368 c369 (us (digs (qnum (qa + qb))))) ∧ (Own w.heap.size wQ 43 1 A370 m371 c372 (us (digs (Rat.den (qa + qb))))) ∧ (m368 ≤ 53 ∧ m371 ≤ 53) ∧ (∀ k, bl A367 = some k → k ≠ g11) ∧ (∀ k, bl A367 = some k → k ≠ g13) ∧ (∀ k, bl A367 = some k → k ≠ g15) ∧ (∀ k, bl A367 = some k → k ≠ g28) ∧ (∀ k, bl A370 = some k → k ≠ g11) ∧ (∀ k, bl A370 = some k → k ≠ g13) ∧ (∀ k, bl A370 = some k → k ≠ g15) ∧ (∀ k, bl A370 = some k → k ≠ g28), fun v wQ => v = .agg #[.bool nb, .slice Abn mbn cbn, .slice Abd mbd cbd], fun v wQ => ∃ A367_13 m368_13 c369_13 A370_13 m371_13 c372_13 A376 m377 c378 A379 m380 c381, v = .agg #[.bool (qneg ((qa + qb) - qb)), .slice A376 m377 c378, .slice A379 m380 c381] ∧ (Own w.heap.size wQ 43 1 A367_13 m368_13 c369_13 (us (digs (qnum (qa + qb))))) ∧ (Own w.heap.size wQ 43 1 A370_13 m371_13 c372_13 (us (digs (Rat.den (qa + qb))))) ∧ (m368_13 ≤ 53 ∧ m371_13 ≤ 53) ∧ (∀ k, bl A367_13 = some k → k ≠ g11) ∧ (∀ k, bl A367_13 = some k → k ≠ g13) ∧ (∀ k, bl A367_13 = some k → k ≠ g15) ∧ (∀ k, bl A367_13 = some k → k ≠ g28) ∧ (∀ k, bl A370_13 = some k → k ≠ g11) ∧ (∀ k, bl A370_13 = some k → k ≠ g13) ∧ (∀ k, bl A370_13 = some k → k ≠ g15) ∧ (∀ k, bl A370_13 = some k → k ≠ g28) ∧ (Own w.heap.size wQ 43 1 A376 m377 c378 (us (digs (qnum ((qa + qb) - qb))))) ∧ (Own w.heap.size wQ 43 1 A379 m380 c381 (us (digs (Rat.den ((qa + qb) - qb))))) ∧ (m377 ≤ max (m368_13 + mbd) (mbn + m371_13) + 1 ∧ m380 ≤ m371_13 + mbd + 1) ∧ (∀ k, bl A376 = some k → k ≠ g11) ∧ (∀ k, bl A376 = some k → k ≠ g13) ∧ (∀ k, bl A376 = some k → k ≠ g15) ∧ (∀ k, bl A376 = some k → k ≠ g28) ∧ (∀ k, bl A379 = some k → k ≠ g11) ∧ (∀ k, bl A379 = some k → k ≠ g13) ∧ (∀ k, bl A379 = some k → k ≠ g15) ∧ (∀ k, bl A379 = some k → k ≠ g28), fun v wQ => v = .agg #[.bool na, .slice Aan man can, .slice Aad mad cad], fun v wQ => ∃ A385 m386 c387 A388 m389 c390, v = .agg #[.bool (qneg (qa)), .slice A385 m386 c387, .slice A388 m389 c390] ∧ (Own w.heap.size wQ 43 1 A385 m386 c387 (us (digs (qnum (qa))))) ∧ (Own w.heap.size wQ 43 1 A388 m389 c390 (us (digs (Rat.den (qa))))) ∧ (m386 ≤ man ∧ m389 ≤ mad + 1) ∧ (∀ k, bl A385 = some k → k ≠ g11) ∧ (∀ k, bl A385 = some k → k ≠ g13) ∧ (∀ k, bl A385 = some k → k ≠ g15) ∧ (∀ k, bl A385 = some k → k ≠ g28) ∧ (∀ k, bl A388 = some k → k ≠ g11) ∧ (∀ k, bl A388 = some k → k ≠ g13) ∧ (∀ k, bl A388 = some k → k ≠ g15) ∧ (∀ k, bl A388 = some k → k ≠ g28), fun v wQ => v = .bool true, fun v wQ => v = .bool true, fun v wQ => v = .bool true, fun v wQ => v = .agg #[.bool na, .slice Aan man can, .slice Aad mad cad], fun v wQ => v = .agg #[.bool nb, .slice Abn mbn cbn, .slice Abd mbd cbd], fun v wQ => ∃ A398, v = .slice A398 2 2 ∧ (Own w.heap.size wQ 31 3 A398 2 2 [.bool na, .slice Aan man can, .slice Aad mad cad, .bool nb, .slice Abn mbn cbn, .slice Abd mbd cbd]) ∧ (RatsR wQ.heap.size wQ [.bool na, .slice Aan man can, .slice Aad mad cad, .bool nb, .slice Abn mbn cbn, .slice Abd mbd cbd] [(na, xan, xad), (nb, xbn, xbd)]) ∧ (∀ k, bl A398 = some k → k ≠ g11) ∧ (∀ k, bl A398 = some k → k ≠ g13) ∧ (∀ k, bl A398 = some k → k ≠ g15) ∧ (∀ k, bl A398 = some k → k ≠ g28), fun v wQ => ∃ A404 m405 c406 A407 m408 c409, v = .agg #[.bool (qneg (qa + qb)), .slice A404 m405 c406, .slice A407 m408 c409] ∧ (Own w.heap.size wQ 43 1 A404 m405 c406 (us (digs (qnum (qa + qb))))) ∧ (Own w.heap.size wQ 43 1 A407 m408 c409 (us (digs (Rat.den (qa + qb))))) ∧ (m405 ≤ 53 ∧ m408 ≤ 53) ∧ (∀ k, bl A404 = some k → k ≠ g11) ∧ (∀ k, bl A404 = some k → k ≠ g13) ∧ (∀ k, bl A404 = some k → k ≠ g15) ∧ (∀ k, bl A404 = some k → k ≠ g28) ∧ (∀ k, bl A407 = some k → k ≠ g11) ∧ (∀ k, bl A407 = some k → k ≠ g13) ∧ (∀ k, bl A407 = some k → k ≠ g15) ∧ (∀ k, bl A407 = some k → k ≠ g28), fun v wQ => v = .bool true, fun v wQ => v = .bool true, fun v wQ => v = .bool true, fun v wQ => v = .agg #[.bool na, .slice Aan man can, .slice Aad mad cad], fun v wQ => v = .agg #[.bool nb, .slice Abn mbn cbn, .slice Abd mbd cbd], fun v wQ => ∃ A417, v = .slice A417 2 2 ∧ (Own w.heap.size wQ 31 3 A417 2 2 [.bool na, .slice Aan man can, .slice Aad mad cad, .bool nb, .slice Abn mbn cbn, .slice Abd mbd cbd]) ∧ (RatsR wQ.heap.size wQ [.bool na, .slice Aan man can, .slice Aad mad cad, .bool nb, .slice Abn mbn cbn, .slice Abd mbd cbd] [(na, xan, xad), (nb, xbn, xbd)]) ∧ (∀ k, bl A417 = some k → k ≠ g11) ∧ (∀ k, bl A417 = some k → k ≠ g13) ∧ (∀ k, bl A417 = some k → k ≠ g15) ∧ (∀ k, bl A417 = some k → k ≠ g28), fun v wQ => ∃ A423 m424 c425 A426 m427 c428, v = .agg #[.bool (qneg (qa * qb)), .slice A423 m424 c425, .slice A426 m427 c428] ∧ (Own w.heap.size wQ 43 1 A423 m424 c425 (us (digs (qnum (qa * qb))))) ∧ (Own w.heap.size wQ 43 1 A426 m427 c428 (us (digs (Rat.den (qa * qb))))) ∧ (m424 ≤ 53 ∧ m427 ≤ 53) ∧ (∀ k, bl A423 = some k → k ≠ g11) ∧ (∀ k, bl A423 = some k → k ≠ g13) ∧ (∀ k, bl A423 = some k → k ≠ g15) ∧ (∀ k, bl A423 = some k → k ≠ g28) ∧ (∀ k, bl A426 = some k → k ≠ g11) ∧ (∀ k, bl A426 = some k → k ≠ g13) ∧ (∀ k, bl A426 = some k → k ≠ g15) ∧ (∀ k, bl A426 = some k → k ≠ g28), fun v wQ => v = .bool true, fun v wQ => v = .bool true].getD iQ (fun _ _ => True)) Try.mixed (by kernel_rfl) ?_ ?_ ?_
          · refine Vs_monoT _ ?_
            intro VQ hVQ vQ wQ1 wQ2 hQ1 hQ2
            simp only [List.mem_cons, List.not_mem_nil, or_false] at hVQ
            rcases hVQ with rfl | rfl | rfl | rfl | rfl | rfl | rfl | rfl | rfl | rfl | rfl | rfl | rfl | rfl | rfl | rfl | rfl | rfl | rfl | rfl | rfl | rfl | rfl | rfl | rfl | rfl | rfl | rfl | rfl | rfl | rfl | rfl
            · exact hQ1
            · exact hQ1
            · obtain ⟨A335, m336, c337, A338, m339, c340, hQe, j1n, j1d, j1m, hap_j1n_g11, hap_j1n_g13, hap_j1n_g15, hap_j1n_g28, hap_j1d_g11, hap_j1d_g13, hap_j1d_g15, hap_j1d_g28⟩ := hQ1
              exact ⟨A335, m336, c337, A338, m339, c340, hQe, j1n.ext hQ2, j1d.ext hQ2, j1m, hap_j1n_g11, hap_j1n_g13, hap_j1n_g15, hap_j1n_g28, hap_j1d_g11, hap_j1d_g13, hap_j1d_g15, hap_j1d_g28⟩
            · obtain ⟨A335_3, m336_3, c337_3, A338_3, m339_3, c340_3, A342, hQe, j1n_3, j1d_3, j1m_3, hap_j1n_g11_3, hap_j1n_g13_3, hap_j1n_g15_3, hap_j1n_g28_3, hap_j1d_g11_3, hap_j1d_g13_3, hap_j1d_g15_3, hap_j1d_g28_3, hO344, hN345, hap_hO344_g11, hap_hO344_g13, hap_hO344_g15, hap_hO344_g28⟩ := hQ1
              exact ⟨A335_3, m336_3, c337_3, A338_3, m339_3, c340_3, A342, hQe, j1n_3.ext hQ2, j1d_3.ext hQ2, j1m_3, hap_j1n_g11_3, hap_j1n_g13_3, hap_j1n_g15_3, hap_j1n_g28_3, hap_j1d_g11_3, hap_j1d_g13_3, hap_j1d_g15_3, hap_j1d_g28_3, hO344.ext hQ2, (hN345.ext hQ2).norm, hap_hO344_g11, hap_hO344_g13, hap_hO344_g15, hap_hO344_g28⟩
            · obtain ⟨A348, m349, c350, A351, m352, c353, hQe, j2n, j2d, j2m, hap_j2n_g11, hap_j2n_g13, hap_j2n_g15, hap_j2n_g28, hap_j2d_g11, hap_j2d_g13, hap_j2d_g15, hap_j2d_g28⟩ := hQ1
              exact ⟨A348, m349, c350, A351, m352, c353, hQe, j2n.ext hQ2, j2d.ext hQ2, j2m, hap_j2n_g11, hap_j2n_g13, hap_j2n_g15, hap_j2n_g28, hap_j2d_g11, hap_j2d_g13, hap_j2d_g15, hap_j2d_g28⟩
            · exact hQ1
            · exact hQ1
            · exact hQ1
            · exact hQ1
            · exact hQ1
            · obtain ⟨A361, hQe, hO363, hN364, hap_hO363_g11, hap_hO363_g13, hap_hO363_g15, hap_hO363_g28⟩ := hQ1
              exact ⟨A361, hQe, hO363.ext hQ2, (hN364.ext hQ2).norm, hap_hO363_g11, hap_hO363_g13, hap_hO363_g15, hap_hO363_g28⟩
            · obtain ⟨A367, m368, c369, A370, m371, c372, hQe, j3n, j3d, j3m, hap_j3n_g11, hap_j3n_g13, hap_j3n_g15, hap_j3n_g28, hap_j3d_g11, hap_j3d_g13, hap_j3d_g15, hap_j3d_g28⟩ := hQ1
              exact ⟨A367, m368, c369, A370, m371, c372, hQe, j3n.ext hQ2, j3d.ext hQ2, j3m, hap_j3n_g11, hap_j3n_g13, hap_j3n_g15, hap_j3n_g28, hap_j3d_g11, hap_j3d_g13, hap_j3d_g15, hap_j3d_g28⟩
            · exact hQ1
            · obtain ⟨A367_13, m368_13, c369_13, A370_13, m371_13, c372_13, A376, m377, c378, A379, m380, c381, hQe, j3n_13, j3d_13, j3m_13, hap_j3n_g11_13, hap_j3n_g13_13, hap_j3n_g15_13, hap_j3n_g28_13, hap_j3d_g11_13, hap_j3d_g13_13, hap_j3d_g15_13, hap_j3d_g28_13, j4n, j4d, j4m, hap_j4n_g11, hap_j4n_g13, hap_j4n_g15, hap_j4n_g28, hap_j4d_g11, hap_j4d_g13, hap_j4d_g15, hap_j4d_g28⟩ := hQ1
              exact ⟨A367_13, m368_13, c369_13, A370_13, m371_13, c372_13, A376, m377, c378, A379, m380, c381, hQe, j3n_13.ext hQ2, j3d_13.ext hQ2, j3m_13, hap_j3n_g11_13, hap_j3n_g13_13, hap_j3n_g15_13, hap_j3n_g28_13, hap_j3d_g11_13, hap_j3d_g13_13, hap_j3d_g15_13, hap_j3d_g28_13, j4n.ext hQ2, j4d.ext hQ2, j4m, hap_j4n_g11, hap_j4n_g13, hap_j4n_g15, hap_j4n_g28, hap_j4d_g11, hap_j4d_g13, hap_j4d_g15, hap_j4d_g28⟩
            · exact hQ1
            · obtain ⟨A385, m386, c387, A388, m389, c390, hQe, j5n, j5d, j5m, hap_j5n_g11, hap_j5n_g13, hap_j5n_g15, hap_j5n_g28, hap_j5d_g11, hap_j5d_g13, hap_j5d_g15, hap_j5d_g28⟩ := hQ1
              exact ⟨A385, m386, c387, A388, m389, c390, hQe, j5n.ext hQ2, j5d.ext hQ2, j5m, hap_j5n_g11, hap_j5n_g13, hap_j5n_g15, hap_j5n_g28, hap_j5d_g11, hap_j5d_g13, hap_j5d_g15, hap_j5d_g28⟩
            · exact hQ1
            · exact hQ1
            · exact hQ1
            · exact hQ1
            · exact hQ1
            · obtain ⟨A398, hQe, hO400, hN401, hap_hO400_g11, hap_hO400_g13, hap_hO400_g15, hap_hO400_g28⟩ := hQ1
              exact ⟨A398, hQe, hO400.ext hQ2, (hN401.ext hQ2).norm, hap_hO400_g11, hap_hO400_g13, hap_hO400_g15, hap_hO400_g28⟩
            · obtain ⟨A404, m405, c406, A407, m408, c409, hQe, j6n, j6d, j6m, hap_j6n_g11, hap_j6n_g13, hap_j6n_g15, hap_j6n_g28, hap_j6d_g11, hap_j6d_g13, hap_j6d_g15, hap_j6d_g28⟩ := hQ1
              exact ⟨A404, m405, c406, A407, m408, c409, hQe, j6n.ext hQ2, j6d.ext hQ2, j6m, hap_j6n_g11, hap_j6n_g13, hap_j6n_g15, hap_j6n_g28, hap_j6d_g11, hap_j6d_g13, hap_j6d_g15, hap_j6d_g28⟩
            · exact hQ1
            · exact hQ1
            · exact hQ1
            · exact hQ1
            · exact hQ1
            · obtain ⟨A417, hQe, hO419, hN420, hap_hO419_g11, hap_hO419_g13, hap_hO419_g15, hap_hO419_g28⟩ := hQ1
              exact ⟨A417, hQe, hO419.ext hQ2, (hN420.ext hQ2).norm, hap_hO419_g11, hap_hO419_g13, hap_hO419_g15, hap_hO419_g28⟩
            · obtain ⟨A423, m424, c425, A426, m427, c428, hQe, j7n, j7d, j7m, hap_j7n_g11, hap_j7n_g13, hap_j7n_g15, hap_j7n_g28, hap_j7d_g11, hap_j7d_g13, hap_j7d_g15, hap_j7d_g28⟩ := hQ1
              exact ⟨A423, m424, c425, A426, m427, c428, hQe, j7n.ext hQ2, j7d.ext hQ2, j7m, hap_j7n_g11, hap_j7n_g13, hap_j7n_g15, hap_j7n_g28, hap_j7d_g11, hap_j7d_g13, hap_j7d_g15, hap_j7d_g28⟩
            · exact hQ1
            · exact hQ1
          · refine ⟨⟨rfl, ⟨rfl, trivial⟩, ?_⟩, ⟨rfl, ⟨rfl, trivial⟩, ?_⟩, ⟨rfl, trivial, ?_⟩, ⟨rfl, trivial, ?_⟩, ⟨rfl, trivial, ?_⟩, ⟨rfl, trivial, ?_⟩, ⟨rfl, trivial, ?_⟩, ⟨rfl, trivial, ?_⟩, ⟨rfl, ⟨rfl, trivial⟩, ?_⟩, ⟨rfl, ⟨rfl, trivial⟩, ?_⟩, ⟨rfl, trivial, ?_⟩, ⟨rfl, trivial, ?_⟩, ⟨rfl, ⟨rfl, trivial⟩, ?_⟩, ⟨rfl, trivial, ?_⟩, ⟨rfl, ⟨rfl, trivial⟩, ?_⟩, ⟨rfl, trivial, ?_⟩, ⟨rfl, trivial, ?_⟩, ⟨rfl, trivial, ?_⟩, ⟨rfl, trivial, ?_⟩, ⟨rfl, ⟨rfl, trivial⟩, ?_⟩, ⟨rfl, ⟨rfl, trivial⟩, ?_⟩, ⟨rfl, trivial, ?_⟩, ⟨rfl, trivial, ?_⟩, ⟨rfl, trivial, ?_⟩, ⟨rfl, trivial, ?_⟩, ⟨rfl, trivial, ?_⟩, ⟨rfl, ⟨rfl, trivial⟩, ?_⟩, ⟨rfl, ⟨rfl, trivial⟩, ?_⟩, ⟨rfl, trivial, ?_⟩, ⟨rfl, trivial, ?_⟩, ⟨rfl, trivial, ?_⟩, ⟨rfl, trivial, ?_⟩, trivial⟩
            · intro w331 hE
              have hE := hE rfl
              have hB := ext_trans hB hE
              have hVg11 := hVg11.ext hE
              intro R
              refine WL.loadV (cs := [.bool na, .slice Aan man can, .slice Aad mad cad]) Try.el31 Try.agg31 rfl rfl hVg11.vcells rfl ?_
              exact WL.done ⟨_, rfl, ext_refl _, rfl⟩
            · intro w332 hE
              have hE := hE rfl
              have hB := ext_trans hB hE
              have hVg11 := hVg11.ext hE
              intro R
              refine WL.loadV (cs := [.bool na, .slice Aan man can, .slice Aad mad cad]) Try.el31 Try.agg31 rfl rfl hVg11.vcells rfl ?_
              exact WL.done ⟨_, rfl, ext_refl _, rfl⟩
            · intro w333 hE
              have hE := hE rfl
              have hB := ext_trans hB hE
              have han := han0.ext hB
              have had := had0.ext hB
              have hVg11 := hVg11.ext hE
              have hVg13 := hVg13.ext hE
              have hVg15 := hVg15.ext hE
              have hVg28 := hVg28.ext hE
              rintro _ rfl
              intro R
              refine WL.call Try.func25 rfl Try.nm25 rfl rfl (qNeg_c han had hLan hLad qa hqa (by omega)) ?_
              rintro _ w334 ⟨A335, m336, c337, A338, m339, c340, rfl, hGw334, j1n, j1d, j1m⟩
              have hap_j1n_g11 := ap_new j1n (hVg11.bl_ge _ rfl).2
              have hap_j1n_g13 := ap_new j1n (hVg13.bl_ge _ rfl).2
              have hap_j1n_g15 := ap_new j1n (hVg15.bl_ge _ rfl).2
              have hap_j1n_g28 := ap_new j1n (hVg28.bl_ge _ rfl).2
              have hap_j1d_g11 := ap_new j1d (hVg11.bl_ge _ rfl).2
              have hap_j1d_g13 := ap_new j1d (hVg13.bl_ge _ rfl).2
              have hap_j1d_g15 := ap_new j1d (hVg15.bl_ge _ rfl).2
              have hap_j1d_g28 := ap_new j1d (hVg28.bl_ge _ rfl).2
              have j1n := j1n.low (b' := w.heap.size) hB.size
              have j1d := j1d.low (b' := w.heap.size) hB.size
              have hB := ext_trans hB hGw334
              have j1n_l := j1n.rd.ulen
              have j1d_l := j1d.rd.ulen
              exact WL.done ⟨_, rfl, hGw334, ⟨A335, m336, c337, A338, m339, c340, rfl, j1n, j1d, j1m, hap_j1n_g11, hap_j1n_g13, hap_j1n_g15, hap_j1n_g28, hap_j1d_g11, hap_j1d_g13, hap_j1d_g15, hap_j1d_g28⟩⟩
            · intro w341 hE
              have hE := hE rfl
              have hB := ext_trans hB hE
              have han := han0.ext hB
              have had := had0.ext hB
              have hVg11 := hVg11.ext hE
              have hVg13 := hVg13.ext hE
              have hVg15 := hVg15.ext hE
              have hVg28 := hVg28.ext hE
              rintro _ rfl
              rintro _ ⟨A335, m336, c337, A338, m339, c340, rfl, j1n, j1d, j1m, hap_j1n_g11, hap_j1n_g13, hap_j1n_g15, hap_j1n_g28, hap_j1d_g11, hap_j1d_g13, hap_j1d_g15, hap_j1d_g28⟩
              intro R
              refine WL.lit (b := w341.heap.size) (cells := [.bool na, .slice Aan man can, .slice Aad mad cad, .bool (qneg (-(qa))), .slice A335 m336 c337, .slice A338 m339 c340]) Try.underlying44 Try.el31 (by decide) ⟨_, rfl, by kernel_rfl⟩ rfl (Nat.le_refl _) rfl ?_
              rintro A342 w343 - hO344 hGw343
              have hap_hO344_g11 := ap_new hO344 (hVg11.bl_ge _ rfl).2
              have hap_hO344_g13 := ap_new hO344 (hVg13.bl_ge _ rfl).2
              have hap_hO344_g15 := ap_new hO344 (hVg15.bl_ge _ rfl).2
              have hap_hO344_g28 := ap_new hO344 (hVg28.bl_ge _ rfl).2
              have hO344 := hO344.low (b' := w.heap.size) hB.size
              have hB := ext_trans hB hGw343
              have han := han0.ext hB
              have had := had0.ext hB
              have j1n := j1n.ext hGw343
              have j1d := j1d.ext hGw343
              have hN345 : RatsR w343.heap.size w343 [.bool na, .slice Aan man can, .slice Aad mad cad, .bool (qneg (-(qa))), .slice A335 m336 c337, .slice A338 m339 c340] [(na, xan, xad), ((qneg (-(qa))), digs (qnum (-(qa))), digs (Rat.den (-(qa))))] := (RatsR.cons han.norm had.norm (RatsR.cons j1n.rd.norm j1d.rd.norm (RatsR.nil _ _)))
              exact WL.done ⟨_, rfl, hGw343, ⟨A335, m336, c337, A338, m339, c340, A342, rfl, j1n, j1d, j1m, hap_j1n_g11, hap_j1n_g13, hap_j1n_g15, hap_j1n_g28, hap_j1d_g11, hap_j1d_g13, hap_j1d_g15, hap_j1d_g28, hO344, hN345, hap_hO344_g11, hap_hO344_g13, hap_hO344_g15, hap_hO344_g28⟩⟩
            · intro w346 hE
              have hE := hE rfl
              have hB := ext_trans hB hE
              have hVg11 := hVg11.ext hE
              have hVg13 := hVg13.ext hE
              have hVg15 := hVg15.ext hE
              have hVg28 := hVg28.ext hE
              rintro _ ⟨A335_3, m336_3, c337_3, A338_3, m339_3, c340_3, A342, rfl, j1n_3, j1d_3, j1m_3, hap_j1n_g11_3, hap_j1n_g13_3, hap_j1n_g15_3, hap_j1n_g28_3, hap_j1d_g11_3, hap_j1d_g13_3, hap_j1d_g15_3, hap_j1d_g28_3, hO344, hN345, hap_hO344_g11, hap_hO344_g13, hap_hO344_g15, hap_hO344_g28⟩
              intro R
              refine WL.call Try.func32 rfl Try.nm32 rfl rfl (qAdd2_c hO344.rd hN345 hLan hLad (digs_lim _) (digs_lim _) qa hqa (-(qa)) (val_canon _) 100 (by omega) (by omega)) ?_
              rintro _ w347 ⟨A348, m349, c350, A351, m352, c353, rfl, hGw347, j2n, j2d, j2m⟩
              have hap_j2n_g11 := ap_new j2n (hVg11.bl_ge _ rfl).2
              have hap_j2n_g13 := ap_new j2n (hVg13.bl_ge _ rfl).2
              have hap_j2n_g15 := ap_new j2n (hVg15.bl_ge _ rfl).2
              have hap_j2n_g28 := ap_new j2n (hVg28.bl_ge _ rfl).2
              have hap_j2d_g11 := ap_new j2d (hVg11.bl_ge _ rfl).2
              have hap_j2d_g13 := ap_new j2d (hVg13.bl_ge _ rfl).2
              have hap_j2d_g15 := ap_new j2d (hVg15.bl_ge _ rfl).2
              have hap_j2d_g28 := ap_new j2d (hVg28.bl_ge _ rfl).2
              have j2n := j2n.low (b' := w.heap.size) hB.size
              have j2d := j2d.low (b' := w.heap.size) hB.size
              have hB := ext_trans hB hGw347
              have j2n_l := j2n.rd.ulen
              have j2d_l := j2d.rd.ulen
              exact WL.done ⟨_, rfl, hGw347, ⟨A348, m349, c350, A351, m352, c353, rfl, j2n, j2d, j2m, hap_j2n_g11, hap_j2n_g13, hap_j2n_g15, hap_j2n_g28, hap_j2d_g11, hap_j2d_g13, hap_j2d_g15, hap_j2d_g28⟩⟩
            · intro w354 hE
              have hE := hE rfl
              have hB := ext_trans hB hE
              rintro _ ⟨A348, m349, c350, A351, m352, c353, rfl, j2n, j2d, j2m, hap_j2n_g11, hap_j2n_g13, hap_j2n_g15, hap_j2n_g28, hap_j2d_g11, hap_j2d_g13, hap_j2d_g15, hap_j2d_g28⟩
              intro R
              refine WL.call Try.func23 rfl Try.nm23 rfl rfl (qSign_c j2n.rd j2d.rd (digs_lim _) (digs_lim _) (qa + (-(qa))) (val_canon _) (by omega)) ?_
              rintro _ w355 ⟨rfl, hGw355⟩
              have hB := ext_trans hB hGw355
              exact WL.done ⟨_, rfl, hGw355, rfl⟩
            · intro w356 hE
              rintro _ rfl
              intro R
              refine WL.eqlD rfl rfl rfl ?_
              exact WL.done ⟨_, rfl, rfl, (dec_t (sg_zero.2 (by grind)))⟩
            · intro w357 hE
              rintro _ rfl
              intro R
              refine WL.move rfl rfl ?_
              exact WL.done ⟨_, rfl, rfl, rfl⟩
            · intro w358 hE
              have hE := hE rfl
              have hB := ext_trans hB hE
              have hVg11 := hVg11.ext hE
              rintro _ rfl
              intro R
              refine WL.take rfl ?_
              refine WL.loadV (cs := [.bool na, .slice Aan man can, .slice Aad mad cad]) Try.el31 Try.agg31 rfl rfl hVg11.vcells rfl ?_
              exact WL.done ⟨_, rfl, ext_refl _, rfl⟩
            · intro w359 hE
              have hE := hE rfl
              have hB := ext_trans hB hE
              have hVg13 := hVg13.ext hE
              rintro _ rfl
              intro R
              refine WL.take rfl ?_
              refine WL.loadV (cs := [.bool nb, .slice Abn mbn cbn, .slice Abd mbd cbd]) Try.el31 Try.agg31 rfl rfl hVg13.vcells rfl ?_
              exact WL.done ⟨_, rfl, ext_refl _, rfl⟩
            · intro w360 hE
              have hE := hE rfl
              have hB := ext_trans hB hE
              have han := han0.ext hB
              have had := had0.ext hB
              have hbn := hbn0.ext hB
              have hbd := hbd0.ext hB
              have hVg11 := hVg11.ext hE
              have hVg13 := hVg13.ext hE
              have hVg15 := hVg15.ext hE
              have hVg28 := hVg28.ext hE
              rintro _ rfl
              rintro _ rfl
              rintro _ rfl
              intro R
              refine WL.take rfl ?_
              refine WL.lit (b := w360.heap.size) (cells := [.bool na, .slice Aan man can, .slice Aad mad cad, .bool nb, .slice Abn mbn cbn, .slice Abd mbd cbd]) Try.underlying44 Try.el31 (by decide) ⟨_, rfl, by kernel_rfl⟩ rfl (Nat.le_refl _) rfl ?_
              rintro A361 w362 - hO363 hGw362
              have hap_hO363_g11 := ap_new hO363 (hVg11.bl_ge _ rfl).2
              have hap_hO363_g13 := ap_new hO363 (hVg13.bl_ge _ rfl).2
              have hap_hO363_g15 := ap_new hO363 (hVg15.bl_ge _ rfl).2
              have hap_hO363_g28 := ap_new hO363 (hVg28.bl_ge _ rfl).2
              have hO363 := hO363.low (b' := w.heap.size) hB.size
              have hB := ext_trans hB hGw362
              have han := han0.ext hB
              have had := had0.ext hB
              have hbn := hbn0.ext hB
              have hbd := hbd0.ext hB
              have hN364 : RatsR w362.heap.size w362 [.bool na, .slice Aan man can, .slice Aad mad cad, .bool nb, .slice Abn mbn cbn, .slice Abd mbd cbd] [(na, xan, xad), (nb, xbn, xbd)] := (RatsR.cons han.norm had.norm (RatsR.cons hbn.norm hbd.norm (RatsR.nil _ _)))
              exact WL.done ⟨_, rfl, hGw362, ⟨A361, rfl, hO363, hN364, hap_hO363_g11, hap_hO363_g13, hap_hO363_g15, hap_hO363_g28⟩⟩
            · intro w365 hE
              have hE := hE rfl
              have hB := ext_trans hB hE
              have hVg11 := hVg11.ext hE
              have hVg13 := hVg13.ext hE
              have hVg15 := hVg15.ext hE
              have hVg28 := hVg28.ext hE
              rintro _ rfl
              rintro _ ⟨A361, rfl, hO363, hN364, hap_hO363_g11, hap_hO363_g13, hap_hO363_g15, hap_hO363_g28⟩
              intro R
              refine WL.take rfl ?_
              refine WL.call Try.func32 rfl Try.nm32 rfl rfl (qAdd2_c hO363.rd hN364 hLan hLad hLbn hLbd qa hqa qb hqb 12 (by omega) (by omega)) ?_
              rintro _ w366 ⟨A367, m368, c369, A370, m371, c372, rfl, hGw366, j3n, j3d, j3m⟩
              have hap_j3n_g11 := ap_new j3n (hVg11.bl_ge _ rfl).2
              have hap_j3n_g13 := ap_new j3n (hVg13.bl_ge _ rfl).2
              have hap_j3n_g15 := ap_new j3n (hVg15.bl_ge _ rfl).2
              have hap_j3n_g28 := ap_new j3n (hVg28.bl_ge _ rfl).2
              have hap_j3d_g11 := ap_new j3d (hVg11.bl_ge _ rfl).2
              have hap_j3d_g13 := ap_new j3d (hVg13.bl_ge _ rfl).2
              have hap_j3d_g15 := ap_new j3d (hVg15.bl_ge _ rfl).2
              have hap_j3d_g28 := ap_new j3d (hVg28.bl_ge _ rfl).2
              have j3n := j3n.low (b' := w.heap.size) hB.size
              have j3d := j3d.low (b' := w.heap.size) hB.size
              have hB := ext_trans hB hGw366
              have j3n_l := j3n.rd.ulen
              have j3d_l := j3d.rd.ulen
              exact WL.done ⟨_, rfl, hGw366, ⟨A367, m368, c369, A370, m371, c372, rfl, j3n, j3d, j3m, hap_j3n_g11, hap_j3n_g13, hap_j3n_g15, hap_j3n_g28, hap_j3d_g11, hap_j3d_g13, hap_j3d_g15, hap_j3d_g28⟩⟩
            · intro w373 hE
              have hE := hE rfl
              have hB := ext_trans hB hE
              have hVg13 := hVg13.ext hE
              rintro _ rfl
              intro R
              refine WL.take rfl ?_
              refine WL.loadV (cs := [.bool nb, .slice Abn mbn cbn, .slice Abd mbd cbd]) Try.el31 Try.agg31 rfl rfl hVg13.vcells rfl ?_
              exact WL.done ⟨_, rfl, ext_refl _, rfl⟩
            · intro w374 hE
              have hE := hE rfl
              have hB := ext_trans hB hE
              have hbn := hbn0.ext hB
              have hbd := hbd0.ext hB
              have hVg11 := hVg11.ext hE
              have hVg13 := hVg13.ext hE
              have hVg15 := hVg15.ext hE
              have hVg28 := hVg28.ext hE
              rintro _ rfl
              rintro _ ⟨A367, m368, c369, A370, m371, c372, rfl, j3n, j3d, j3m, hap_j3n_g11, hap_j3n_g13, hap_j3n_g15, hap_j3n_g28, hap_j3d_g11, hap_j3d_g13, hap_j3d_g15, hap_j3d_g28⟩
              rintro _ rfl
              intro R
              refine WL.take rfl ?_
              refine WL.call Try.func37 rfl Try.nm37 rfl rfl (qSub_c j3n.rd j3d.rd hbn hbd (digs_lim _) (digs_lim _) (qa + qb) (val_canon _) hLbn hLbd qb hqb (by omega) (by omega)) ?_
              rintro _ w375 ⟨A376, m377, c378, A379, m380, c381, rfl, hGw375, j4n, j4d, j4m⟩
              have hap_j4n_g11 := ap_new j4n (hVg11.bl_ge _ rfl).2
              have hap_j4n_g13 := ap_new j4n (hVg13.bl_ge _ rfl).2
              have hap_j4n_g15 := ap_new j4n (hVg15.bl_ge _ rfl).2
              have hap_j4n_g28 := ap_new j4n (hVg28.bl_ge _ rfl).2
              have hap_j4d_g11 := ap_new j4d (hVg11.bl_ge _ rfl).2
              have hap_j4d_g13 := ap_new j4d (hVg13.bl_ge _ rfl).2
              have hap_j4d_g15 := ap_new j4d (hVg15.bl_ge _ rfl).2
              have hap_j4d_g28 := ap_new j4d (hVg28.bl_ge _ rfl).2
              have j4n := j4n.low (b' := w.heap.size) hB.size
              have j4d := j4d.low (b' := w.heap.size) hB.size
              have hB := ext_trans hB hGw375
              have j3n := j3n.ext hGw375
              have j3d := j3d.ext hGw375
              have j4n_l := j4n.rd.ulen
              have j4d_l := j4d.rd.ulen
              exact WL.done ⟨_, rfl, hGw375, ⟨A367, m368, c369, A370, m371, c372, A376, m377, c378, A379, m380, c381, rfl, j3n, j3d, j3m, hap_j3n_g11, hap_j3n_g13, hap_j3n_g15, hap_j3n_g28, hap_j3d_g11, hap_j3d_g13, hap_j3d_g15, hap_j3d_g28, j4n, j4d, j4m, hap_j4n_g11, hap_j4n_g13, hap_j4n_g15, hap_j4n_g28, hap_j4d_g11, hap_j4d_g13, hap_j4d_g15, hap_j4d_g28⟩⟩
            · intro w382 hE
              have hE := hE rfl
              have hB := ext_trans hB hE
              have hVg11 := hVg11.ext hE
              rintro _ rfl
              intro R
              refine WL.take rfl ?_
              refine WL.loadV (cs := [.bool na, .slice Aan man can, .slice Aad mad cad]) Try.el31 Try.agg31 rfl rfl hVg11.vcells rfl ?_
              exact WL.done ⟨_, rfl, ext_refl _, rfl⟩
            · intro w383 hE
              have hE := hE rfl
              have hB := ext_trans hB hE
              have han := han0.ext hB
              have had := had0.ext hB
              have hVg11 := hVg11.ext hE
              have hVg13 := hVg13.ext hE
              have hVg15 := hVg15.ext hE
              have hVg28 := hVg28.ext hE
              rintro _ rfl
              rintro _ rfl
              intro R
              refine WL.take rfl ?_
              refine WL.call Try.func19 rfl Try.nm19 rfl rfl (qTrim_c han had hLan hLad qa hqa (by omega)) ?_
              rintro _ w384 ⟨A385, m386, c387, A388, m389, c390, rfl, hGw384, j5n, j5d, j5m⟩
              have hap_j5n_g11 := ap_new j5n (hVg11.bl_ge _ rfl).2
              have hap_j5n_g13 := ap_new j5n (hVg13.bl_ge _ rfl).2
              have hap_j5n_g15 := ap_new j5n (hVg15.bl_ge _ rfl).2
              have hap_j5n_g28 := ap_new j5n (hVg28.bl_ge _ rfl).2
              have hap_j5d_g11 := ap_new j5d (hVg11.bl_ge _ rfl).2
              have hap_j5d_g13 := ap_new j5d (hVg13.bl_ge _ rfl).2
              have hap_j5d_g15 := ap_new j5d (hVg15.bl_ge _ rfl).2
              have hap_j5d_g28 := ap_new j5d (hVg28.bl_ge _ rfl).2
              have j5n := j5n.low (b' := w.heap.size) hB.size
              have j5d := j5d.low (b' := w.heap.size) hB.size
              have hB := ext_trans hB hGw384
              have j5n_l := j5n.rd.ulen
              have j5d_l := j5d.rd.ulen
              exact WL.done ⟨_, rfl, hGw384, ⟨A385, m386, c387, A388, m389, c390, rfl, j5n, j5d, j5m, hap_j5n_g11, hap_j5n_g13, hap_j5n_g15, hap_j5n_g28, hap_j5d_g11, hap_j5d_g13, hap_j5d_g15, hap_j5d_g28⟩⟩
            · intro w391 hE
              have hE := hE rfl
              have hB := ext_trans hB hE
              rintro _ rfl
              rintro _ ⟨A367_13, m368_13, c369_13, A370_13, m371_13, c372_13, A376, m377, c378, A379, m380, c381, rfl, j3n_13, j3d_13, j3m_13, hap_j3n_g11_13, hap_j3n_g13_13, hap_j3n_g15_13, hap_j3n_g28_13, hap_j3d_g11_13, hap_j3d_g13_13, hap_j3d_g15_13, hap_j3d_g28_13, j4n, j4d, j4m, hap_j4n_g11, hap_j4n_g13, hap_j4n_g15, hap_j4n_g28, hap_j4d_g11, hap_j4d_g13, hap_j4d_g15, hap_j4d_g28⟩
              rintro _ ⟨A385, m386, c387, A388, m389, c390, rfl, j5n, j5d, j5m, hap_j5n_g11, hap_j5n_g13, hap_j5n_g15, hap_j5n_g28, hap_j5d_g11, hap_j5d_g13, hap_j5d_g15, hap_j5d_g28⟩
              intro R
              refine WL.take rfl ?_
              refine WL.call Try.func18 rfl Try.nm18 rfl rfl (qsame_t j4n.rd j4d.rd j5n.rd j5d.rd (can_eq (by grind))) ?_
              rintro _ w392 ⟨rfl, hGw392⟩
              have hB := ext_trans hB hGw392
              exact WL.done ⟨_, rfl, hGw392, rfl⟩
            · intro w393 hE
              rintro _ rfl
              rintro _ rfl
              intro R
              refine WL.pick rfl rfl rfl ?_
              exact WL.done ⟨_, rfl, rfl, rfl⟩
            · intro w394 hE
              rintro _ rfl
              intro R
              refine WL.move rfl rfl ?_
              exact WL.done ⟨_, rfl, rfl, rfl⟩
            · intro w395 hE
              have hE := hE rfl
              have hB := ext_trans hB hE
              have hVg11 := hVg11.ext hE
              rintro _ rfl
              intro R
              refine WL.take rfl ?_
              refine WL.loadV (cs := [.bool na, .slice Aan man can, .slice Aad mad cad]) Try.el31 Try.agg31 rfl rfl hVg11.vcells rfl ?_
              exact WL.done ⟨_, rfl, ext_refl _, rfl⟩
            · intro w396 hE
              have hE := hE rfl
              have hB := ext_trans hB hE
              have hVg13 := hVg13.ext hE
              rintro _ rfl
              intro R
              refine WL.take rfl ?_
              refine WL.loadV (cs := [.bool nb, .slice Abn mbn cbn, .slice Abd mbd cbd]) Try.el31 Try.agg31 rfl rfl hVg13.vcells rfl ?_
              exact WL.done ⟨_, rfl, ext_refl _, rfl⟩
            · intro w397 hE
              have hE := hE rfl
              have hB := ext_trans hB hE
              have han := han0.ext hB
              have had := had0.ext hB
              have hbn := hbn0.ext hB
              have hbd := hbd0.ext hB
              have hVg11 := hVg11.ext hE
              have hVg13 := hVg13.ext hE
              have hVg15 := hVg15.ext hE
              have hVg28 := hVg28.ext hE
              rintro _ rfl
              rintro _ rfl
              rintro _ rfl
              intro R
              refine WL.take rfl ?_
              refine WL.lit (b := w397.heap.size) (cells := [.bool na, .slice Aan man can, .slice Aad mad cad, .bool nb, .slice Abn mbn cbn, .slice Abd mbd cbd]) Try.underlying44 Try.el31 (by decide) ⟨_, rfl, by kernel_rfl⟩ rfl (Nat.le_refl _) rfl ?_
              rintro A398 w399 - hO400 hGw399
              have hap_hO400_g11 := ap_new hO400 (hVg11.bl_ge _ rfl).2
              have hap_hO400_g13 := ap_new hO400 (hVg13.bl_ge _ rfl).2
              have hap_hO400_g15 := ap_new hO400 (hVg15.bl_ge _ rfl).2
              have hap_hO400_g28 := ap_new hO400 (hVg28.bl_ge _ rfl).2
              have hO400 := hO400.low (b' := w.heap.size) hB.size
              have hB := ext_trans hB hGw399
              have han := han0.ext hB
              have had := had0.ext hB
              have hbn := hbn0.ext hB
              have hbd := hbd0.ext hB
              have hN401 : RatsR w399.heap.size w399 [.bool na, .slice Aan man can, .slice Aad mad cad, .bool nb, .slice Abn mbn cbn, .slice Abd mbd cbd] [(na, xan, xad), (nb, xbn, xbd)] := (RatsR.cons han.norm had.norm (RatsR.cons hbn.norm hbd.norm (RatsR.nil _ _)))
              exact WL.done ⟨_, rfl, hGw399, ⟨A398, rfl, hO400, hN401, hap_hO400_g11, hap_hO400_g13, hap_hO400_g15, hap_hO400_g28⟩⟩
            · intro w402 hE
              have hE := hE rfl
              have hB := ext_trans hB hE
              have hVg11 := hVg11.ext hE
              have hVg13 := hVg13.ext hE
              have hVg15 := hVg15.ext hE
              have hVg28 := hVg28.ext hE
              rintro _ rfl
              rintro _ ⟨A398, rfl, hO400, hN401, hap_hO400_g11, hap_hO400_g13, hap_hO400_g15, hap_hO400_g28⟩
              intro R
              refine WL.take rfl ?_
              refine WL.call Try.func32 rfl Try.nm32 rfl rfl (qAdd2_c hO400.rd hN401 hLan hLad hLbn hLbd qa hqa qb hqb 12 (by omega) (by omega)) ?_
              rintro _ w403 ⟨A404, m405, c406, A407, m408, c409, rfl, hGw403, j6n, j6d, j6m⟩
              have hap_j6n_g11 := ap_new j6n (hVg11.bl_ge _ rfl).2
              have hap_j6n_g13 := ap_new j6n (hVg13.bl_ge _ rfl).2
              have hap_j6n_g15 := ap_new j6n (hVg15.bl_ge _ rfl).2
              have hap_j6n_g28 := ap_new j6n (hVg28.bl_ge _ rfl).2
              have hap_j6d_g11 := ap_new j6d (hVg11.bl_ge _ rfl).2
              have hap_j6d_g13 := ap_new j6d (hVg13.bl_ge _ rfl).2
              have hap_j6d_g15 := ap_new j6d (hVg15.bl_ge _ rfl).2
              have hap_j6d_g28 := ap_new j6d (hVg28.bl_ge _ rfl).2
              have j6n := j6n.low (b' := w.heap.size) hB.size
              have j6d := j6d.low (b' := w.heap.size) hB.size
              have hB := ext_trans hB hGw403
              have j6n_l := j6n.rd.ulen
              have j6d_l := j6d.rd.ulen
              exact WL.done ⟨_, rfl, hGw403, ⟨A404, m405, c406, A407, m408, c409, rfl, j6n, j6d, j6m, hap_j6n_g11, hap_j6n_g13, hap_j6n_g15, hap_j6n_g28, hap_j6d_g11, hap_j6d_g13, hap_j6d_g15, hap_j6d_g28⟩⟩
            · intro w410 hE
              have hE := hE rfl
              have hB := ext_trans hB hE
              rintro _ rfl
              rintro _ ⟨A404, m405, c406, A407, m408, c409, rfl, j6n, j6d, j6m, hap_j6n_g11, hap_j6n_g13, hap_j6n_g15, hap_j6n_g28, hap_j6d_g11, hap_j6d_g13, hap_j6d_g15, hap_j6d_g28⟩
              intro R
              refine WL.take rfl ?_
              refine WL.call Try.func21 rfl Try.nm21 rfl rfl (qIs_t j6n.rd j6d.rd (digs_lim _) (digs_lim _) (qa + qb) (val_canon _) (by omega)) ?_
              rintro _ w411 ⟨rfl, hGw411⟩
              have hB := ext_trans hB hGw411
              exact WL.done ⟨_, rfl, hGw411, rfl⟩
            · intro w412 hE
              rintro _ rfl
              rintro _ rfl
              intro R
              refine WL.pick rfl rfl rfl ?_
              exact WL.done ⟨_, rfl, rfl, rfl⟩
            · intro w413 hE
              rintro _ rfl
              intro R
              refine WL.move rfl rfl ?_
              exact WL.done ⟨_, rfl, rfl, rfl⟩
            · intro w414 hE
              have hE := hE rfl
              have hB := ext_trans hB hE
              have hVg11 := hVg11.ext hE
              rintro _ rfl
              intro R
              refine WL.take rfl ?_
              refine WL.loadV (cs := [.bool na, .slice Aan man can, .slice Aad mad cad]) Try.el31 Try.agg31 rfl rfl hVg11.vcells rfl ?_
              exact WL.done ⟨_, rfl, ext_refl _, rfl⟩
            · intro w415 hE
              have hE := hE rfl
              have hB := ext_trans hB hE
              have hVg13 := hVg13.ext hE
              rintro _ rfl
              intro R
              refine WL.take rfl ?_
              refine WL.loadV (cs := [.bool nb, .slice Abn mbn cbn, .slice Abd mbd cbd]) Try.el31 Try.agg31 rfl rfl hVg13.vcells rfl ?_
              exact WL.done ⟨_, rfl, ext_refl _, rfl⟩
            · intro w416 hE
              have hE := hE rfl
              have hB := ext_trans hB hE
              have han := han0.ext hB
              have had := had0.ext hB
              have hbn := hbn0.ext hB
              have hbd := hbd0.ext hB
              have hVg11 := hVg11.ext hE
              have hVg13 := hVg13.ext hE
              have hVg15 := hVg15.ext hE
              have hVg28 := hVg28.ext hE
              rintro _ rfl
              rintro _ rfl
              rintro _ rfl
              intro R
              refine WL.take rfl ?_
              refine WL.lit (b := w416.heap.size) (cells := [.bool na, .slice Aan man can, .slice Aad mad cad, .bool nb, .slice Abn mbn cbn, .slice Abd mbd cbd]) Try.underlying44 Try.el31 (by decide) ⟨_, rfl, by kernel_rfl⟩ rfl (Nat.le_refl _) rfl ?_
              rintro A417 w418 - hO419 hGw418
              have hap_hO419_g11 := ap_new hO419 (hVg11.bl_ge _ rfl).2
              have hap_hO419_g13 := ap_new hO419 (hVg13.bl_ge _ rfl).2
              have hap_hO419_g15 := ap_new hO419 (hVg15.bl_ge _ rfl).2
              have hap_hO419_g28 := ap_new hO419 (hVg28.bl_ge _ rfl).2
              have hO419 := hO419.low (b' := w.heap.size) hB.size
              have hB := ext_trans hB hGw418
              have han := han0.ext hB
              have had := had0.ext hB
              have hbn := hbn0.ext hB
              have hbd := hbd0.ext hB
              have hN420 : RatsR w418.heap.size w418 [.bool na, .slice Aan man can, .slice Aad mad cad, .bool nb, .slice Abn mbn cbn, .slice Abd mbd cbd] [(na, xan, xad), (nb, xbn, xbd)] := (RatsR.cons han.norm had.norm (RatsR.cons hbn.norm hbd.norm (RatsR.nil _ _)))
              exact WL.done ⟨_, rfl, hGw418, ⟨A417, rfl, hO419, hN420, hap_hO419_g11, hap_hO419_g13, hap_hO419_g15, hap_hO419_g28⟩⟩
            · intro w421 hE
              have hE := hE rfl
              have hB := ext_trans hB hE
              have hVg11 := hVg11.ext hE
              have hVg13 := hVg13.ext hE
              have hVg15 := hVg15.ext hE
              have hVg28 := hVg28.ext hE
              rintro _ rfl
              rintro _ ⟨A417, rfl, hO419, hN420, hap_hO419_g11, hap_hO419_g13, hap_hO419_g15, hap_hO419_g28⟩
              intro R
              refine WL.take rfl ?_
              refine WL.call Try.func34 rfl Try.nm34 rfl rfl (qMul2_c hO419.rd hN420 hLan hLad hLbn hLbd qa hqa qb hqb 12 (by omega) (by omega)) ?_
              rintro _ w422 ⟨A423, m424, c425, A426, m427, c428, rfl, hGw422, j7n, j7d, j7m⟩
              have hap_j7n_g11 := ap_new j7n (hVg11.bl_ge _ rfl).2
              have hap_j7n_g13 := ap_new j7n (hVg13.bl_ge _ rfl).2
              have hap_j7n_g15 := ap_new j7n (hVg15.bl_ge _ rfl).2
              have hap_j7n_g28 := ap_new j7n (hVg28.bl_ge _ rfl).2
              have hap_j7d_g11 := ap_new j7d (hVg11.bl_ge _ rfl).2
              have hap_j7d_g13 := ap_new j7d (hVg13.bl_ge _ rfl).2
              have hap_j7d_g15 := ap_new j7d (hVg15.bl_ge _ rfl).2
              have hap_j7d_g28 := ap_new j7d (hVg28.bl_ge _ rfl).2
              have j7n := j7n.low (b' := w.heap.size) hB.size
              have j7d := j7d.low (b' := w.heap.size) hB.size
              have hB := ext_trans hB hGw422
              have j7n_l := j7n.rd.ulen
              have j7d_l := j7d.rd.ulen
              exact WL.done ⟨_, rfl, hGw422, ⟨A423, m424, c425, A426, m427, c428, rfl, j7n, j7d, j7m, hap_j7n_g11, hap_j7n_g13, hap_j7n_g15, hap_j7n_g28, hap_j7d_g11, hap_j7d_g13, hap_j7d_g15, hap_j7d_g28⟩⟩
            · intro w429 hE
              have hE := hE rfl
              have hB := ext_trans hB hE
              rintro _ rfl
              rintro _ ⟨A423, m424, c425, A426, m427, c428, rfl, j7n, j7d, j7m, hap_j7n_g11, hap_j7n_g13, hap_j7n_g15, hap_j7n_g28, hap_j7d_g11, hap_j7d_g13, hap_j7d_g15, hap_j7d_g28⟩
              intro R
              refine WL.take rfl ?_
              refine WL.call Try.func21 rfl Try.nm21 rfl rfl (qIs_t j7n.rd j7d.rd (digs_lim _) (digs_lim _) (qa * qb) (val_canon _) (by omega)) ?_
              rintro _ w430 ⟨rfl, hGw430⟩
              have hB := ext_trans hB hGw430
              exact WL.done ⟨_, rfl, hGw430, rfl⟩
            · intro w431 hE
              rintro _ rfl
              rintro _ rfl
              intro R
              refine WL.pick rfl rfl rfl ?_
              exact WL.done ⟨_, rfl, rfl, rfl⟩
          · intro vals w432 hT hVs
            have hB := ext_trans hB hT
            have hv0 : vals 0 = _ := hVs 0 (by decide)
            have hv1 : vals 1 = _ := hVs 1 (by decide)
            obtain ⟨A335, m336, c337, A338, m339, c340, hv2, j1n, j1d, j1m, hap_j1n_g11, hap_j1n_g13, hap_j1n_g15, hap_j1n_g28, hap_j1d_g11, hap_j1d_g13, hap_j1d_g15, hap_j1d_g28⟩ := hVs 2 (by decide)
            obtain ⟨A335_3, m336_3, c337_3, A338_3, m339_3, c340_3, A342, hv3, j1n_3, j1d_3, j1m_3, hap_j1n_g11_3, hap_j1n_g13_3, hap_j1n_g15_3, hap_j1n_g28_3, hap_j1d_g11_3, hap_j1d_g13_3, hap_j1d_g15_3, hap_j1d_g28_3, hO344, hN345, hap_hO344_g11, hap_hO344_g13, hap_hO344_g15, hap_hO344_g28⟩ := hVs 3 (by decide)
            obtain ⟨A348, m349, c350, A351, m352, c353, hv4, j2n, j2d, j2m, hap_j2n_g11, hap_j2n_g13, hap_j2n_g15, hap_j2n_g28, hap_j2d_g11, hap_j2d_g13, hap_j2d_g15, hap_j2d_g28⟩ := hVs 4 (by decide)
            have hv5 : vals 5 = _ := hVs 5 (by decide)
            have hv6 : vals 6 = _ := hVs 6 (by decide)
            have hv7 : vals 7 = _ := hVs 7 (by decide)
            have hv8 : vals 8 = _ := hVs 8 (by decide)
            have hv9 : vals 9 = _ := hVs 9 (by decide)
            obtain ⟨A361, hv10, hO363, hN364, hap_hO363_g11, hap_hO363_g13, hap_hO363_g15, hap_hO363_g28⟩ := hVs 10 (by decide)
            obtain ⟨A367, m368, c369, A370, m371, c372, hv11, j3n, j3d, j3m, hap_j3n_g11, hap_j3n_g13, hap_j3n_g15, hap_j3n_g28, hap_j3d_g11, hap_j3d_g13, hap_j3d_g15, hap_j3d_g28⟩ := hVs 11 (by decide)
            have hv12 : vals 12 = _ := hVs 12 (by decide)
            obtain ⟨A367_13, m368_13, c369_13, A370_13, m371_13, c372_13, A376, m377, c378, A379, m380, c381, hv13, j3n_13, j3d_13, j3m_13, hap_j3n_g11_13, hap_j3n_g13_13, hap_j3n_g15_13, hap_j3n_g28_13, hap_j3d_g11_13, hap_j3d_g13_13, hap_j3d_g15_13, hap_j3d_g28_13, j4n, j4d, j4m, hap_j4n_g11, hap_j4n_g13, hap_j4n_g15, hap_j4n_g28, hap_j4d_g11, hap_j4d_g13, hap_j4d_g15, hap_j4d_g28⟩ := hVs 13 (by decide)
            have hv14 : vals 14 = _ := hVs 14 (by decide)
            obtain ⟨A385, m386, c387, A388, m389, c390, hv15, j5n, j5d, j5m, hap_j5n_g11, hap_j5n_g13, hap_j5n_g15, hap_j5n_g28, hap_j5d_g11, hap_j5d_g13, hap_j5d_g15, hap_j5d_g28⟩ := hVs 15 (by decide)
            have hv16 : vals 16 = _ := hVs 16 (by decide)
            have hv17 : vals 17 = _ := hVs 17 (by decide)
            have hv18 : vals 18 = _ := hVs 18 (by decide)
            have hv19 : vals 19 = _ := hVs 19 (by decide)
            have hv20 : vals 20 = _ := hVs 20 (by decide)
            obtain ⟨A398, hv21, hO400, hN401, hap_hO400_g11, hap_hO400_g13, hap_hO400_g15, hap_hO400_g28⟩ := hVs 21 (by decide)
            obtain ⟨A404, m405, c406, A407, m408, c409, hv22, j6n, j6d, j6m, hap_j6n_g11, hap_j6n_g13, hap_j6n_g15, hap_j6n_g28, hap_j6d_g11, hap_j6d_g13, hap_j6d_g15, hap_j6d_g28⟩ := hVs 22 (by decide)
            have hv23 : vals 23 = _ := hVs 23 (by decide)
            have hv24 : vals 24 = _ := hVs 24 (by decide)
            have hv25 : vals 25 = _ := hVs 25 (by decide)
            have hv26 : vals 26 = _ := hVs 26 (by decide)
            have hv27 : vals 27 = _ := hVs 27 (by decide)
            obtain ⟨A417, hv28, hO419, hN420, hap_hO419_g11, hap_hO419_g13, hap_hO419_g15, hap_hO419_g28⟩ := hVs 28 (by decide)
            obtain ⟨A423, m424, c425, A426, m427, c428, hv29, j7n, j7d, j7m, hap_j7n_g11, hap_j7n_g13, hap_j7n_g15, hap_j7n_g28, hap_j7d_g11, hap_j7d_g13, hap_j7d_g15, hap_j7d_g28⟩ := hVs 29 (by decide)
            have hv30 : vals 30 = _ := hVs 30 (by decide)
            have hv31 : vals 31 = _ := hVs 31 (by decide)
            rw [show (List.filterMap (fun i => Option.map (fun t => (t, vals i)) (dstAt _ i)) (List.range _)) = [(102, .agg #[.bool na, .slice Aan man can, .slice Aad mad cad]), (103, .agg #[.bool na, .slice Aan man can, .slice Aad mad cad]), (104, .agg #[.bool (qneg (-(qa))), .slice A335 m336 c337, .slice A338 m339 c340]), (105, .slice A342 2 2), (106, .agg #[.bool (qneg (qa + (-(qa)))), .slice A348 m349 c350, .slice A351 m352 c353]), (107, .int .i64 (sg (qa + (-(qa))))), (108, .bool true), (109, .bool true), (110, .agg #[.bool na, .slice Aan man can, .slice Aad mad cad]), (111, .agg #[.bool nb, .slice Abn mbn cbn, .slice Abd mbd cbd]), (112, .slice A361 2 2), (113, .agg #[.bool (qneg (qa + qb)), .slice A367 m368 c369, .slice A370 m371 c372]), (114, .agg #[.bool nb, .slice Abn mbn cbn, .slice Abd mbd cbd]), (115, .agg #[.bool (qneg ((qa + qb) - qb)), .slice A376 m377 c378, .slice A379 m380 c381]), (116, .agg #[.bool na, .slice Aan man can, .slice Aad mad cad]), (117, .agg #[.bool (qneg (qa)), .slice A385 m386 c387, .slice A388 m389 c390]), (118, .bool true), (119, .bool true), (120, .bool true), (121, .agg #[.bool na, .slice Aan man can, .slice Aad mad cad]), (122, .agg #[.bool nb, .slice Abn mbn cbn, .slice Abd mbd cbd]), (123, .slice A398 2 2), (124, .agg #[.bool (qneg (qa + qb)), .slice A404 m405 c406, .slice A407 m408 c409]), (125, .bool true), (126, .bool true), (127, .bool true), (128, .agg #[.bool na, .slice Aan man can, .slice Aad mad cad]), (129, .agg #[.bool nb, .slice Abn mbn cbn, .slice Abd mbd cbd]), (130, .slice A417 2 2), (131, .agg #[.bool (qneg (qa * qb)), .slice A423 m424 c425, .slice A426 m427 c428]), (132, .bool true), (133, .bool true)] from by
              show [(102, vals 0), (103, vals 1), (104, vals 2), (105, vals 3), (106, vals 4), (107, vals 5), (108, vals 6), (109, vals 7), (110, vals 8), (111, vals 9), (112, vals 10), (113, vals 11), (114, vals 12), (115, vals 13), (116, vals 14), (117, vals 15), (118, vals 16), (119, vals 17), (120, vals 18), (121, vals 19), (122, vals 20), (123, vals 21), (124, vals 22), (125, vals 23), (126, vals 24), (127, vals 25), (128, vals 26), (129, vals 27), (130, vals 28), (131, vals 29), (132, vals 30), (133, vals 31)] = _
              rw [hv0, hv1, hv2, hv3, hv4, hv5, hv6, hv7, hv8, hv9, hv10, hv11, hv12, hv13, hv14, hv15, hv16, hv17, hv18, hv19, hv20, hv21, hv22, hv23, hv24, hv25, hv26, hv27, hv28, hv29, hv30, hv31]]
            refine WA.step [32] (by decide +kernel) rfl ?_
            intro iQ hQ
            simp only [List.mem_cons, List.not_mem_nil, or_false] at hQ
            obtain rfl := hQ
            · refine ⟨_, rfl, ?_⟩
              refine WL.assign rfl rfl ?_
              refine WL.done ?_
              refine WA.done (by decide +kernel) ?_
              refine W.ret ?_
              refine ⟨_, rfl, ?_⟩
              exact ⟨rfl, hB⟩
  · have hlo := hlo_t rfl
    refine WL.done ?_
    refine W.condT rfl ?_
    refine W.seq ?_
    refine W.region ?_
    refine WL.assign rfl rfl ?_
    refine WL.done ?_
    refine W.ret ?_
    refine ⟨_, rfl, ?_⟩
    exact ⟨rfl, hB⟩
end Go.Proofs.Ythfpcebcfjlkmab
