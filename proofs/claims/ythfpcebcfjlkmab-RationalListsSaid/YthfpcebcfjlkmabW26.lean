/- Contracts of functions of the program, and what they lean on. -/
import Derived.Test.YthfpcebcfjlkmabW25
set_option linter.unusedSimpArgs false
set_option linter.unusedVariables false
namespace Go.Proofs.Ythfpcebcfjlkmab
open Go.RowKit
theorem qAdd0_c {w : World} : Calls Try.prog 32 #[.slice none 0 0] w fun e w2 => ∃ v, e = .returned v ∧ (fun v w2 => ∃ A2 m2 c2 A3 m3 c3, v = .agg #[.bool (qneg (0)), .slice A2 m2 c2, .slice A3 m3 c3] ∧ w.grownBy w2 none ∧ Own w.heap.size w2 43 1 A2 m2 c2 (us (digs (qnum (0)))) ∧ Own w.heap.size w2 43 1 A3 m3 c3 (us (digs (Rat.den (0)))) ∧ m2 ≤ fb 4 0 ∧ m3 ≤ fb 4 0) v w2 :=
  qAdd_c (Rd.nil (B := w.heap.size) (by simp [maxLen])) (RatsR.nil w.heap.size w) RLim.nil 4 (RLen.nil _) (by decide)

theorem qMul0_c {w : World} : Calls Try.prog 34 #[.slice none 0 0] w fun e w2 => ∃ v, e = .returned v ∧ (fun v w2 => ∃ A2 m2 c2 A3 m3 c3, v = .agg #[.bool (qneg (1)), .slice A2 m2 c2, .slice A3 m3 c3] ∧ w.grownBy w2 none ∧ Own w.heap.size w2 43 1 A2 m2 c2 (us (digs (qnum (1)))) ∧ Own w.heap.size w2 43 1 A3 m3 c3 (us (digs (Rat.den (1)))) ∧ m2 ≤ fb 4 0 ∧ m3 ≤ fb 4 0) v w2 :=
  qMul_c (Rd.nil (B := w.heap.size) (by simp [maxLen])) (RatsR.nil w.heap.size w) RLim.nil 4 (RLen.nil _) (by decide)

theorem rlen_of {K : Nat} {rs : List Fr3} (h : ∀ j, j < rs.length → (rs.getD j fr0).2.1.length + (rs.getD j fr0).2.2.length ≤ K) : RLen K rs := fun j hj => by have := h j hj; omega
theorem rlen_sz {rs : List Fr3} (h : ∀ j, j < rs.length → (rs.getD j fr0).2.1.length * 4 ≤ 140737488351232 ∧ (rs.getD j fr0).2.2.length * 4 ≤ 140737488351232) : RLen 140737488355328 rs := fun j hj => by have := h j hj; omega
theorem fb16 {n : Nat} (h : n ≤ 16) : fb 4 n ≤ 91 := Nat.le_trans (fb_mono h) (by decide)

set_option maxHeartbeats 4000000 in
theorem RationalLists_c {w : World} {Bl BNl : Nat} {Al : Option Addr} {ml cl : Nat} {cel : List Value} {rl : List Fr3} (hl : Rd Bl w 3 Al ml cl cel) (hNl : RatsR BNl w cel rl) {Bm BNm : Nat} {Am : Option Addr} {mm cm : Nat} {cem : List Value} {rm : List Fr3} (hm : Rd Bm w 3 Am mm cm cem) (hNm : RatsR BNm w cem rm) (hLl : RLim rl) (hLm : RLim rm) (hKl : RLen 140737488355328 rl) (hKm : RLen 140737488355328 rm) (hzl : ml * 56 ≤ 140737488351232) (hzm : mm * 56 ≤ 140737488351232) :
    Calls Try.prog 7 #[.slice Al ml cl, .slice Am mm cm] w fun e w2 => ∃ v, e = .returned v ∧ (fun v w2 => v = .bool true ∧ w.grownBy w2 none) v w2 := by
  have hl := hl.norm
  have hNl := hNl.norm
  have hl_n := hl.len
  have hl_nn := hNl.len
  have hl_l : rl.length = ml := by omega
  have hl_x := hl.max
  simp only [maxLen] at hl_x
  have hl_c := hl.cap
  have hl0 := hl
  have hNl0 := hNl
  have hm := hm.norm
  have hNm := hNm.norm
  have hm_n := hm.len
  have hm_nn := hNm.len
  have hm_l : rm.length = mm := by omega
  have hm_x := hm.max
  simp only [maxLen] at hm_x
  have hm_c := hm.cap
  have hm0 := hm
  have hNm0 := hNm
  have hB := ext_refl w
  refine calls_of_W (vs := [.slice Al ml cl, .slice Am mm cm]) [4] Try.func7 rfl rfl rfl rfl ?_
  refine W.seq ?_
  refine W.region ?_
  refine WL.assign rfl rfl ?_
  refine WL.done ?_
  refine W.seq ?_
  refine W.seq ?_
  refine W.region ?_
  refine WL.move rfl rfl ?_
  refine WL.call Try.func17 rfl Try.nm17 rfl rfl (long_c hl hNl rfl hKl) ?_
  rintro _ w11 ⟨bhlol, rfl, hGw11, hlol_t, hlol_f⟩
  have hB := ext_trans hB hGw11
  have hl := hl0.ext hB
  have hNl := hNl0.ext hB
  have hm := hm0.ext hB
  have hNm := hNm0.ext hB
  rcases bhlol with _ | _
  · have hlol := hlol_f rfl
    have hK4l : RLen 4 rl := rlen_of hlol
    refine WL.move rfl rfl ?_
    refine WL.take rfl ?_
    refine WL.move rfl rfl ?_
    refine WL.take rfl ?_
    refine WL.call Try.func17 rfl Try.nm17 rfl rfl (long_c hm hNm rfl hKm) ?_
    rintro _ w12 ⟨bhlom, rfl, hGw12, hlom_t, hlom_f⟩
    have hB := ext_trans hB hGw12
    have hl := hl0.ext hB
    have hNl := hNl0.ext hB
    have hm := hm0.ext hB
    have hNm := hNm0.ext hB
    rcases bhlom with _ | _
    · have hlom := hlom_f rfl
      have hK4m : RLen 4 rm := rlen_of hlom
      refine WL.pick rfl rfl rfl ?_
      refine WL.done ?_
      refine W.condF rfl ?_
      refine W.skip ?_
      refine W.seq ?_
      refine W.seq ?_
      refine W.region ?_
      refine WL.move rfl rfl ?_
      refine WL.len Try.underlying44 rfl rfl ?_
      refine WL.move rfl rfl ?_
      refine WL.len Try.underlying44 rfl rfl ?_
      refine WL.add (r := ((ml + mm : Nat) : Int)) rfl rfl (wi64 (by omega) (by omega) (by omega)) rfl ?_
      refine WL.gtr rfl rfl rfl (fun h16 => ?_) (fun h16 => ?_)
      · refine WL.done ?_
        refine W.condT rfl ?_
        refine W.seq ?_
        refine W.region ?_
        refine WL.assign rfl rfl ?_
        refine WL.done ?_
        refine W.ret ?_
        refine ⟨_, rfl, ?_⟩
        exact ⟨rfl, hB⟩
      · refine WL.done ?_
        refine W.condF rfl ?_
        refine W.skip ?_
        refine W.seq ?_
        refine W.region ?_
        refine WL.lit (b := w12.heap.size) (cells := []) Try.underlying44 Try.el31 (by decide) ⟨_, rfl, by kernel_rfl⟩ rfl (Nat.le_refl _) rfl ?_
        rintro A14 w15 - hO16 hGw15
        have hO16 := hO16.low (b' := w.heap.size) hB.size
        have hB := ext_trans hB hGw15
        have hl := hl0.ext hB
        have hNl := hNl0.ext hB
        have hm := hm0.ext hB
        have hNm := hNm0.ext hB
        have hN17 : RatsR w15.heap.size w15 [] [] := (RatsR.nil _ _)
        refine WL.move rfl rfl ?_
        refine WL.append (ml) (cel) Try.underlying44 Try.el31 rfl rfl hO16 hl hNl.one (by simp only [maxLen]; omega) (by omega) hB.size (by omega) rfl rfl ?_
        have hOld22 := hO16
        intro A18 cp19 w20 hO21 hGw20 hblw20
        have hB := ext_own hB hGw20 (fun g hg => (hOld22.bl_ge g hg).1)
        have hl := hl0.ext hB
        have hNl := hNl0.ext hB
        have hm := hm0.ext hB
        have hNm := hNm0.ext hB
        refine WL.move rfl rfl ?_
        refine WL.append (ml + mm) ((cel ++ cem)) Try.underlying44 Try.el31 rfl rfl hO21 hm hNm.one (by simp only [maxLen]; omega) (by omega) hB.size (by omega) rfl rfl ?_
        have hOld27 := hO21
        intro A23 cp24 w25 hO26 hGw25 hblw25
        have hB := ext_own hB hGw25 (fun g hg => (hOld27.bl_ge g hg).1)
        have hl := hl0.ext hB
        have hNl := hNl0.ext hB
        have hm := hm0.ext hB
        have hNm := hNm0.ext hB
        refine WL.assign rfl rfl ?_
        refine WL.done ?_
        refine W.seq ?_
        refine W.seq ?_
        refine W.region ?_
        have hf1 := fb16 (n := ml) (by omega)
        have hf2 := fb16 (n := mm) (by omega)
        have hf3 := fb16 (n := ml + mm) (by omega)
        refine WL.call Try.func32 rfl Try.nm32 rfl rfl (qAdd0_c) ?_
        rintro _ w28 ⟨A29, m30, c31, A32, m33, c34, rfl, hGw28, h1n, h1d, h1m⟩
        have h1n := h1n.low (b' := w.heap.size) hB.size
        have h1d := h1d.low (b' := w.heap.size) hB.size
        have hB := ext_trans hB hGw28
        have hl := hl0.ext hB
        have hNl := hNl0.ext hB
        have hm := hm0.ext hB
        have hNm := hNm0.ext hB
        have hO26 := hO26.ext hGw28
        have h1n_l := h1n.rd.ulen
        have h1d_l := h1d.rd.ulen
        refine WL.call Try.func33 rfl Try.nm33 rfl rfl (rqInt_c (by omega)) ?_
        rintro _ w35 ⟨A36, m37, c38, A39, m40, c41, rfl, hGw35, h2n, h2d, h2m⟩
        have h2n := h2n.low (b' := w.heap.size) hB.size
        have h2d := h2d.low (b' := w.heap.size) hB.size
        have hB := ext_trans hB hGw35
        have hl := hl0.ext hB
        have hNl := hNl0.ext hB
        have hm := hm0.ext hB
        have hNm := hNm0.ext hB
        have hO26 := hO26.ext hGw35
        have h1n := h1n.ext hGw35
        have h1d := h1d.ext hGw35
        have h2n_l := h2n.rd.ulen
        have h2d_l := h2d.rd.ulen
        refine WL.call Try.func18 rfl Try.nm18 rfl rfl (qsame_t h1n.rd h1d.rd h2n.rd h2d.rd (can_eq (by decide +kernel))) ?_
        rintro _ w42 ⟨rfl, hGw42⟩
        have hB := ext_trans hB hGw42
        have hl := hl0.ext hB
        have hNl := hNl0.ext hB
        have hm := hm0.ext hB
        have hNm := hNm0.ext hB
        have hO26 := hO26.ext hGw42
        refine WL.not rfl rfl ?_
        refine WL.move rfl rfl ?_
        refine WL.take rfl ?_
        refine WL.call Try.func34 rfl Try.nm34 rfl rfl (qMul0_c) ?_
        rintro _ w43 ⟨A44, m45, c46, A47, m48, c49, rfl, hGw43, h3n, h3d, h3m⟩
        have h3n := h3n.low (b' := w.heap.size) hB.size
        have h3d := h3d.low (b' := w.heap.size) hB.size
        have hB := ext_trans hB hGw43
        have hl := hl0.ext hB
        have hNl := hNl0.ext hB
        have hm := hm0.ext hB
        have hNm := hNm0.ext hB
        have hO26 := hO26.ext hGw43
        have h3n_l := h3n.rd.ulen
        have h3d_l := h3d.rd.ulen
        refine WL.take rfl ?_
        refine WL.call Try.func33 rfl Try.nm33 rfl rfl (rqInt_c (by omega)) ?_
        rintro _ w50 ⟨A51, m52, c53, A54, m55, c56, rfl, hGw50, h4n, h4d, h4m⟩
        have h4n := h4n.low (b' := w.heap.size) hB.size
        have h4d := h4d.low (b' := w.heap.size) hB.size
        have hB := ext_trans hB hGw50
        have hl := hl0.ext hB
        have hNl := hNl0.ext hB
        have hm := hm0.ext hB
        have hNm := hNm0.ext hB
        have hO26 := hO26.ext hGw50
        have h3n := h3n.ext hGw50
        have h3d := h3d.ext hGw50
        have h4n_l := h4n.rd.ulen
        have h4d_l := h4d.rd.ulen
        refine WL.take rfl ?_
        refine WL.call Try.func18 rfl Try.nm18 rfl rfl (qsame_t h3n.rd h3d.rd h4n.rd h4d.rd (can_eq (by decide +kernel))) ?_
        rintro _ w57 ⟨rfl, hGw57⟩
        have hB := ext_trans hB hGw57
        have hl := hl0.ext hB
        have hNl := hNl0.ext hB
        have hm := hm0.ext hB
        have hNm := hNm0.ext hB
        have hO26 := hO26.ext hGw57
        refine WL.take rfl ?_
        refine WL.not rfl rfl ?_
        refine WL.pick rfl rfl rfl ?_
        refine WL.done ?_
        refine W.condF rfl ?_
        refine W.skip ?_
        refine W.seq ?_
        refine W.region ?_
        refine WL.move rfl rfl ?_
        refine WL.call Try.func32 rfl Try.nm32 rfl rfl (qAdd_c hO26.rd (hNl.append hNm) (hLl.append hLm) 4 (hK4l.append hK4m) (by omega)) ?_
        rintro _ w58 ⟨A59, m60, c61, A62, m63, c64, rfl, hGw58, i1n, i1d, i1m⟩
        have i1n := i1n.low (b' := w.heap.size) hB.size
        have i1d := i1d.low (b' := w.heap.size) hB.size
        have hB := ext_trans hB hGw58
        have hl := hl0.ext hB
        have hNl := hNl0.ext hB
        have hm := hm0.ext hB
        have hNm := hNm0.ext hB
        have hO26 := hO26.ext hGw58
        have i1n_l := i1n.rd.ulen
        have i1d_l := i1d.rd.ulen
        refine WL.move rfl rfl ?_
        refine WL.call Try.func32 rfl Try.nm32 rfl rfl (qAdd_c hl hNl hLl 4 hK4l (by omega)) ?_
        rintro _ w65 ⟨A66, m67, c68, A69, m70, c71, rfl, hGw65, i2n, i2d, i2m⟩
        have i2n := i2n.low (b' := w.heap.size) hB.size
        have i2d := i2d.low (b' := w.heap.size) hB.size
        have hB := ext_trans hB hGw65
        have hl := hl0.ext hB
        have hNl := hNl0.ext hB
        have hm := hm0.ext hB
        have hNm := hNm0.ext hB
        have hO26 := hO26.ext hGw65
        have i1n := i1n.ext hGw65
        have i1d := i1d.ext hGw65
        have i2n_l := i2n.rd.ulen
        have i2d_l := i2d.rd.ulen
        refine WL.move rfl rfl ?_
        refine WL.call Try.func32 rfl Try.nm32 rfl rfl (qAdd_c hm hNm hLm 4 hK4m (by omega)) ?_
        rintro _ w72 ⟨A73, m74, c75, A76, m77, c78, rfl, hGw72, i3n, i3d, i3m⟩
        have i3n := i3n.low (b' := w.heap.size) hB.size
        have i3d := i3d.low (b' := w.heap.size) hB.size
        have hB := ext_trans hB hGw72
        have hl := hl0.ext hB
        have hNl := hNl0.ext hB
        have hm := hm0.ext hB
        have hNm := hNm0.ext hB
        have hO26 := hO26.ext hGw72
        have i1n := i1n.ext hGw72
        have i1d := i1d.ext hGw72
        have i2n := i2n.ext hGw72
        have i2d := i2d.ext hGw72
        have i3n_l := i3n.rd.ulen
        have i3d_l := i3d.rd.ulen
        refine WL.call Try.func35 rfl Try.nm35 rfl rfl (rqAdd_c i2n.rd i2d.rd i3n.rd i3d.rd (digs_lim _) (digs_lim _) (qsum rl) (val_canon _) (digs_lim _) (digs_lim _) (qsum rm) (val_canon _) (by omega) (by omega)) ?_
        rintro _ w79 ⟨A80, m81, c82, A83, m84, c85, rfl, hGw79, i4n, i4d, i4m⟩
        have i4n := i4n.low (b' := w.heap.size) hB.size
        have i4d := i4d.low (b' := w.heap.size) hB.size
        have hB := ext_trans hB hGw79
        have hl := hl0.ext hB
        have hNl := hNl0.ext hB
        have hm := hm0.ext hB
        have hNm := hNm0.ext hB
        have hO26 := hO26.ext hGw79
        have i1n := i1n.ext hGw79
        have i1d := i1d.ext hGw79
        have i4n_l := i4n.rd.ulen
        have i4d_l := i4d.rd.ulen
        refine WL.call Try.func18 rfl Try.nm18 rfl rfl (qsame_t i1n.rd i1d.rd i4n.rd i4d.rd (can_eq (qsum_append rl rm))) ?_
        rintro _ w86 ⟨rfl, hGw86⟩
        have hB := ext_trans hB hGw86
        have hl := hl0.ext hB
        have hNl := hNl0.ext hB
        have hm := hm0.ext hB
        have hNm := hNm0.ext hB
        have hO26 := hO26.ext hGw86
        refine WL.move rfl rfl ?_
        refine WL.take rfl ?_
        refine WL.move rfl rfl ?_
        refine WL.take rfl ?_
        refine WL.call Try.func34 rfl Try.nm34 rfl rfl (qMul_c hO26.rd (hNl.append hNm) (hLl.append hLm) 4 (hK4l.append hK4m) (by omega)) ?_
        rintro _ w87 ⟨A88, m89, c90, A91, m92, c93, rfl, hGw87, j1n, j1d, j1m⟩
        have j1n := j1n.low (b' := w.heap.size) hB.size
        have j1d := j1d.low (b' := w.heap.size) hB.size
        have hB := ext_trans hB hGw87
        have hl := hl0.ext hB
        have hNl := hNl0.ext hB
        have hm := hm0.ext hB
        have hNm := hNm0.ext hB
        have j1n_l := j1n.rd.ulen
        have j1d_l := j1d.rd.ulen
        refine WL.take rfl ?_
        refine WL.move rfl rfl ?_
        refine WL.take rfl ?_
        refine WL.call Try.func34 rfl Try.nm34 rfl rfl (qMul_c hl hNl hLl 4 hK4l (by omega)) ?_
        rintro _ w94 ⟨A95, m96, c97, A98, m99, c100, rfl, hGw94, j2n, j2d, j2m⟩
        have j2n := j2n.low (b' := w.heap.size) hB.size
        have j2d := j2d.low (b' := w.heap.size) hB.size
        have hB := ext_trans hB hGw94
        have hm := hm0.ext hB
        have hNm := hNm0.ext hB
        have j1n := j1n.ext hGw94
        have j1d := j1d.ext hGw94
        have j2n_l := j2n.rd.ulen
        have j2d_l := j2d.rd.ulen
        refine WL.take rfl ?_
        refine WL.move rfl rfl ?_
        refine WL.take rfl ?_
        refine WL.call Try.func34 rfl Try.nm34 rfl rfl (qMul_c hm hNm hLm 4 hK4m (by omega)) ?_
        rintro _ w101 ⟨A102, m103, c104, A105, m106, c107, rfl, hGw101, j3n, j3d, j3m⟩
        have j3n := j3n.low (b' := w.heap.size) hB.size
        have j3d := j3d.low (b' := w.heap.size) hB.size
        have hB := ext_trans hB hGw101
        have j1n := j1n.ext hGw101
        have j1d := j1d.ext hGw101
        have j2n := j2n.ext hGw101
        have j2d := j2d.ext hGw101
        have j3n_l := j3n.rd.ulen
        have j3d_l := j3d.rd.ulen
        refine WL.take rfl ?_
        refine WL.call Try.func36 rfl Try.nm36 rfl rfl (rqMul_c j2n.rd j2d.rd j3n.rd j3d.rd (digs_lim _) (digs_lim _) (qprod rl) (val_canon _) (digs_lim _) (digs_lim _) (qprod rm) (val_canon _) (by omega) (by omega)) ?_
        rintro _ w108 ⟨A109, m110, c111, A112, m113, c114, rfl, hGw108, j4n, j4d, j4m⟩
        have j4n := j4n.low (b' := w.heap.size) hB.size
        have j4d := j4d.low (b' := w.heap.size) hB.size
        have hB := ext_trans hB hGw108
        have j1n := j1n.ext hGw108
        have j1d := j1d.ext hGw108
        have j4n_l := j4n.rd.ulen
        have j4d_l := j4d.rd.ulen
        refine WL.take rfl ?_
        refine WL.call Try.func18 rfl Try.nm18 rfl rfl (qsame_t j1n.rd j1d.rd j4n.rd j4d.rd (can_eq (qprod_append rl rm))) ?_
        rintro _ w115 ⟨rfl, hGw115⟩
        have hB := ext_trans hB hGw115
        refine WL.pick rfl rfl rfl ?_
        refine WL.assign rfl rfl ?_
        refine WL.done ?_
        refine W.ret ?_
        refine ⟨_, rfl, ?_⟩
        exact ⟨rfl, hB⟩
    · have hlom := hlom_t rfl
      refine WL.pick rfl rfl rfl ?_
      refine WL.done ?_
      refine W.condT rfl ?_
      refine W.seq ?_
      refine W.region ?_
      refine WL.assign rfl rfl ?_
      refine WL.done ?_
      refine W.ret ?_
      refine ⟨_, rfl, ?_⟩
      exact ⟨rfl, hB⟩
  · have hlol := hlol_t rfl
    refine WL.move rfl rfl ?_
    refine WL.pass rfl rfl rfl ?_
    refine WL.pass rfl rfl rfl ?_
    refine WL.pick rfl rfl rfl ?_
    refine WL.done ?_
    refine W.condT rfl ?_
    refine W.seq ?_
    refine W.region ?_
    refine WL.assign rfl rfl ?_
    refine WL.done ?_
    refine W.ret ?_
    refine ⟨_, rfl, ?_⟩
    exact ⟨rfl, hB⟩
end Go.Proofs.Ythfpcebcfjlkmab
