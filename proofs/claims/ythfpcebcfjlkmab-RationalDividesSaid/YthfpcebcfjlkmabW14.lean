/- Contracts of functions of the program, and what they lean on. -/
import Derived.Test.YthfpcebcfjlkmabW13
import Derived.Test.YthfpcebcfjlkmabLd
set_option linter.unusedSimpArgs false
set_option linter.unusedVariables false
namespace Go.Proofs.Ythfpcebcfjlkmab
open Go.RowKit
theorem longDivide_c {w : World} {Ba : Nat} {Aa : Option Addr} {ma ca : Nat} {xa : List Nat} (ha : Rd Ba w 1 Aa ma ca (us xa)) {Bb : Nat} {Ab : Option Addr} {mb cb : Nat} {xb : List Nat} (hb : Rd Bb w 1 Ab mb cb (us xb)) (hLa : Lim xa) (hLb : Lim xb) (hn2 : 2 ≤ mb) (hmab : mb ≤ ma) (htop : xb.getD (mb - 1) 0 ≠ 0) (hsz : ma ≤ 1073741824) :
    Calls Try.prog 99 #[.slice Aa ma ca, .slice Ab mb cb] w fun e w2 => ∃ v, e = .returned v ∧ (fun v w2 => ∃ A2 m2 c2 A3 m3 c3, v = .tuple #[.slice A2 m2 c2, .slice A3 m3 c3] ∧ w.grownBy w2 none ∧ Own w.heap.size w2 43 1 A2 m2 c2 (us (digs (nv xa / nv xb))) ∧ Own w.heap.size w2 43 1 A3 m3 c3 (us (digs (nv xa % nv xb))) ∧ m2 ≤ ma ∧ m3 ≤ ma + 1) v w2 := by
  have ha := ha.norm
  have ha_l := ha.ulen
  have ha_x := ha.max
  simp only [maxLen] at ha_x
  have ha_c := ha.cap
  have hb := hb.norm
  have hb_l := hb.ulen
  have hb_x := hb.max
  simp only [maxLen] at hb_x
  have hb_c := hb.cap
  have ha0 := ha
  have hb0 := hb
  obtain ⟨u, hu⟩ : ∃ u, u = 32 - bitn (xb.getD (mb - 1) 0) := ⟨_, rfl⟩
  have hxt := hLb.getD (mb - 1)
  have hu31 : u ≤ 31 := by have : 0 < bitn (xb.getD (mb - 1) 0) := bitn_lt.2 (by omega); omega
  have hB := ext_refl w
  refine calls_of_W (vs := [.slice Aa ma ca, .slice Ab mb cb]) [4, 5] Try.func99 rfl rfl rfl rfl ?_
  refine W.seq ?_
  refine W.region ?_
  refine WL.assign rfl rfl ?_
  refine WL.assign rfl rfl ?_
  refine WL.done ?_
  refine W.seq ?_
  refine W.region ?_
  refine WL.move rfl rfl ?_
  refine WL.move rfl rfl ?_
  refine WL.len Try.underlying23 rfl rfl ?_
  refine WL.sub (r := ((mb - 1 : Nat) : Int)) rfl rfl (wi64 (by omega) (by omega) (by omega)) rfl ?_
  refine WL.index1 (mb - 1) Try.underlying23 Try.el43 rfl rfl (by omega) (by omega) hb rfl ?_
  refine WL.load Try.underlying43 rfl rfl (Rd.at_ hb (us_at (by omega))) rfl ?_
  refine WL.call Try.func103 rfl Try.nm103 rfl rfl (LZ_c (xb.getD (mb - 1) 0) (by omega) (by omega)) ?_
  rintro _ w11 ⟨rfl, hGw11⟩
  have hB := ext_trans hB hGw11
  have ha := ha0.ext hB
  have hb := hb0.ext hB
  rw [← hu]
  refine WL.assign rfl rfl ?_
  refine WL.done ?_
  refine W.seq ?_
  refine W.region ?_
  refine WL.move rfl rfl ?_
  refine WL.move rfl rfl ?_
  refine WL.call Try.func104 rfl Try.nm104 rfl rfl (shl_c hb hLb u (by omega) (by omega) (by omega)) ?_
  rintro _ w12 ⟨Ay, my, cy, yd, rfl, hGw12, hy, hLyd, hmy, hvy⟩
  have hy := hy.low (b' := w.heap.size) hB.size
  have hB := ext_trans hB hGw12
  have ha := ha0.ext hB
  have hy_l := hy.rd.ulen
  refine WL.move rfl rfl ?_
  refine WL.len Try.underlying23 rfl rfl ?_
  have hy_c := hy.rd.cap
  refine WL.slTo (mb) Try.underlying23 Try.el43 rfl rfl (by omega) (by omega) rfl ?_
  have hd := hy.rd.take (k := mb) (by omega)
  rw [us_take] at hd
  refine WL.assign rfl rfl ?_
  refine WL.done ?_
  refine W.seq ?_
  refine W.region ?_
  refine WL.move rfl rfl ?_
  refine WL.move rfl rfl ?_
  obtain ⟨Bd, hBd⟩ : ∃ B, B = w12.heap.size := ⟨_, rfl⟩
  have hwB : w.heap.size ≤ Bd := by rw [hBd]; exact hB.size
  rw [← hBd] at hd
  obtain ⟨xd, hxd⟩ : ∃ x, x = yd.take mb := ⟨_, rfl⟩
  have hnd := norm_div hLb hLyd (by omega) hb_l (by omega) htop hu hvy
  rw [← hxd] at hd hnd
  obtain ⟨hvd, hV, hu31⟩ := hnd
  have hLd : Lim xd := by rw [hxd]; exact hLyd.take mb
  have hdl := hd.ulen
  refine WL.call Try.func104 rfl Try.nm104 rfl rfl (shl_c ha hLa u (by omega) (by omega) (by omega)) ?_
  rintro _ w13 ⟨Ar, mr, cr, zr, rfl, hGw13, hr, hLzr, hmr, hvr⟩
  have hB := ext_trans hB hGw13
  have hd := hd.ext hGw13
  have hr_l := hr.rd.ulen
  rw [← hBd] at hr
  have hrow : ∀ g, bl Ar = some g → Bd ≤ g := fun g hg => (hr.bl_ge g hg).1
  have hr := hr.low hwB
  refine WL.assign rfl rfl ?_
  refine WL.done ?_
  refine W.seq ?_
  refine W.region ?_
  refine WL.move rfl rfl ?_
  refine WL.len Try.underlying23 rfl rfl ?_
  refine WL.move rfl rfl ?_
  refine WL.len Try.underlying23 rfl rfl ?_
  refine WL.sub (r := ((ma - mb : Nat) : Int)) rfl rfl (wi64 (by omega) (by omega) (by omega)) rfl ?_
  refine WL.add (r := (((ma - mb) + 1 : Nat) : Int)) rfl rfl (wi64 (by omega) (by omega) (by omega)) rfl ?_
  have hwk : w.heap.size ≤ w13.heap.size := hB.size
  have hrb : ∀ g, bl Ar = some g → g < w13.heap.size := fun g hg => (hr.bl_ge g hg).2
  have hBk : Bd ≤ w13.heap.size := by
    rcases hr.form with ⟨_, h0, _⟩ | ⟨g, hg, _, _⟩
    · omega
    · have h1 := hrow g (by rw [hg]; rfl)
      have h2 := hrb g (by rw [hg]; rfl)
      omega
  refine WL.make (w13.heap.size) (ma - mb + 1) Try.underlying23 Try.el43 rfl rfl (by omega) (by omega) (by simp only [maxLen]; omega) (Nat.le_of_eq rfl) rfl ?_
  rintro Aq w14 - hq hGw14
  rw [made_us] at hq
  have hB := ext_trans hB hGw14
  have hd := hd.ext hGw14
  have hr := hr.ext hGw14
  refine WL.assign rfl rfl ?_
  refine WL.done ?_
  refine W.seq ?_
  refine W.seq ?_
  refine W.region ?_
  have hne := own_ne hq (by omega) hrb
  have hrowq : ∀ g, bl Aq = some g → Bd ≤ g := fun g hg => Nat.le_trans hBk (hq.bl_ge g hg).1
  have hq := hq.low hwk
  have hd_x := hd.max
  simp only [maxLen] at hd_x
  have hd_c := hd.cap
  have hinit := ld_init (n := mb) hLa ha_l hdl (by omega) hmab hu31 hV
  have hDB : nv xd < 4294967296 ^ mb := by have := nv_lt hLd; rwa [hdl] at this
  have hDp : 0 < nv xd := by
    rcases Nat.eq_zero_or_pos (nv xd) with h0 | h0
    · rw [h0] at hinit; omega
    · exact h0
  refine WL.move rfl rfl ?_
  refine WL.len Try.underlying23 rfl rfl ?_
  refine WL.sub (r := ((ma - mb + 1 : Nat) : Int) - 1) rfl rfl (wi64 (by omega) (by omega) (by omega)) rfl ?_
  refine WL.assign rfl rfl ?_
  refine WL.done ?_
  refine W.block ?_
  refine W.loop (σ := Nat × List Nat × List Nat) (fun s w1 => match s with | (j, qs, zs) => w.grownBy w1 none ∧ j ≤ ma - mb + 1 ∧ Lim qs ∧ qs.length = ma - mb + 1 ∧ Lim zs ∧ zs.length = mr ∧ nv xa * 2 ^ u = nv (qs.drop j) * (4294967296 ^ j * nv xd) + nv zs ∧ nv zs < 4294967296 ^ j * nv xd ∧ Own w.heap.size w1 43 1 Aq (ma - mb + 1) (ma - mb + 1) (us (qs)) ∧ Own w.heap.size w1 43 1 Ar mr cr (us (zs)) ∧ Rd Bd w1 1 Ay mb cy (us xd)) (fun s => match s with | (j, qs, zs) => [(1, .slice Ab mb cb), (4, .slice Aq (ma - mb + 1) (ma - mb + 1)), (5, .slice Ar mr cr), (6, .int .i64 ((u : Nat) : Int)), (7, .slice Ay mb cy), (8, .int .i64 (((j : Nat) : Int) - 1))]) (fun s => match s with | (j, qs, zs) => j) (ma - mb + 1, List.replicate (ma - mb + 1) 0, zr) ?_ ?_ ?_
  · exact ⟨hB, by omega, Lim.zeros _, by simp, hLzr, by omega, by rw [List.drop_of_length_le (by simp), nv_nil, Nat.zero_mul, Nat.zero_add]; exact hvr.symm, by rw [hvr]; exact hinit, hq, hr, hd⟩
  · exact ⟨rfl, rfl, rfl, iv (by omega), rfl, iv (by omega), trivial⟩
  · rintro ⟨j, qs, zs⟩ w15 ⟨hB, hj, hLq, hlq, hLz, hlz, heq, hzlt, hq, hr, hd⟩
    have hr_x := hr.rd.max
    simp only [maxLen] at hr_x
    have hr_c := hr.rd.cap
    have hq_c := hq.rd.cap
    refine W.seq ?_
    refine W.seq ?_
    refine W.region ?_
    refine WL.move rfl rfl ?_
    refine WL.geq rfl rfl rfl (fun c16 => ?_) (fun c16 => ?_)
    · refine WL.done ?_
      refine W.condT rfl ?_
      refine W.skip ?_
      refine W.seq ?_
      refine W.block ?_
      refine W.seq ?_
      refine W.region ?_
      refine WL.move rfl rfl ?_
      refine WL.move rfl rfl ?_
      refine WL.move rfl rfl ?_
      refine WL.move rfl rfl ?_
      refine WL.len Try.underlying23 rfl rfl ?_
      refine WL.add (r := ((((j : Nat) : Int) - 1) + ((mb : Nat) : Int))) rfl rfl (wi64 (by omega) (by omega) (by omega)) rfl ?_
      refine WL.add (r := (((((j : Nat) : Int) - 1) + ((mb : Nat) : Int)) + (1 : Int))) rfl rfl (wi64 (by omega) (by omega) (by omega)) rfl ?_
      have hjp : 0 < j := by omega
      have hj1 : j - 1 + 1 = j := by omega
      have hZB := ld_room hjp hzlt hDB
      have hwin := win_val hZB
      have hWD := ld_win hjp hzlt hwin
      have hlw := hLz.take_lt (j - 1)
      refine WL.slMid (j - 1) (j + mb) Try.underlying23 Try.el43 rfl rfl rfl (by omega) (by omega) (by omega) (by omega) (by omega) rfl rfl ?_
      rw [show j + mb - (j - 1) = mb + 1 from by omega]
      refine WL.assign rfl rfl ?_
      refine WL.done ?_
      refine W.seq ?_
      refine W.region ?_
      refine WL.move rfl rfl ?_
      refine WL.move rfl rfl ?_
      refine WL.call Try.func105 rfl Try.nm105 rfl rfl (est_c hr.rd hLz (j - 1) mb hd hLd (by omega) hn2 hV hWD) ?_
      rintro _ w17 ⟨dg, rfl, hGw17, hdg1, hdg2, hdg3⟩
      have hB := ext_trans hB hGw17
      have hq := hq.ext hGw17
      have hr := hr.ext hGw17
      have hd := hd.ext hGw17
      have hde := dig_ends rfl hDp hdg2 hdg3
      refine WL.assign rfl rfl ?_
      refine WL.done ?_
      refine W.seq ?_
      refine W.seq ?_
      refine W.region ?_
      refine WL.move rfl rfl ?_
      refine WL.move rfl rfl ?_
      refine WL.move rfl rfl ?_
      refine WL.call Try.func106 rfl Try.nm106 rfl rfl (subm_c hr hLz (j - 1) mb hd hLd hrow (by omega) (by omega) dg rfl hdg1) ?_
      rintro _ w18 ⟨ys, b, rfl, hGw18, hr2, hLy, hly, hsy, hyq⟩
      have hB := ext_own hB hGw18 (fun g hg => (hr.bl_ge g hg).1)
      have hq := hq.grown hGw18 ((fun g hg e => hne (e.trans hg.symm)))
      have hd := hd.grown hGw18 hrow
      have hr2_l := hr2.rd.ulen
      rcases b with _ | _
      · rw [if_neg (by decide)] at hyq
        have hdq := ld_none hDp hwin hlw rfl hde hyq
        have hfin := hyq
        rw [Nat.mul_zero, Nat.add_zero, hdq] at hfin
        refine WL.done ?_
        refine W.condF rfl ?_
        refine W.skip ?_
        refine W.region ?_
        refine WL.move rfl rfl ?_
        refine WL.move rfl rfl ?_
        refine WL.move rfl rfl ?_
        refine WL.index1 (j - 1) Try.underlying23 Try.el43 rfl rfl (by omega) (by omega) hq.rd rfl ?_
        refine WL.store Try.el43 rfl rfl rfl (by omega) hq ?_
        have hOld20 := hq
        intro w19 hq hGw19
        change Own _ _ _ _ _ _ _ ((us qs).set (j - 1) (.int .u32 ((dg : Nat) : Int))) at hq
        rw [us_set] at hq
        have hB := ext_own hB hGw19 (fun g hg => (hOld20.bl_ge g hg).1)
        have hd := hd.grown hGw19 hrowq
        have hr2 := hr2.grown hGw19 ((fun g hg e => hne (hg.trans e.symm)))
        have := hq.rd.ulen
        refine WL.done ?_
        refine W.region ?_
        refine WL.move rfl rfl ?_
        refine WL.sub (r := ((((j : Nat) : Int) - 1) - (1 : Int))) rfl rfl (wi64 (by omega) (by omega) (by omega)) rfl ?_
        refine WL.assign rfl rfl ?_
        refine WL.done ?_
        refine ⟨(j - 1, qs.set (j - 1) dg, ys), ⟨rfl, rfl, rfl, iv (by omega), rfl, iv (by omega), trivial⟩, by (dsimp only; omega), ?_⟩
        exact ⟨hB, by omega, hLq.set _ (by omega), by simp [hlq], hLy, by omega, by rw [drop_set _ (by omega), hj1, show dg = nv ((zs.drop (j - 1)).take (mb + 1)) / nv xd from by omega]; exact ld_step (o := j - 1) (by rw [hj1]; exact heq) hfin, ld_less hDp hwin hlw rfl hfin, hq, hr2, hd⟩
      · rw [if_pos rfl] at hyq
        have hyl : nv ys < 4294967296 ^ (j - 1 + (mb + 1)) := nv_lt_zero hLy (fun t ht => by rw [hsy t (by omega)]; exact getD_zero hZB (by omega))
        have hdq := ld_over hwin rfl hde hyl hyq
        have hq0 : 1 ≤ dg := by rw [hdq]; exact Nat.le_add_left 1 _
        refine WL.done ?_
        refine W.condT rfl ?_
        refine W.seq ?_
        refine W.region ?_
        refine WL.move rfl rfl ?_
        refine WL.sub (r := ((dg - 1 : Nat) : Int)) rfl rfl (wu32 (by omega) (by omega) (by omega)) rfl ?_
        refine WL.assign rfl rfl ?_
        refine WL.done ?_
        refine W.region ?_
        refine WL.move rfl rfl ?_
        refine WL.move rfl rfl ?_
        refine WL.call Try.func107 rfl Try.nm107 rfl rfl (addb_c hr2 hLy (j - 1) mb hd hLd hrow (by omega) (by omega)) ?_
        rintro _ w21 ⟨ys2, e2, hGw21, hr3, hLy2, hly2, hsy2, he2, hyq2⟩
        have hB := ext_own hB hGw21 (fun g hg => (hr2.bl_ge g hg).1)
        have hq := hq.grown hGw21 ((fun g hg e => hne (e.trans hg.symm)))
        have hd := hd.grown hGw21 hrow
        have hr3_l := hr3.rd.ulen
        have hyl2 : nv ys2 < 4294967296 ^ (j - 1 + (mb + 1)) := nv_lt_zero hLy2 (fun t ht => by rw [hsy2 t (by omega), hsy t (by omega)]; exact getD_zero hZB (by omega))
        have hfin := ld_back hwin rfl hdq hyl2 he2 hyq hyq2
        refine WL.done ?_
        refine W.region ?_
        refine WL.move rfl rfl ?_
        refine WL.move rfl rfl ?_
        refine WL.move rfl rfl ?_
        refine WL.index1 (j - 1) Try.underlying23 Try.el43 rfl rfl (by omega) (by omega) hq.rd rfl ?_
        refine WL.store Try.el43 rfl rfl rfl (by omega) hq ?_
        have hOld23 := hq
        intro w22 hq hGw22
        change Own _ _ _ _ _ _ _ ((us qs).set (j - 1) (.int .u32 ((dg - 1 : Nat) : Int))) at hq
        rw [us_set] at hq
        have hB := ext_own hB hGw22 (fun g hg => (hOld23.bl_ge g hg).1)
        have hd := hd.grown hGw22 hrowq
        have hr3 := hr3.grown hGw22 ((fun g hg e => hne (hg.trans e.symm)))
        have := hq.rd.ulen
        refine WL.done ?_
        refine W.region ?_
        refine WL.move rfl rfl ?_
        refine WL.sub (r := ((((j : Nat) : Int) - 1) - (1 : Int))) rfl rfl (wi64 (by omega) (by omega) (by omega)) rfl ?_
        refine WL.assign rfl rfl ?_
        refine WL.done ?_
        refine ⟨(j - 1, qs.set (j - 1) (dg - 1), ys2), ⟨rfl, rfl, rfl, iv (by omega), rfl, iv (by omega), trivial⟩, by (dsimp only; omega), ?_⟩
        exact ⟨hB, by omega, hLq.set _ (by omega), by simp [hlq], hLy2, by omega, by rw [drop_set _ (by omega), hj1, show dg - 1 = nv ((zs.drop (j - 1)).take (mb + 1)) / nv xd from by omega]; exact ld_step (o := j - 1) (by rw [hj1]; exact heq) hfin, ld_less hDp hwin hlw rfl hfin, hq, hr3, hd⟩
    · refine WL.done ?_
      refine W.condF rfl ?_
      refine W.exit ?_
      refine W.seq ?_
      refine W.region ?_
      refine WL.move rfl rfl ?_
      refine WL.move rfl rfl ?_
      refine WL.call Try.func108 rfl Try.nm108 rfl rfl (shr_c hr hLz (by omega) u rfl hu31) ?_
      rintro _ w24 ⟨ys, hGw24, hr2, hLy, hly, hvs⟩
      have hB := ext_own hB hGw24 (fun g hg => (hr.bl_ge g hg).1)
      have hq := hq.grown hGw24 ((fun g hg e => hne (e.trans hg.symm)))
      have hr2_l := hr2.rd.ulen
      refine WL.done ?_
      refine W.seq ?_
      refine W.region ?_
      refine WL.move rfl rfl ?_
      refine WL.call Try.func44 rfl Try.nm44 rfl rfl (sig_c hq.rd) ?_
      rintro _ w25 ⟨rfl, hGw25⟩
      have hB := ext_trans hB hGw25
      have hq := hq.ext hGw25
      have hr2 := hr2.ext hGw25
      refine WL.move rfl rfl ?_
      refine WL.call Try.func44 rfl Try.nm44 rfl rfl (sig_c hr2.rd) ?_
      rintro _ w26 ⟨rfl, hGw26⟩
      have hB := ext_trans hB hGw26
      have hq := hq.ext hGw26
      have hr2 := hr2.ext hGw26
      refine WL.assign rfl rfl ?_
      refine WL.assign rfl rfl ?_
      refine WL.done ?_
      refine W.ret ?_
      refine ⟨_, rfl, ?_⟩
      obtain rfl : j = 0 := by omega
      rw [List.drop_zero, Nat.pow_zero, Nat.one_mul, hvd] at heq
      rw [Nat.pow_zero, Nat.one_mul, hvd] at hzlt
      obtain ⟨e1, e2⟩ := ld_end heq hzlt
      have h1 := hq.sig
      have h2 := hr2.sig
      rw [digs_trim hLq, e1] at h1
      rw [digs_trim hLy, hvs, e2] at h2
      have h3 := sigL_le qs
      have h4 := sigL_le ys
      exact ⟨_, _, _, _, _, _, rfl, hB, h1, h2, by omega, by omega⟩
end Go.Proofs.Ythfpcebcfjlkmab
