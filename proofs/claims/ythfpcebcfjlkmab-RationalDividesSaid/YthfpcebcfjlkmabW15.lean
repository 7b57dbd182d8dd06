/- Contracts of functions of the program, and what they lean on. -/
import Derived.Test.YthfpcebcfjlkmabW14
set_option linter.unusedSimpArgs false
set_option linter.unusedVariables false
namespace Go.Proofs.Ythfpcebcfjlkmab
open Go.RowKit
theorem sig_pos {l : List Nat} (h : 0 < sigL l) : 0 < nv l := by
  have ht := sigL_last h
  have h1 := nv_take_succ l (sigL l - 1)
  rw [show sigL l - 1 + 1 = sigL l by omega, nv_take_sig (Nat.le_refl _)] at h1
  have h2 : 4294967296 ^ (sigL l - 1) * 1 ≤ 4294967296 ^ (sigL l - 1) * l.getD (sigL l - 1) 0 := Nat.mul_le_mul_left _ (by omega)
  have h3 := Nat.pow_pos (n := sigL l - 1) (show 0 < 4294967296 by decide)
  omega
theorem sig_none {l : List Nat} (h : sigL l = 0) : nv l = 0 := by
  rw [← nv_take_sig (l := l) (i := 0) (by omega)]; rfl
theorem sig_one {l : List Nat} (h : sigL l = 1) : nv l = l.getD 0 0 := by
  rw [← nv_take_sig (l := l) (i := 1) (by omega), nv_take_succ]; simp

theorem DivMod_zero {w : World} {Ba : Nat} {Aa : Option Addr} {ma ca : Nat} {xa : List Nat} (ha : Rd Ba w 1 Aa ma ca (us xa)) {Bb : Nat} {Ab : Option Addr} {mb cb : Nat} {xb : List Nat} (hb : Rd Bb w 1 Ab mb cb (us xb)) (hLa : Lim xa) (hLb : Lim xb) (h0 : nv xb = 0) :
    Calls Try.prog 83 #[.slice Aa ma ca, .slice Ab mb cb] w fun e w2 => ∃ v, e = .returned v ∧ (fun v w2 => v = .tuple #[.slice none 0 0, .slice none 0 0, .int .i64 7] ∧ w.grownBy w2 none) v w2 := by
  have ha := ha.norm
  have ha_l := ha.ulen
  have ha_x := ha.max
  simp only [maxLen] at ha_x
  have ha_c := ha.cap
  have hb := hb.norm
  have hb_l := hb.ulen
  have hb_x := hb.max
  simp only [maxLen] at hb_x
  have hb_c := hb.cap
  have ha0 := ha
  have hb0 := hb
  have hsa := sigL_le xa
  have hsb := sigL_le xb
  have hta := nv_trimL xa
  have htb := nv_trimL xb
  have hla2 : (trimL xa).length = sigL xa := rfl
  have hlb2 : (trimL xb).length = sigL xb := rfl
  have hcc := cmpI_cases (nv (trimL xa)) (nv (trimL xb))
  have hsp := @sig_pos xb
  have hB := ext_refl w
  refine calls_of_W (vs := [.slice Aa ma ca, .slice Ab mb cb]) [4, 5, 6] Try.func83 rfl rfl rfl rfl ?_
  refine W.seq ?_
  refine W.region ?_
  refine WL.assign rfl rfl ?_
  refine WL.assign rfl rfl ?_
  refine WL.assign rfl rfl ?_
  refine WL.done ?_
  refine W.seq ?_
  refine W.region ?_
  refine WL.move rfl rfl ?_
  refine WL.call Try.func44 rfl Try.nm44 rfl rfl (sig_c ha) ?_
  rintro _ w11 ⟨rfl, hGw11⟩
  have hB := ext_trans hB hGw11
  have hb := hb0.ext hB
  refine WL.move rfl rfl ?_
  refine WL.call Try.func44 rfl Try.nm44 rfl rfl (sig_c hb) ?_
  rintro _ w12 ⟨rfl, hGw12⟩
  have hB := ext_trans hB hGw12
  refine WL.assign rfl rfl ?_
  refine WL.assign rfl rfl ?_
  refine WL.done ?_
  refine W.seq ?_
  refine W.seq ?_
  refine W.region ?_
  refine WL.move rfl rfl ?_
  refine WL.len Try.underlying23 rfl rfl ?_
  refine WL.eql rfl rfl rfl (fun c13 => ?_) (fun c13 => ?_)
  · refine WL.done ?_
    refine W.condT rfl ?_
    refine W.seq ?_
    refine W.region ?_
    refine WL.assign rfl rfl ?_
    refine WL.assign rfl rfl ?_
    refine WL.assign rfl rfl ?_
    refine WL.done ?_
    refine W.ret ?_
    refine ⟨_, rfl, ?_⟩
    exact ⟨rfl, hB⟩
  · exfalso
    omega

theorem DivMod_ok {w : World} {Ba : Nat} {Aa : Option Addr} {ma ca : Nat} {xa : List Nat} (ha : Rd Ba w 1 Aa ma ca (us xa)) {Bb : Nat} {Ab : Option Addr} {mb cb : Nat} {xb : List Nat} (hb : Rd Bb w 1 Ab mb cb (us xb)) (hLa : Lim xa) (hLb : Lim xb) (hpos : 0 < nv xb) (hsz : ma ≤ 536870912) :
    Calls Try.prog 83 #[.slice Aa ma ca, .slice Ab mb cb] w fun e w2 => ∃ v, e = .returned v ∧ (fun v w2 => ∃ A2 m2 c2 A3 m3 c3, v = .tuple #[.slice A2 m2 c2, .slice A3 m3 c3, .int .i64 0] ∧ w.grownBy w2 none ∧ Own w.heap.size w2 43 1 A2 m2 c2 (us (digs (nv xa / nv xb))) ∧ Own w.heap.size w2 43 1 A3 m3 c3 (us (digs (nv xa % nv xb))) ∧ m2 ≤ ma + 1 ∧ m3 ≤ ma + 2) v w2 := by
  have ha := ha.norm
  have ha_l := ha.ulen
  have ha_x := ha.max
  simp only [maxLen] at ha_x
  have ha_c := ha.cap
  have hb := hb.norm
  have hb_l := hb.ulen
  have hb_x := hb.max
  simp only [maxLen] at hb_x
  have hb_c := hb.cap
  have ha0 := ha
  have hb0 := hb
  have hsa := sigL_le xa
  have hsb := sigL_le xb
  have hta := nv_trimL xa
  have htb := nv_trimL xb
  have hla2 : (trimL xa).length = sigL xa := rfl
  have hlb2 : (trimL xb).length = sigL xb := rfl
  have hcc := cmpI_cases (nv (trimL xa)) (nv (trimL xb))
  have hB := ext_refl w
  refine calls_of_W (vs := [.slice Aa ma ca, .slice Ab mb cb]) [4, 5, 6] Try.func83 rfl rfl rfl rfl ?_
  refine W.seq ?_
  refine W.region ?_
  refine WL.assign rfl rfl ?_
  refine WL.assign rfl rfl ?_
  refine WL.assign rfl rfl ?_
  refine WL.done ?_
  refine W.seq ?_
  refine W.region ?_
  refine WL.move rfl rfl ?_
  refine WL.call Try.func44 rfl Try.nm44 rfl rfl (sig_c ha) ?_
  rintro _ w11 ⟨rfl, hGw11⟩
  have hB := ext_trans hB hGw11
  have ha := ha0.ext hB
  have hb := hb0.ext hB
  refine WL.move rfl rfl ?_
  refine WL.call Try.func44 rfl Try.nm44 rfl rfl (sig_c hb) ?_
  rintro _ w12 ⟨rfl, hGw12⟩
  have hB := ext_trans hB hGw12
  have ha := ha0.ext hB
  have hb := hb0.ext hB
  refine WL.assign rfl rfl ?_
  refine WL.assign rfl rfl ?_
  refine WL.done ?_
  refine W.seq ?_
  refine W.seq ?_
  refine W.region ?_
  refine WL.move rfl rfl ?_
  refine WL.len Try.underlying23 rfl rfl ?_
  refine WL.eql rfl rfl rfl (fun c13 => ?_) (fun c13 => ?_)
  · exfalso
    have := sig_none (l := xb) (by omega)
    omega
  · refine WL.done ?_
    refine W.condF rfl ?_
    refine W.skip ?_
    refine W.seq ?_
    refine W.seq ?_
    refine W.region ?_
    refine WL.move rfl rfl ?_
    refine WL.move rfl rfl ?_
    refine WL.call Try.func72 rfl Try.nm72 rfl rfl (Cmp_c (Rd.sig ha) (Rd.sig hb) (Lim.trim hLa) (Lim.trim hLb)) ?_
    rintro _ w14 ⟨rfl, hGw14⟩
    have hB := ext_trans hB hGw14
    have ha := ha0.ext hB
    have hb := hb0.ext hB
    refine WL.lss rfl rfl rfl (fun c15 => ?_) (fun c15 => ?_)
    · refine WL.done ?_
      refine W.condT rfl ?_
      refine W.seq ?_
      refine W.region ?_
      refine WL.move rfl rfl ?_
      refine WL.call Try.func46 rfl Try.nm46 rfl rfl (Trim_c (Rd.sig ha) (by omega)) ?_
      rintro _ w16 ⟨A17, m18, cp19, rfl, hGw16, hr, hm20⟩
      have hr := hr.low (b' := w.heap.size) hB.size
      have hB := ext_trans hB hGw16
      have hr_l := hr.rd.ulen
      refine WL.assign rfl rfl ?_
      refine WL.assign rfl rfl ?_
      refine WL.assign rfl rfl ?_
      refine WL.done ?_
      refine W.ret ?_
      refine ⟨_, rfl, ?_⟩
      rw [digs_trim hLa.trim, nv_trimL] at hr
      rw [Nat.div_eq_of_lt (by omega), Nat.mod_eq_of_lt (by omega)]
      have hrk := hr.rd.ulen
      have hdk := digs_len (nv_lt hLa)
      exact ⟨none, 0, 0, _, _, _, rfl, hB, World.ownsRow_nil _ _ _ _, hr, by omega, by omega⟩
    · refine WL.done ?_
      refine W.condF rfl ?_
      refine W.skip ?_
      refine W.seq ?_
      refine W.seq ?_
      refine W.region ?_
      refine WL.move rfl rfl ?_
      refine WL.len Try.underlying23 rfl rfl ?_
      refine WL.eql rfl rfl rfl (fun c21 => ?_) (fun c21 => ?_)
      · refine WL.done ?_
        refine W.condT rfl ?_
        refine W.seq ?_
        refine W.region ?_
        refine WL.move rfl rfl ?_
        refine WL.call Try.func46 rfl Try.nm46 rfl rfl (Trim_c (Rd.sig ha) (by omega)) ?_
        rintro _ w22 ⟨A23, m24, cp25, rfl, hGw22, hq, hm26⟩
        have hq := hq.low (b' := w.heap.size) hB.size
        have hB := ext_trans hB hGw22
        have hb := hb0.ext hB
        have hq_l := hq.rd.ulen
        have hq_k := hq.rd.ulen
        refine WL.assign rfl rfl ?_
        refine WL.done ?_
        refine W.seq ?_
        refine W.region ?_
        refine WL.move rfl rfl ?_
        refine WL.move rfl rfl ?_
        refine WL.index1 (0) Try.underlying23 Try.el43 rfl rfl (by omega) (by omega) (Rd.sig hb) rfl ?_
        refine WL.load Try.underlying43 rfl rfl (Rd.at_ (Rd.sig hb) (us_at (by omega))) rfl ?_
        have hs1 : sigL xb = 1 := by omega
        have hl0 := sigL_last (l := xb) (by omega)
        rw [hs1] at hl0
        have hl1 := trimL_getD0 xb 0
        have hl2 := hLb.trim.getD 0
        have hv1 := sig_one hs1
        have hqk : (trimL (trimL xa)).length ≤ (trimL xa).length := trimL_len _
        have hmo := Nat.mod_lt (nv (trimL (trimL xa))) (show (trimL xb).getD 0 0 > 0 by omega)
        refine WL.call Try.func43 rfl Try.nm43 rfl rfl (sdiv_c hq hB.size (Lim.trim (Lim.trim hLa)) (by omega) ((trimL xb).getD 0 0) (by omega) (by omega) (by omega)) ?_
        rintro _ w27 ⟨ys28, rfl, hGw27, hq2, hLys28, hlys28, hvhq2⟩
        have hB := ext_bel hB hGw27
        have hq2_l := hq2.rd.ulen
        refine WL.assign rfl rfl ?_
        refine WL.done ?_
        refine W.seq ?_
        refine W.region ?_
        refine WL.move rfl rfl ?_
        refine WL.call Try.func44 rfl Try.nm44 rfl rfl (sig_c hq2.rd) ?_
        rintro _ w29 ⟨rfl, hGw29⟩
        have hB := ext_trans hB hGw29
        have hq2 := hq2.ext hGw29
        refine WL.move rfl rfl ?_
        refine WL.conv (r := ((nv (trimL (trimL xa)) % ((trimL xb).getD 0 0) : Nat) : Int)) Try.underlying43 Try.underlying72 rfl (wu64 (by omega) (by omega) (by omega)) rfl ?_
        refine WL.call Try.func84 rfl Try.nm84 rfl rfl (Of_c (nv (trimL (trimL xa)) % ((trimL xb).getD 0 0)) (by omega) (by omega)) ?_
        rintro _ w30 ⟨A31, m32, cp33, rfl, hGw30, hr, hm34⟩
        have hr := hr.low (b' := w.heap.size) hB.size
        have hB := ext_trans hB hGw30
        have hq2 := hq2.ext hGw30
        have hr_l := hr.rd.ulen
        refine WL.assign rfl rfl ?_
        refine WL.assign rfl rfl ?_
        refine WL.assign rfl rfl ?_
        refine WL.done ?_
        refine W.ret ?_
        refine ⟨_, rfl, ?_⟩
        have h1 := hq2.sig
        rw [digs_trim hLys28, hvhq2, hl1, nv_trimL, nv_trimL, ← hv1] at h1
        rw [hl1, nv_trimL, nv_trimL, ← hv1] at hr
        have h5 := hq2.rd.ulen
        have h3 := h1.rd.ulen
        have h4 := digs_len (n := nv xa / nv xb) (k := ma) (Nat.lt_of_le_of_lt (Nat.div_le_self _ _) (by have := nv_lt hLa; rwa [ha_l] at this))
        have h6 := hr.rd.ulen
        have h7 := digs_len (n := nv xa % nv xb) (k := ma) (Nat.lt_of_le_of_lt (Nat.mod_le _ _) (by have := nv_lt hLa; rwa [ha_l] at this))
        exact ⟨_, _, _, _, _, _, rfl, hB, h1, hr, by omega, by omega⟩
      · refine WL.done ?_
        refine W.condF rfl ?_
        refine W.skip ?_
        refine W.seq ?_
        refine W.region ?_
        refine WL.move rfl rfl ?_
        refine WL.move rfl rfl ?_
        refine WL.call Try.func99 rfl Try.nm99 rfl rfl (longDivide_c (Rd.sig ha) (Rd.sig hb) (Lim.trim hLa) (Lim.trim hLb) (by omega) (sigL_mono hLa hLb (by omega)) (by rw [trimL_getD0]; exact sigL_last (by omega)) (by omega)) ?_
        rintro _ w35 ⟨A2, m2, c2, A3, m3, c3, rfl, hGw35, hq, hr, hmq, hmr⟩
        have hq := hq.low (b' := w.heap.size) hB.size
        have hr := hr.low (b' := w.heap.size) hB.size
        have hB := ext_trans hB hGw35
        have hq_l := hq.rd.ulen
        have hr_l := hr.rd.ulen
        rw [nv_trimL, nv_trimL] at hq hr
        refine WL.move rfl rfl ?_
        refine WL.extract rfl rfl rfl ?_
        refine WL.extract rfl rfl rfl ?_
        refine WL.assign rfl rfl ?_
        refine WL.assign rfl rfl ?_
        refine WL.done ?_
        refine W.seq ?_
        refine W.region ?_
        refine WL.move rfl rfl ?_
        refine WL.move rfl rfl ?_
        refine WL.assign rfl rfl ?_
        refine WL.assign rfl rfl ?_
        refine WL.assign rfl rfl ?_
        refine WL.done ?_
        refine W.ret ?_
        refine ⟨_, rfl, ?_⟩
        exact ⟨_, _, _, _, _, _, rfl, hB, hq, hr, by omega, by omega⟩

theorem div_uniq {a q r : Nat} (h : r < a) : (q * a + r) / a = q ∧ (q * a + r) % a = r := by
  obtain ⟨h1, h2⟩ := div_end (a := q * a + r) (q := q) (d := a) (r := r) rfl h
  exact ⟨h1.symm, h2.symm⟩
end Go.Proofs.Ythfpcebcfjlkmab
