/- Contracts of functions of the program, and what they lean on. -/
import Derived.Test.YthfpcebcfjlkmaaW14
set_option linter.unusedSimpArgs false
set_option linter.unusedVariables false
namespace Go.Proofs.Ythfpcebcfjlkmaa
open Go.RowKit
theorem sig_pos {l : List Nat} (h : 0 < sigL l) : 0 < nv l := by
  have ht := sigL_last h
  have h1 := nv_take_succ l (sigL l - 1)
  rw [show sigL l - 1 + 1 = sigL l by omega, nv_take_sig (Nat.le_refl _)] at h1
  have h2 : 4294967296 ^ (sigL l - 1) * 1 ≤ 4294967296 ^ (sigL l - 1) * l.getD (sigL l - 1) 0 := Nat.mul_le_mul_left _ (by omega)
  have h3 := Nat.pow_pos (n := sigL l - 1) (show 0 < 4294967296 by decide)
  omega
theorem sig_none {l : List Nat} (h : sigL l = 0) : nv l = 0 := by
  rw [← nv_take_sig (l := l) (i := 0) (by omega)]; rfl
theorem sig_one {l : List Nat} (h : sigL l = 1) : nv l = l.getD 0 0 := by
  rw [← nv_take_sig (l := l) (i := 1) (by omega), nv_take_succ]; simp

theorem DivMod_zero {w : World} {Ba : Nat} {Aa : Option Addr} {ma ca : Nat} {xa : List Nat} (ha : Rd Ba w 1 Aa ma ca (us xa)) {Bb : Nat} {Ab : Option Addr} {mb cb : Nat} {xb : List Nat} (hb : Rd Bb w 1 Ab mb cb (us xb)) (hLa : Lim xa) (hLb : Lim xb) (h0 : nv xb = 0) :
    Calls Try.prog 33 #[.slice Aa ma ca, .slice Ab mb cb] w fun e w2 => ∃ v, e = .returned v ∧ (fun v w2 => v = .tuple #[.slice none 0 0, .slice none 0 0, .int .i64 7] ∧ w.grownBy w2 none) v w2 := by
  have ha := ha.norm
  have ha_l := ha.ulen
  have ha_x := ha.max
  simp only [maxLen] at ha_x
  have ha_c := ha.cap
  have hb := hb.norm
  have hb_l := hb.ulen
  have hb_x := hb.max
  simp only [maxLen] at hb_x
  have hb_c := hb.cap
  have ha0 := ha
  have hb0 := hb
  have hsa := sigL_le xa
  have hsb := sigL_le xb
  have hta := nv_trimL xa
  have htb := nv_trimL xb
  have hla2 : (trimL xa).length = sigL xa := rfl
  have hlb2 : (trimL xb).length = sigL xb := rfl
  have hcc := cmpI_cases (nv (trimL xa)) (nv (trimL xb))
  have hsp := @sig_pos xb
  have hB := ext_refl w
  refine calls_of_W (vs := [.slice Aa ma ca, .slice Ab mb cb]) [4, 5, 6] Try.func33 rfl rfl rfl rfl ?_
  refine W.seq ?_
  refine W.region ?_
  refine WL.assign rfl rfl ?_
  refine WL.assign rfl rfl ?_
  refine WL.assign rfl rfl ?_
  refine WL.done ?_
  refine W.seq ?_
  refine W.region ?_
  refine WL.move rfl rfl ?_
  refine WL.call Try.func40 rfl Try.nm40 rfl rfl (sig_c ha) ?_
  rintro _ w11 ⟨rfl, hGw11⟩
  have hB := ext_trans hB hGw11
  have ha := ha0.ext hB
  have hb := hb0.ext hB
  refine WL.move rfl rfl ?_
  refine WL.call Try.func40 rfl Try.nm40 rfl rfl (sig_c hb) ?_
  rintro _ w12 ⟨rfl, hGw12⟩
  have hB := ext_trans hB hGw12
  have ha := ha0.ext hB
  have hb := hb0.ext hB
  refine WL.assign rfl rfl ?_
  refine WL.assign rfl rfl ?_
  refine WL.done ?_
  refine W.seq ?_
  refine W.seq ?_
  refine W.region ?_
  refine WL.move rfl rfl ?_
  refine WL.len Try.underlying23 rfl rfl ?_
  refine WL.eql rfl rfl rfl (fun c13 => ?_) (fun c13 => ?_)
  · refine WL.done ?_
    refine W.condT rfl ?_
    refine W.seq ?_
    refine W.region ?_
    refine WL.assign rfl rfl ?_
    refine WL.assign rfl rfl ?_
    refine WL.assign rfl rfl ?_
    refine WL.done ?_
    refine W.ret ?_
    refine ⟨_, rfl, ?_⟩
    exact ⟨rfl, hB⟩
  · exfalso
    omega

theorem DivMod_ok {w : World} {Ba : Nat} {Aa : Option Addr} {ma ca : Nat} {xa : List Nat} (ha : Rd Ba w 1 Aa ma ca (us xa)) {Bb : Nat} {Ab : Option Addr} {mb cb : Nat} {xb : List Nat} (hb : Rd Bb w 1 Ab mb cb (us xb)) (hLa : Lim xa) (hLb : Lim xb) (hpos : 0 < nv xb) (hsz : ma ≤ 536870912) :
    Calls Try.prog 33 #[.slice Aa ma ca, .slice Ab mb cb] w fun e w2 => ∃ v, e = .returned v ∧ (fun v w2 => ∃ A2 m2 c2 A3 m3 c3, v = .tuple #[.slice A2 m2 c2, .slice A3 m3 c3, .int .i64 0] ∧ w.grownBy w2 none ∧ Own w.heap.size w2 40 1 A2 m2 c2 (us (digs (nv xa / nv xb))) ∧ Own w.heap.size w2 40 1 A3 m3 c3 (us (digs (nv xa % nv xb))) ∧ m2 ≤ ma + 1 ∧ m3 ≤ ma + 2) v w2 := by
  have ha := ha.norm
  have ha_l := ha.ulen
  have ha_x := ha.max
  simp only [maxLen] at ha_x
  have ha_c := ha.cap
  have hb := hb.norm
  have hb_l := hb.ulen
  have hb_x := hb.max
  simp only [maxLen] at hb_x
  have hb_c := hb.cap
  have ha0 := ha
  have hb0 := hb
  have hsa := sigL_le xa
  have hsb := sigL_le xb
  have hta := nv_trimL xa
  have htb := nv_trimL xb
  have hla2 : (trimL xa).length = sigL xa := rfl
  have hlb2 : (trimL xb).length = sigL xb := rfl
  have hcc := cmpI_cases (nv (trimL xa)) (nv (trimL xb))
  have hB := ext_refl w
  refine calls_of_W (vs := [.slice Aa ma ca, .slice Ab mb cb]) [4, 5, 6] Try.func33 rfl rfl rfl rfl ?_
  refine W.seq ?_
  refine W.region ?_
  refine WL.assign rfl rfl ?_
  refine WL.assign rfl rfl ?_
  refine WL.assign rfl rfl ?_
  refine WL.done ?_
  refine W.seq ?_
  refine W.region ?_
  refine WL.move rfl rfl ?_
  refine WL.call Try.func40 rfl Try.nm40 rfl rfl (sig_c ha) ?_
  rintro _ w11 ⟨rfl, hGw11⟩
  have hB := ext_trans hB hGw11
  have ha := ha0.ext hB
  have hb := hb0.ext hB
  refine WL.move rfl rfl ?_
  refine WL.call Try.func40 rfl Try.nm40 rfl rfl (sig_c hb) ?_
  rintro _ w12 ⟨rfl, hGw12⟩
  have hB := ext_trans hB hGw12
  have ha := ha0.ext hB
  have hb := hb0.ext hB
  refine WL.assign rfl rfl ?_
  refine WL.assign rfl rfl ?_
  refine WL.done ?_
  refine W.seq ?_
  refine W.seq ?_
  refine W.region ?_
  refine WL.move rfl rfl ?_
  refine WL.len Try.underlying23 rfl rfl ?_
  refine WL.eql rfl rfl rfl (fun c13 => ?_) (fun c13 => ?_)
  · exfalso
    have := sig_none (l := xb) (by omega)
    omega
  · refine WL.done ?_
    refine W.condF rfl ?_
    refine W.skip ?_
    refine W.seq ?_
    refine W.seq ?_
    refine W.region ?_
    refine WL.move rfl rfl ?_
    refine WL.move rfl rfl ?_
    refine WL.call Try.func28 rfl Try.nm28 rfl rfl (Cmp_c (Rd.sig ha) (Rd.sig hb) (Lim.trim hLa) (Lim.trim hLb)) ?_
    rintro _ w14 ⟨rfl, hGw14⟩
    have hB := ext_trans hB hGw14
    have ha := ha0.ext hB
    have hb := hb0.ext hB
    refine WL.lss rfl rfl rfl (fun c15 => ?_) (fun c15 => ?_)
    · refine WL.done ?_
      refine W.condT rfl ?_
      refine W.seq ?_
      refine W.region ?_
      refine WL.move rfl rfl ?_
      refine WL.call Try.func19 rfl Try.nm19 rfl rfl (Trim_c (Rd.sig ha) (by omega)) ?_
      rintro _ w16 ⟨A17, m18, cp19, rfl, hGw16, hr, hm20⟩
      have hr := hr.low (b' := w.heap.size) hB.size
      have hB := ext_trans hB hGw16
      have ha := ha0.ext hB
      have hb := hb0.ext hB
      have hr_l := hr.rd.ulen
      refine WL.assign rfl rfl ?_
      refine WL.assign rfl rfl ?_
      refine WL.assign rfl rfl ?_
      refine WL.done ?_
      refine W.ret ?_
      refine ⟨_, rfl, ?_⟩
      rw [digs_trim hLa.trim, nv_trimL] at hr
      rw [Nat.div_eq_of_lt (by omega), Nat.mod_eq_of_lt (by omega)]
      have hrk := hr.rd.ulen
      have hdk := digs_len (nv_lt hLa)
      exact ⟨none, 0, 0, _, _, _, rfl, hB, World.ownsRow_nil _ _ _ _, hr, by omega, by omega⟩
    · refine WL.done ?_
      refine W.condF rfl ?_
      refine W.skip ?_
      refine W.seq ?_
      refine W.seq ?_
      refine W.region ?_
      refine WL.move rfl rfl ?_
      refine WL.len Try.underlying23 rfl rfl ?_
      refine WL.eql rfl rfl rfl (fun c21 => ?_) (fun c21 => ?_)
      · refine WL.done ?_
        refine W.condT rfl ?_
        refine W.seq ?_
        refine W.region ?_
        refine WL.move rfl rfl ?_
        refine WL.call Try.func19 rfl Try.nm19 rfl rfl (Trim_c (Rd.sig ha) (by omega)) ?_
        rintro _ w22 ⟨A23, m24, cp25, rfl, hGw22, hq, hm26⟩
        have hq := hq.low (b' := w.heap.size) hB.size
        have hB := ext_trans hB hGw22
        have ha := ha0.ext hB
        have hb := hb0.ext hB
        have hq_l := hq.rd.ulen
        have hq_k := hq.rd.ulen
        refine WL.assign rfl rfl ?_
        refine WL.done ?_
        refine W.seq ?_
        refine W.region ?_
        refine WL.move rfl rfl ?_
        refine WL.move rfl rfl ?_
        refine WL.index1 (0) Try.underlying23 Try.el40 rfl rfl (by omega) (by omega) (Rd.sig hb) rfl ?_
        refine WL.load Try.underlying40 rfl rfl (Rd.at_ (Rd.sig hb) (us_at (by omega))) rfl ?_
        have hs1 : sigL xb = 1 := by omega
        have hl0 := sigL_last (l := xb) (by omega)
        rw [hs1] at hl0
        have hl1 := trimL_getD0 xb 0
        have hl2 := hLb.trim.getD 0
        have hv1 := sig_one hs1
        have hqk : (trimL (trimL xa)).length ≤ (trimL xa).length := trimL_len _
        have hmo := Nat.mod_lt (nv (trimL (trimL xa))) (show (trimL xb).getD 0 0 > 0 by omega)
        refine WL.call Try.func50 rfl Try.nm50 rfl rfl (sdiv_c hq hB.size (Lim.trim (Lim.trim hLa)) (by omega) ((trimL xb).getD 0 0) (by omega) (by omega) (by omega)) ?_
        rintro _ w27 ⟨ys28, rfl, hGw27, hq2, hLys28, hlys28, hvhq2⟩
        have hB := ext_bel hB hGw27
        have ha := ha0.ext hB
        have hb := hb0.ext hB
        have hq2_l := hq2.rd.ulen
        refine WL.assign rfl rfl ?_
        refine WL.done ?_
        refine W.seq ?_
        refine W.region ?_
        refine WL.move rfl rfl ?_
        refine WL.call Try.func40 rfl Try.nm40 rfl rfl (sig_c hq2.rd) ?_
        rintro _ w29 ⟨rfl, hGw29⟩
        have hB := ext_trans hB hGw29
        have ha := ha0.ext hB
        have hb := hb0.ext hB
        have hq2 := hq2.ext hGw29
        refine WL.move rfl rfl ?_
        refine WL.conv (r := ((nv (trimL (trimL xa)) % ((trimL xb).getD 0 0) : Nat) : Int)) Try.underlying40 Try.underlying24 rfl (wu64 (by omega) (by omega) (by omega)) rfl ?_
        refine WL.call Try.func21 rfl Try.nm21 rfl rfl (Of_c (nv (trimL (trimL xa)) % ((trimL xb).getD 0 0)) (by omega) (by omega)) ?_
        rintro _ w30 ⟨A31, m32, cp33, rfl, hGw30, hr, hm34⟩
        have hr := hr.low (b' := w.heap.size) hB.size
        have hB := ext_trans hB hGw30
        have ha := ha0.ext hB
        have hb := hb0.ext hB
        have hq2 := hq2.ext hGw30
        have hr_l := hr.rd.ulen
        refine WL.assign rfl rfl ?_
        refine WL.assign rfl rfl ?_
        refine WL.assign rfl rfl ?_
        refine WL.done ?_
        refine W.ret ?_
        refine ⟨_, rfl, ?_⟩
        have h1 := hq2.sig
        rw [digs_trim hLys28, hvhq2, hl1, nv_trimL, nv_trimL, ← hv1] at h1
        rw [hl1, nv_trimL, nv_trimL, ← hv1] at hr
        have h5 := hq2.rd.ulen
        have h3 := h1.rd.ulen
        have h4 := digs_len (n := nv xa / nv xb) (k := ma) (Nat.lt_of_le_of_lt (Nat.div_le_self _ _) (by have := nv_lt hLa; rwa [ha_l] at this))
        have h6 := hr.rd.ulen
        have h7 := digs_len (n := nv xa % nv xb) (k := ma) (Nat.lt_of_le_of_lt (Nat.mod_le _ _) (by have := nv_lt hLa; rwa [ha_l] at this))
        exact ⟨_, _, _, _, _, _, rfl, hB, h1, hr, by omega, by omega⟩
      · refine WL.done ?_
        refine W.condF rfl ?_
        refine W.skip ?_
        refine W.seq ?_
        refine W.region ?_
        refine WL.move rfl rfl ?_
        refine WL.move rfl rfl ?_
        refine WL.call Try.func51 rfl Try.nm51 rfl rfl (longDivide_c (Rd.sig ha) (Rd.sig hb) (Lim.trim hLa) (Lim.trim hLb) (by omega) (sigL_mono hLa hLb (by omega)) (by rw [trimL_getD0]; exact sigL_last (by omega)) (by omega)) ?_
        rintro _ w35 ⟨A2, m2, c2, A3, m3, c3, rfl, hGw35, hq, hr, hmq, hmr⟩
        have hq := hq.low (b' := w.heap.size) hB.size
        have hr := hr.low (b' := w.heap.size) hB.size
        have hB := ext_trans hB hGw35
        have ha := ha0.ext hB
        have hb := hb0.ext hB
        have hq_l := hq.rd.ulen
        have hr_l := hr.rd.ulen
        rw [nv_trimL, nv_trimL] at hq hr
        refine WL.move rfl rfl ?_
        refine WL.extract rfl rfl rfl ?_
        refine WL.extract rfl rfl rfl ?_
        refine WL.assign rfl rfl ?_
        refine WL.assign rfl rfl ?_
        refine WL.done ?_
        refine W.seq ?_
        refine W.region ?_
        refine WL.move rfl rfl ?_
        refine WL.move rfl rfl ?_
        refine WL.assign rfl rfl ?_
        refine WL.assign rfl rfl ?_
        refine WL.assign rfl rfl ?_
        refine WL.done ?_
        refine W.ret ?_
        refine ⟨_, rfl, ?_⟩
        exact ⟨_, _, _, _, _, _, rfl, hB, hq, hr, by omega, by omega⟩

theorem div_uniq {a q r : Nat} (h : r < a) : (q * a + r) / a = q ∧ (q * a + r) % a = r := by
  obtain ⟨h1, h2⟩ := div_end (a := q * a + r) (q := q) (d := a) (r := r) rfl h
  exact ⟨h1.symm, h2.symm⟩

theorem NatDivisions_ge {w : World} {Ba : Nat} {Aa : Option Addr} {ma ca : Nat} {xa : List Nat} (ha : Rd Ba w 1 Aa ma ca (us xa)) {Bb : Nat} {Ab : Option Addr} {mb cb : Nat} {xb : List Nat} (hb : Rd Bb w 1 Ab mb cb (us xb)) {Bc : Nat} {Ac : Option Addr} {mc cc : Nat} {xc : List Nat} (hc : Rd Bc w 1 Ac mc cc (us xc)) (hLa : Lim xa) (hLb : Lim xb) (hLc : Lim xc) (hcm : nv xa ≤ nv xc) :
    Calls Try.prog 8 #[.slice Aa ma ca, .slice Ab mb cb, .slice Ac mc cc] w fun e w2 => ∃ v, e = .returned v ∧ (fun v w2 => v = .bool true ∧ w.grownBy w2 none) v w2 := by
  have ha := ha.norm
  have ha_l := ha.ulen
  have ha_x := ha.max
  simp only [maxLen] at ha_x
  have ha_c := ha.cap
  have hb := hb.norm
  have hb_l := hb.ulen
  have hb_x := hb.max
  simp only [maxLen] at hb_x
  have hb_c := hb.cap
  have hc := hc.norm
  have hc_l := hc.ulen
  have hc_x := hc.max
  simp only [maxLen] at hc_x
  have hc_c := hc.cap
  have ha0 := ha
  have hb0 := hb
  have hc0 := hc
  have hcc := cmpI_cases (nv xc) (nv xa)
  have hlit : cmpI (nv [2]) (nv [1]) = 1 := by decide
  have hB := ext_refl w
  refine calls_of_W (vs := [.slice Aa ma ca, .slice Ab mb cb, .slice Ac mc cc]) [6] Try.func8 rfl rfl rfl rfl ?_
  refine W.seq ?_
  refine W.region ?_
  refine WL.assign rfl rfl ?_
  refine WL.done ?_
  refine W.seq ?_
  refine W.seq ?_
  refine W.region ?_
  refine WL.move rfl rfl ?_
  refine WL.move rfl rfl ?_
  refine WL.move rfl rfl ?_
  refine WL.lit1 (b := w.heap.size) Try.underlying39 Try.el23 rfl rfl rfl rfl (by intro v hv; simp only [List.mem_cons, List.not_mem_nil, or_false] at hv; rcases hv with rfl | rfl | rfl <;> rfl) (Nat.le_refl _) rfl ?_
  rintro A11 w12 - hO13 hGw12
  have hO13 := hO13.low (b' := w.heap.size) hB.size
  have hB := ext_trans hB hGw12
  have ha := ha0.ext hB
  have hb := hb0.ext hB
  have hc := hc0.ext hB
  have hN14 : NatsR w12.heap.size w12 [.slice Aa ma ca, .slice Ab mb cb, .slice Ac mc cc] [xa, xb, xc] := (NatsR.cons ha.norm (NatsR.cons hb.norm (NatsR.cons hc.norm (NatsR.nil _ _))))
  refine WL.call Try.func15 rfl Try.nm15 rfl rfl (long_c hO13.rd hN14 (20) (by omega)) ?_
  rintro _ w15 ⟨b16, rfl, hGw15, hlong⟩
  have hB := ext_trans hB hGw15
  have ha := ha0.ext hB
  have hb := hb0.ext hB
  have hc := hc0.ext hB
  have hO13 := hO13.ext hGw15
  refine WL.done ?_
  refine W.cond2 rfl (fun c17 => ?_) (fun c17 => ?_)
  · skip
    refine W.seq ?_
    refine W.region ?_
    refine WL.assign rfl rfl ?_
    refine WL.done ?_
    refine W.ret ?_
    refine ⟨_, rfl, ?_⟩
    exact ⟨rfl, hB⟩
  · skip
    have hla : xa.length ≤ 20 := hlong c17 0 (by simp)
    have hlb : xb.length ≤ 20 := hlong c17 1 (by simp)
    have hlc : xc.length ≤ 20 := hlong c17 2 (by simp)
    refine W.skip ?_
    refine W.seq ?_
    refine W.seq ?_
    refine W.region ?_
    refine WL.move rfl rfl ?_
    refine WL.move rfl rfl ?_
    refine WL.call Try.func28 rfl Try.nm28 rfl rfl (Cmp_c hc ha hLc hLa) ?_
    rintro _ w18 ⟨rfl, hGw18⟩
    have hB := ext_trans hB hGw18
    have ha := ha0.ext hB
    have hb := hb0.ext hB
    have hc := hc0.ext hB
    have hO13 := hO13.ext hGw18
    refine WL.geq rfl rfl rfl (fun c19 => ?_) (fun c19 => ?_)
    · refine WL.done ?_
      refine W.condT rfl ?_
      refine W.seq ?_
      refine W.region ?_
      refine WL.lit1 (b := w18.heap.size) Try.underlying23 Try.el40 rfl rfl rfl rfl (by intro v hv; simp only [List.mem_cons, List.not_mem_nil, or_false] at hv; rcases hv with rfl <;> rfl) (Nat.le_refl _) rfl ?_
      rintro A20 w21 - hO22 hGw21
      have hO22 := hO22.low (b' := w.heap.size) hB.size
      have hB := ext_trans hB hGw21
      have ha := ha0.ext hB
      have hb := hb0.ext hB
      have hc := hc0.ext hB
      have hO13 := hO13.ext hGw21
      change Own _ _ _ _ _ _ _ (us [2]) at hO22
      refine WL.lit1 (b := w21.heap.size) Try.underlying23 Try.el40 rfl rfl rfl rfl (by intro v hv; simp only [List.mem_cons, List.not_mem_nil, or_false] at hv; rcases hv with rfl <;> rfl) (Nat.le_refl _) rfl ?_
      rintro A23 w24 - hO25 hGw24
      have hO25 := hO25.low (b' := w.heap.size) hB.size
      have hB := ext_trans hB hGw24
      have ha := ha0.ext hB
      have hb := hb0.ext hB
      have hc := hc0.ext hB
      have hO13 := hO13.ext hGw24
      have hO22 := hO22.ext hGw24
      change Own _ _ _ _ _ _ _ (us [1]) at hO25
      refine WL.call Try.func28 rfl Try.nm28 rfl rfl (Cmp_c hO22.rd hO25.rd (by intro x hx; simp only [List.mem_cons, List.not_mem_nil, or_false] at hx; omega) (by intro x hx; simp only [List.mem_cons, List.not_mem_nil, or_false] at hx; omega)) ?_
      rintro _ w26 ⟨rfl, hGw26⟩
      have hB := ext_trans hB hGw26
      have ha := ha0.ext hB
      have hb := hb0.ext hB
      have hc := hc0.ext hB
      have hO13 := hO13.ext hGw26
      have hO22 := hO22.ext hGw26
      have hO25 := hO25.ext hGw26
      refine WL.eql rfl rfl rfl (fun c27 => ?_) (fun c27 => ?_)
      · refine WL.assign rfl rfl ?_
        refine WL.done ?_
        refine W.ret ?_
        refine ⟨_, rfl, ?_⟩
        exact ⟨rfl, hB⟩
      · exfalso
        omega
    · exfalso
      omega

theorem NatDivisions_lt {w : World} {Ba : Nat} {Aa : Option Addr} {ma ca : Nat} {xa : List Nat} (ha : Rd Ba w 1 Aa ma ca (us xa)) {Bb : Nat} {Ab : Option Addr} {mb cb : Nat} {xb : List Nat} (hb : Rd Bb w 1 Ab mb cb (us xb)) {Bc : Nat} {Ac : Option Addr} {mc cc : Nat} {xc : List Nat} (hc : Rd Bc w 1 Ac mc cc (us xc)) (hLa : Lim xa) (hLb : Lim xb) (hLc : Lim xc) (hcm : nv xc < nv xa) :
    Calls Try.prog 8 #[.slice Aa ma ca, .slice Ab mb cb, .slice Ac mc cc] w fun e w2 => ∃ v, e = .returned v ∧ (fun v w2 => v = .bool true ∧ w.grownBy w2 none) v w2 := by
  have ha := ha.norm
  have ha_l := ha.ulen
  have ha_x := ha.max
  simp only [maxLen] at ha_x
  have ha_c := ha.cap
  have hb := hb.norm
  have hb_l := hb.ulen
  have hb_x := hb.max
  simp only [maxLen] at hb_x
  have hb_c := hb.cap
  have hc := hc.norm
  have hc_l := hc.ulen
  have hc_x := hc.max
  simp only [maxLen] at hc_x
  have hc_c := hc.cap
  have ha0 := ha
  have hb0 := hb
  have hc0 := hc
  have hcc := cmpI_cases (nv xc) (nv xa)
  have hlit : cmpI (nv [2]) (nv [1]) = 1 := by decide
  have hB := ext_refl w
  refine calls_of_W (vs := [.slice Aa ma ca, .slice Ab mb cb, .slice Ac mc cc]) [6] Try.func8 rfl rfl rfl rfl ?_
  refine W.seq ?_
  refine W.region ?_
  refine WL.assign rfl rfl ?_
  refine WL.done ?_
  refine W.seq ?_
  refine W.seq ?_
  refine W.region ?_
  refine WL.move rfl rfl ?_
  refine WL.move rfl rfl ?_
  refine WL.move rfl rfl ?_
  refine WL.lit1 (b := w.heap.size) Try.underlying39 Try.el23 rfl rfl rfl rfl (by intro v hv; simp only [List.mem_cons, List.not_mem_nil, or_false] at hv; rcases hv with rfl | rfl | rfl <;> rfl) (Nat.le_refl _) rfl ?_
  rintro A11 w12 - hO13 hGw12
  have hO13 := hO13.low (b' := w.heap.size) hB.size
  have hB := ext_trans hB hGw12
  have ha := ha0.ext hB
  have hb := hb0.ext hB
  have hc := hc0.ext hB
  have hN14 : NatsR w12.heap.size w12 [.slice Aa ma ca, .slice Ab mb cb, .slice Ac mc cc] [xa, xb, xc] := (NatsR.cons ha.norm (NatsR.cons hb.norm (NatsR.cons hc.norm (NatsR.nil _ _))))
  refine WL.call Try.func15 rfl Try.nm15 rfl rfl (long_c hO13.rd hN14 (20) (by omega)) ?_
  rintro _ w15 ⟨b16, rfl, hGw15, hlong⟩
  have hB := ext_trans hB hGw15
  have ha := ha0.ext hB
  have hb := hb0.ext hB
  have hc := hc0.ext hB
  have hO13 := hO13.ext hGw15
  refine WL.done ?_
  refine W.cond2 rfl (fun c17 => ?_) (fun c17 => ?_)
  · skip
    refine W.seq ?_
    refine W.region ?_
    refine WL.assign rfl rfl ?_
    refine WL.done ?_
    refine W.ret ?_
    refine ⟨_, rfl, ?_⟩
    exact ⟨rfl, hB⟩
  · skip
    have hla : xa.length ≤ 20 := hlong c17 0 (by simp)
    have hlb : xb.length ≤ 20 := hlong c17 1 (by simp)
    have hlc : xc.length ≤ 20 := hlong c17 2 (by simp)
    refine W.skip ?_
    refine W.seq ?_
    refine W.seq ?_
    refine W.region ?_
    refine WL.move rfl rfl ?_
    refine WL.move rfl rfl ?_
    refine WL.call Try.func28 rfl Try.nm28 rfl rfl (Cmp_c hc ha hLc hLa) ?_
    rintro _ w18 ⟨rfl, hGw18⟩
    have hB := ext_trans hB hGw18
    have ha := ha0.ext hB
    have hb := hb0.ext hB
    have hc := hc0.ext hB
    have hO13 := hO13.ext hGw18
    refine WL.geq rfl rfl rfl (fun c19 => ?_) (fun c19 => ?_)
    · exfalso
      omega
    · refine WL.done ?_
      refine W.condF rfl ?_
      refine W.skip ?_
      refine W.seq ?_
      refine W.region ?_
      refine WL.move rfl rfl ?_
      refine WL.move rfl rfl ?_
      refine WL.lit1 (b := w18.heap.size) Try.underlying39 Try.el23 rfl rfl rfl rfl (by intro v hv; simp only [List.mem_cons, List.not_mem_nil, or_false] at hv; rcases hv with rfl | rfl <;> rfl) (Nat.le_refl _) rfl ?_
      rintro A20 w21 - hO22 hGw21
      have hO22 := hO22.low (b' := w.heap.size) hB.size
      have hB := ext_trans hB hGw21
      have ha := ha0.ext hB
      have hb := hb0.ext hB
      have hc := hc0.ext hB
      have hO13 := hO13.ext hGw21
      have hN23 : NatsR w21.heap.size w21 [.slice Ab mb cb, .slice Aa ma ca] [xb, xa] := (NatsR.cons hb.norm (NatsR.cons ha.norm (NatsR.nil _ _)))
      refine WL.call Try.func31 rfl Try.nm31 rfl rfl (Mul_c hO22.rd hN23 (LimAll.cons hLb (LimAll.cons hLa LimAll.nil)) 20 (LenAll.cons (by first | omega | (simp; done) | (simp; omega)) (LenAll.cons (by first | omega | (simp; done) | (simp; omega)) (LenAll.nil _))) (by simp)) ?_
      rintro _ w24 ⟨A25, m26, cp27, rfl, hGw24, hO28, hm29⟩
      have hO28 := hO28.low (b' := w.heap.size) hB.size
      have hB := ext_trans hB hGw24
      have ha := ha0.ext hB
      have hb := hb0.ext hB
      have hc := hc0.ext hB
      have hO13 := hO13.ext hGw24
      have hO22 := hO22.ext hGw24
      have hO28_l := hO28.rd.ulen
      try simp only [List.length_cons, List.length_nil] at hm29
      refine WL.move rfl rfl ?_
      refine WL.lit1 (b := w24.heap.size) Try.underlying39 Try.el23 rfl rfl rfl rfl (by intro v hv; simp only [List.mem_cons, List.not_mem_nil, or_false] at hv; rcases hv with rfl | rfl <;> rfl) (Nat.le_refl _) rfl ?_
      rintro A30 w31 - hO32 hGw31
      have hO32 := hO32.low (b' := w.heap.size) hB.size
      have hB := ext_trans hB hGw31
      have ha := ha0.ext hB
      have hb := hb0.ext hB
      have hc := hc0.ext hB
      have hO13 := hO13.ext hGw31
      have hO22 := hO22.ext hGw31
      have hO28 := hO28.ext hGw31
      have hN33 : NatsR w31.heap.size w31 [.slice A25 m26 cp27, .slice Ac mc cc] [digs (prodN ([xb, xa])), xc] := (NatsR.cons hO28.rd.norm (NatsR.cons hc.norm (NatsR.nil _ _)))
      refine WL.call Try.func29 rfl Try.nm29 rfl rfl (Add_c hO32.rd hN33 (LimAll.cons (digs_lim _) (LimAll.cons hLc LimAll.nil)) 41 (LenAll.cons (by first | omega | (simp; done) | (simp; omega)) (LenAll.cons (by first | omega | (simp; done) | (simp; omega)) (LenAll.nil _))) (by omega) (by simp)) ?_
      rintro _ w34 ⟨A35, m36, cp37, rfl, hGw34, hO38, hm39⟩
      have hO38 := hO38.low (b' := w.heap.size) hB.size
      have hB := ext_trans hB hGw34
      have ha := ha0.ext hB
      have hb := hb0.ext hB
      have hc := hc0.ext hB
      have hO13 := hO13.ext hGw34
      have hO22 := hO22.ext hGw34
      have hO28 := hO28.ext hGw34
      have hO32 := hO32.ext hGw34
      have hO38_l := hO38.rd.ulen
      refine WL.move rfl rfl ?_
      refine WL.call Try.func33 rfl Try.nm33 rfl rfl (DivMod_ok hO38.rd ha (digs_lim _) hLa (by omega) (by omega)) ?_
      rintro _ w40 ⟨A41, m42, cp43, A44, m45, cp46, rfl, hGw40, hdq, hdr, hm47, hm48⟩
      have hdq := hdq.low (b' := w.heap.size) hB.size
      have hdr := hdr.low (b' := w.heap.size) hB.size
      have hB := ext_trans hB hGw40
      have ha := ha0.ext hB
      have hb := hb0.ext hB
      have hc := hc0.ext hB
      have hO13 := hO13.ext hGw40
      have hO22 := hO22.ext hGw40
      have hO28 := hO28.ext hGw40
      have hO32 := hO32.ext hGw40
      have hO38 := hO38.ext hGw40
      have hdq_l := hdq.rd.ulen
      have hdr_l := hdr.rd.ulen
      have hval : nv (digs (sumN [digs (prodN [xb, xa]), xc])) = nv xb * nv xa + nv xc := by simp
      obtain ⟨hdv1, hdv2⟩ := div_uniq (q := nv xb) hcm
      refine WL.move rfl rfl ?_
      refine WL.extract rfl rfl rfl ?_
      refine WL.extract rfl rfl rfl ?_
      refine WL.extract rfl rfl rfl ?_
      refine WL.assign rfl rfl ?_
      refine WL.assign rfl rfl ?_
      refine WL.assign rfl rfl ?_
      refine WL.done ?_
      refine W.seq ?_
      refine W.region ?_
      refine WL.move rfl rfl ?_
      refine WL.eql rfl rfl rfl (fun c49 => ?_) (fun c49 => ?_)
      · refine WL.move rfl rfl ?_
        refine WL.take rfl ?_
        refine WL.move rfl rfl ?_
        refine WL.take rfl ?_
        refine WL.move rfl rfl ?_
        refine WL.take rfl ?_
        refine WL.call Try.func19 rfl Try.nm19 rfl rfl (Trim_c hb (by omega)) ?_
        rintro _ w50 ⟨A51, m52, cp53, rfl, hGw50, hO54, hm55⟩
        have hO54 := hO54.low (b' := w.heap.size) hB.size
        have hB := ext_trans hB hGw50
        have ha := ha0.ext hB
        have hb := hb0.ext hB
        have hc := hc0.ext hB
        have hO13 := hO13.ext hGw50
        have hO22 := hO22.ext hGw50
        have hO28 := hO28.ext hGw50
        have hO32 := hO32.ext hGw50
        have hO38 := hO38.ext hGw50
        have hdq := hdq.ext hGw50
        have hdr := hdr.ext hGw50
        have hO54_l := hO54.rd.ulen
        refine WL.take rfl ?_
        refine WL.call Try.func18 rfl Try.nm18 rfl rfl (same_t hdq.rd hO54.rd (by rw [digs_trim hLb]; exact digs_congr (by rw [hval]; exact hdv1))) ?_
        rintro _ w56 ⟨rfl, hGw56⟩
        have hB := ext_trans hB hGw56
        have ha := ha0.ext hB
        have hb := hb0.ext hB
        have hc := hc0.ext hB
        have hO13 := hO13.ext hGw56
        have hO22 := hO22.ext hGw56
        have hO28 := hO28.ext hGw56
        have hO32 := hO32.ext hGw56
        have hO38 := hO38.ext hGw56
        have hdq := hdq.ext hGw56
        have hdr := hdr.ext hGw56
        have hO54 := hO54.ext hGw56
        refine WL.pick rfl rfl rfl ?_
        refine WL.move rfl rfl ?_
        refine WL.take rfl ?_
        refine WL.move rfl rfl ?_
        refine WL.take rfl ?_
        refine WL.move rfl rfl ?_
        refine WL.take rfl ?_
        refine WL.call Try.func19 rfl Try.nm19 rfl rfl (Trim_c hc (by omega)) ?_
        rintro _ w57 ⟨A58, m59, cp60, rfl, hGw57, hO61, hm62⟩
        have hO61 := hO61.low (b' := w.heap.size) hB.size
        have hB := ext_trans hB hGw57
        have ha := ha0.ext hB
        have hb := hb0.ext hB
        have hc := hc0.ext hB
        have hO13 := hO13.ext hGw57
        have hO22 := hO22.ext hGw57
        have hO28 := hO28.ext hGw57
        have hO32 := hO32.ext hGw57
        have hO38 := hO38.ext hGw57
        have hdq := hdq.ext hGw57
        have hdr := hdr.ext hGw57
        have hO54 := hO54.ext hGw57
        have hO61_l := hO61.rd.ulen
        refine WL.take rfl ?_
        refine WL.call Try.func18 rfl Try.nm18 rfl rfl (same_t hdr.rd hO61.rd (by rw [digs_trim hLc]; exact digs_congr (by rw [hval]; exact hdv2))) ?_
        rintro _ w63 ⟨rfl, hGw63⟩
        have hB := ext_trans hB hGw63
        have ha := ha0.ext hB
        have hb := hb0.ext hB
        have hc := hc0.ext hB
        have hO13 := hO13.ext hGw63
        have hO22 := hO22.ext hGw63
        have hO28 := hO28.ext hGw63
        have hO32 := hO32.ext hGw63
        have hO38 := hO38.ext hGw63
        have hdq := hdq.ext hGw63
        have hdr := hdr.ext hGw63
        have hO54 := hO54.ext hGw63
        have hO61 := hO61.ext hGw63
        refine WL.pick rfl rfl rfl ?_
        refine WL.assign rfl rfl ?_
        refine WL.done ?_
        refine W.ret ?_
        refine ⟨_, rfl, ?_⟩
        exact ⟨rfl, hB⟩
      · exfalso
        omega

theorem NatDivisions_c {w : World} {Ba : Nat} {Aa : Option Addr} {ma ca : Nat} {xa : List Nat} (ha : Rd Ba w 1 Aa ma ca (us xa)) {Bb : Nat} {Ab : Option Addr} {mb cb : Nat} {xb : List Nat} (hb : Rd Bb w 1 Ab mb cb (us xb)) {Bc : Nat} {Ac : Option Addr} {mc cc : Nat} {xc : List Nat} (hc : Rd Bc w 1 Ac mc cc (us xc)) (hLa : Lim xa) (hLb : Lim xb) (hLc : Lim xc) : Calls Try.prog 8 #[.slice Aa ma ca, .slice Ab mb cb, .slice Ac mc cc] w fun e w2 => ∃ v, e = .returned v ∧ (fun v w2 => v = .bool true ∧ w.grownBy w2 none) v w2 := by
  rcases Nat.lt_or_ge (nv xc) (nv xa) with h | h
  · exact NatDivisions_lt ha hb hc hLa hLb hLc h
  · exact NatDivisions_ge ha hb hc hLa hLb hLc h
end Go.Proofs.Ythfpcebcfjlkmaa
