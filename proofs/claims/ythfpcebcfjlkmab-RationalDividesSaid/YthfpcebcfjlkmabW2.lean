/- Contracts of functions of the program, and what they lean on. -/
import Derived.Test.YthfpcebcfjlkmabFacts
import Derived.Test.YthfpcebcfjlkmabPL3
set_option linter.unusedSimpArgs false
set_option linter.unusedVariables false
namespace Go.Proofs.Ythfpcebcfjlkmab
open Go.RowKit
theorem sig_c {w : World} {Ba : Nat} {Aa : Option Addr} {ma ca : Nat} {xa : List Nat} (ha : Rd Ba w 1 Aa ma ca (us xa)) :
    Calls Try.prog 44 #[.slice Aa ma ca] w fun e w2 => ∃ v, e = .returned v ∧ (fun v w2 => v = .slice Aa (sigL xa) ca ∧ w.grownBy w2 none) v w2 := by
  have ha := ha.norm
  have ha_l := ha.ulen
  have ha_x := ha.max
  simp only [maxLen] at ha_x
  have ha_c := ha.cap
  have ha0 := ha
  have hB := ext_refl w
  refine calls_of_W (vs := [.slice Aa ma ca]) [2] Try.func44 rfl rfl rfl rfl ?_
  refine W.seq ?_
  refine W.region ?_
  refine WL.assign rfl rfl ?_
  refine WL.done ?_
  refine W.seq ?_
  refine W.region ?_
  refine WL.move rfl rfl ?_
  refine WL.len Try.underlying23 rfl rfl ?_
  refine WL.assign rfl rfl ?_
  refine WL.done ?_
  refine W.seq ?_
  refine W.block ?_
  refine W.loop (σ := Nat) (fun k w1 => w = w1 ∧ k ≤ ma ∧ sigL xa ≤ k) (fun k => [(0, .slice Aa ma ca), (3, .int .i64 ((k : Nat) : Int))]) (fun k => k) ma ?_ ?_ ?_
  · exact ⟨rfl, Nat.le_refl _, ha_l ▸ sigL_le xa⟩
  · exact ⟨rfl, iv (by omega), trivial⟩
  · rintro k w11 ⟨rfl, hk, hs⟩
    refine W.seq ?_
    refine W.seq ?_
    refine W.region ?_
    refine WL.move rfl rfl ?_
    refine WL.gtr rfl rfl rfl (fun c12 => ?_) (fun c12 => ?_)
    · refine WL.move rfl rfl ?_
      refine WL.take rfl ?_
      refine WL.move rfl rfl ?_
      refine WL.take rfl ?_
      refine WL.move rfl rfl ?_
      refine WL.take rfl ?_
      refine WL.sub (r := ((k - 1 : Nat) : Int)) rfl rfl (wi64 (by omega) (by omega) (by omega)) rfl ?_
      refine WL.take rfl ?_
      refine WL.index1 (k - 1) Try.underlying23 Try.el43 rfl rfl (by omega) (by omega) ha rfl ?_
      refine WL.take rfl ?_
      refine WL.load Try.underlying43 rfl rfl (Rd.at_ ha (us_at (by omega))) rfl ?_
      refine WL.take rfl ?_
      refine WL.eql rfl rfl rfl (fun c13 => ?_) (fun c13 => ?_)
      · refine WL.pick rfl rfl rfl ?_
        refine WL.done ?_
        refine W.condT rfl ?_
        refine W.skip ?_
        refine W.block ?_
        refine W.region ?_
        refine WL.move rfl rfl ?_
        refine WL.sub (r := ((k - 1 : Nat) : Int)) rfl rfl (wi64 (by omega) (by omega) (by omega)) rfl ?_
        refine WL.assign rfl rfl ?_
        refine WL.done ?_
        refine ⟨k - 1, ⟨rfl, iv (by omega), trivial⟩, by omega, ?_⟩
        exact ⟨rfl, by omega, sigL_step hs (by omega) (by omega)⟩
      · refine WL.pick rfl rfl rfl ?_
        refine WL.done ?_
        refine W.condF rfl ?_
        refine W.exit ?_
        refine W.seq ?_
        refine W.region ?_
        refine WL.move rfl rfl ?_
        refine WL.move rfl rfl ?_
        refine WL.slTo (k) Try.underlying23 Try.el43 rfl rfl (by omega) (by omega) rfl ?_
        have hT14 := ha.take (k := k) (by omega)
        rw [us_take] at hT14
        refine WL.assign rfl rfl ?_
        refine WL.done ?_
        refine W.ret ?_
        refine ⟨_, rfl, ?_⟩
        have e : k = sigL xa := sigL_stop hs (by omega) (by omega)
        subst e; exact ⟨rfl, hB⟩
    · refine WL.move rfl rfl ?_
      refine WL.pass rfl rfl rfl ?_
      refine WL.pass rfl rfl rfl ?_
      refine WL.pass rfl rfl rfl ?_
      refine WL.pass rfl rfl rfl ?_
      refine WL.pass rfl rfl rfl ?_
      refine WL.pass rfl rfl rfl ?_
      refine WL.pick rfl rfl rfl ?_
      refine WL.done ?_
      refine W.condF rfl ?_
      refine W.exit ?_
      refine W.seq ?_
      refine W.region ?_
      refine WL.move rfl rfl ?_
      refine WL.move rfl rfl ?_
      refine WL.slTo (k) Try.underlying23 Try.el43 rfl rfl (by omega) (by omega) rfl ?_
      have hT15 := ha.take (k := k) (by omega)
      rw [us_take] at hT15
      refine WL.assign rfl rfl ?_
      refine WL.done ?_
      refine W.ret ?_
      refine ⟨_, rfl, ?_⟩
      have e : k = sigL xa := by omega
      subst e; exact ⟨rfl, hB⟩

theorem limbAt_c {w : World} {Ba : Nat} {Aa : Option Addr} {ma ca : Nat} {xa : List Nat} (ha : Rd Ba w 1 Aa ma ca (us xa)) {J : Int} (i : Nat) (hJ : J = i) :
    Calls Try.prog 79 #[.slice Aa ma ca, .int .i64 J] w fun e w2 => ∃ v, e = .returned v ∧ (fun v w2 => v = .int .u32 ((xa.getD i 0 : Nat) : Int) ∧ w.grownBy w2 none) v w2 := by
  have ha := ha.norm
  have ha_l := ha.ulen
  have ha_x := ha.max
  simp only [maxLen] at ha_x
  have ha_c := ha.cap
  have ha0 := ha
  have hB := ext_refl w
  refine calls_of_W (vs := [.slice Aa ma ca, .int .i64 J]) [4] Try.func79 rfl rfl rfl rfl ?_
  refine W.seq ?_
  refine W.region ?_
  refine WL.assign rfl rfl ?_
  refine WL.done ?_
  refine W.seq ?_
  refine W.seq ?_
  refine W.region ?_
  refine WL.move rfl rfl ?_
  refine WL.move rfl rfl ?_
  refine WL.len Try.underlying23 rfl rfl ?_
  refine WL.geq rfl rfl rfl (fun c11 => ?_) (fun c11 => ?_)
  · refine WL.done ?_
    refine W.condT rfl ?_
    refine W.seq ?_
    refine W.region ?_
    refine WL.assign rfl rfl ?_
    refine WL.done ?_
    refine W.ret ?_
    refine ⟨_, rfl, ?_⟩
    rw [getD_out (by omega)]; exact ⟨rfl, hB⟩
  · refine WL.done ?_
    refine W.condF rfl ?_
    refine W.skip ?_
    refine W.seq ?_
    refine W.region ?_
    refine WL.move rfl rfl ?_
    refine WL.move rfl rfl ?_
    refine WL.index1 (i) Try.underlying23 Try.el43 rfl rfl (by omega) (by omega) ha rfl ?_
    refine WL.load Try.underlying43 rfl rfl (Rd.at_ ha (us_at (by omega))) rfl ?_
    refine WL.assign rfl rfl ?_
    refine WL.done ?_
    refine W.ret ?_
    refine ⟨_, rfl, ?_⟩
    exact ⟨rfl, hB⟩

theorem limb_c {w : World} {Ba : Nat} {Aa : Option Addr} {ma ca : Nat} {xa : List Nat} (ha : Rd Ba w 1 Aa ma ca (us xa)) (hLa : Lim xa) {J : Int} (i : Nat) (hJ : J = i) :
    Calls Try.prog 92 #[.slice Aa ma ca, .int .i64 J] w fun e w2 => ∃ v, e = .returned v ∧ (fun v w2 => v = .int .u64 ((xa.getD i 0 : Nat) : Int) ∧ w.grownBy w2 none) v w2 := by
  have ha := ha.norm
  have ha_l := ha.ulen
  have ha_x := ha.max
  simp only [maxLen] at ha_x
  have ha_c := ha.cap
  have ha0 := ha
  have hx := hLa.getD i
  have hB := ext_refl w
  refine calls_of_W (vs := [.slice Aa ma ca, .int .i64 J]) [4] Try.func92 rfl rfl rfl rfl ?_
  refine W.seq ?_
  refine W.region ?_
  refine WL.assign rfl rfl ?_
  refine WL.done ?_
  refine W.seq ?_
  refine W.seq ?_
  refine W.region ?_
  refine WL.move rfl rfl ?_
  refine WL.move rfl rfl ?_
  refine WL.len Try.underlying23 rfl rfl ?_
  refine WL.lss rfl rfl rfl (fun c11 => ?_) (fun c11 => ?_)
  · refine WL.done ?_
    refine W.condT rfl ?_
    refine W.seq ?_
    refine W.region ?_
    refine WL.move rfl rfl ?_
    refine WL.move rfl rfl ?_
    refine WL.index1 (i) Try.underlying23 Try.el43 rfl rfl (by omega) (by omega) ha rfl ?_
    refine WL.load Try.underlying43 rfl rfl (Rd.at_ ha (us_at (by omega))) rfl ?_
    refine WL.conv (r := ((xa.getD i 0 : Nat) : Int)) Try.underlying43 Try.underlying72 rfl (wu64 (by omega) (by omega) (by omega)) rfl ?_
    refine WL.assign rfl rfl ?_
    refine WL.done ?_
    refine W.ret ?_
    refine ⟨_, rfl, ?_⟩
    exact ⟨rfl, hB⟩
  · refine WL.done ?_
    refine W.condF rfl ?_
    refine W.skip ?_
    refine W.seq ?_
    refine W.region ?_
    refine WL.assign rfl rfl ?_
    refine WL.done ?_
    refine W.ret ?_
    refine ⟨_, rfl, ?_⟩
    rw [getD_out (by omega)]; exact ⟨rfl, hB⟩

theorem Same_c {w : World} {Ba : Nat} {Aa : Option Addr} {ma ca : Nat} {xa : List Nat} (ha : Rd Ba w 1 Aa ma ca (us xa)) {Bb : Nat} {Ab : Option Addr} {mb cb : Nat} {xb : List Nat} (hb : Rd Bb w 1 Ab mb cb (us xb)) :
    Calls Try.prog 48 #[.slice Aa ma ca, .slice Ab mb cb] w fun e w2 => ∃ v, e = .returned v ∧ (fun v w2 => v = .bool (decide (xa = xb)) ∧ w.grownBy w2 none) v w2 := by
  have ha := ha.norm
  have ha_l := ha.ulen
  have ha_x := ha.max
  simp only [maxLen] at ha_x
  have ha_c := ha.cap
  have hb := hb.norm
  have hb_l := hb.ulen
  have hb_x := hb.max
  simp only [maxLen] at hb_x
  have hb_c := hb.cap
  have ha0 := ha
  have hb0 := hb
  have hB := ext_refl w
  refine calls_of_W (vs := [.slice Aa ma ca, .slice Ab mb cb]) [4] Try.func48 rfl rfl rfl rfl ?_
  refine W.seq ?_
  refine W.region ?_
  refine WL.assign rfl rfl ?_
  refine WL.done ?_
  refine W.seq ?_
  refine W.seq ?_
  refine W.region ?_
  refine WL.move rfl rfl ?_
  refine WL.len Try.underlying23 rfl rfl ?_
  refine WL.move rfl rfl ?_
  refine WL.len Try.underlying23 rfl rfl ?_
  refine WL.neq rfl rfl rfl (fun c11 => ?_) (fun c11 => ?_)
  · refine WL.done ?_
    refine W.condT rfl ?_
    refine W.seq ?_
    refine W.region ?_
    refine WL.assign rfl rfl ?_
    refine WL.done ?_
    refine W.ret ?_
    refine ⟨_, rfl, ?_⟩
    rw [decide_eq_false (fun h => by subst h; omega)]; exact ⟨rfl, hB⟩
  · refine WL.done ?_
    refine W.condF rfl ?_
    refine W.skip ?_
    refine W.seq ?_
    refine W.seq ?_
    refine W.region ?_
    refine WL.assign rfl rfl ?_
    refine WL.done ?_
    refine W.block ?_
    refine W.loop (σ := Nat) (fun k w1 => w.grownBy w1 none ∧ k ≤ ma ∧ ma = mb ∧ xa.take k = xb.take k) (fun k => [(0, .slice Aa ma ca), (1, .slice Ab mb cb), (5, .int .i64 ((k : Nat) : Int))]) (fun k => ma - k) 0 ?_ ?_ ?_
    · exact ⟨ext_refl _, Nat.zero_le _, by omega, rfl⟩
    · exact ⟨rfl, rfl, iv (by omega), trivial⟩
    · rintro k w12 ⟨hB, hk, hmm, heq⟩
      have ha := ha0.ext hB
      have hb := hb0.ext hB
      refine W.seq ?_
      refine W.seq ?_
      refine W.region ?_
      refine WL.move rfl rfl ?_
      refine WL.move rfl rfl ?_
      refine WL.len Try.underlying23 rfl rfl ?_
      refine WL.lss rfl rfl rfl (fun c13 => ?_) (fun c13 => ?_)
      · refine WL.done ?_
        refine W.condT rfl ?_
        refine W.skip ?_
        refine W.seq ?_
        refine W.block ?_
        refine W.seq ?_
        refine W.draw [⟨[], [0], true⟩, ⟨[], [5], true⟩, ⟨[0, 1], [], true⟩, ⟨[2], [], false⟩, ⟨[], [1], true⟩, ⟨[], [5], true⟩, ⟨[4, 5], [], true⟩, ⟨[6], [], false⟩, ⟨[3, 7], [], true⟩] [[(0, .slice Aa ma ca)], [(5, .int .i64 ((k : Nat) : Int))], [], [], [(1, .slice Ab mb cb)], [(5, .int .i64 ((k : Nat) : Int))], [], [], []] (fun iQ => [fun v _ => v = .slice Aa ma ca, fun v _ => v = .int .i64 ((k : Nat) : Int), fun v _ => v = .pointer (some ((adOf Aa).add k)), fun v _ => v = .int .u32 ((xa.getD k 0 : Nat) : Int), fun v _ => v = .slice Ab mb cb, fun v _ => v = .int .i64 ((k : Nat) : Int), fun v _ => v = .pointer (some ((adOf Ab).add k)), fun v _ => v = .int .u32 ((xb.getD k 0 : Nat) : Int), fun v _ => v = .bool (decide (((xa.getD k 0 : Nat) : Int) ≠ ((xb.getD k 0 : Nat) : Int)))].getD iQ (fun _ _ => True)) (fun _ => True) 9 Try.mixed (by kernel_rfl) ?_ ?_ ?_
        · refine Vs_mono _ ?_
          intro VQ hVQ vQ wQ1 wQ2 hQ1 hQ2
          simp only [List.mem_cons, List.not_mem_nil, or_false] at hVQ
          rcases hVQ with rfl | rfl | rfl | rfl | rfl | rfl | rfl | rfl | rfl <;> exact hQ1
        · refine ⟨⟨rfl, ⟨rfl, trivial⟩, ?_⟩, ⟨rfl, ⟨rfl, trivial⟩, ?_⟩, ⟨rfl, trivial, ?_⟩, ⟨rfl, trivial, ?_⟩, ⟨rfl, ⟨rfl, trivial⟩, ?_⟩, ⟨rfl, ⟨rfl, trivial⟩, ?_⟩, ⟨rfl, trivial, ?_⟩, ⟨rfl, trivial, ?_⟩, ⟨rfl, trivial, ?_⟩, trivial⟩
          · intro w14 hE
            intro R
            refine WL.move rfl rfl ?_
            exact WL.done ⟨_, rfl, rfl, rfl⟩
          · intro w15 hE
            intro R
            refine WL.move rfl rfl ?_
            exact WL.done ⟨_, rfl, rfl, rfl⟩
          · intro w16 hE
            rintro _ rfl
            rintro _ rfl
            intro R
            refine WL.index1 (k) Try.underlying23 Try.el43 rfl rfl (by omega) (by omega) ha rfl ?_
            exact WL.done ⟨_, rfl, rfl, rfl⟩
          · intro w17 hE
            have hE := hE rfl
            have hB := ext_trans hB hE
            have ha := ha0.ext hB
            rintro _ rfl
            intro R
            refine WL.load Try.underlying43 rfl rfl (Rd.at_ ha (us_at (by omega))) rfl ?_
            exact WL.done ⟨_, rfl, ext_refl _, rfl⟩
          · intro w18 hE
            intro R
            refine WL.move rfl rfl ?_
            exact WL.done ⟨_, rfl, rfl, rfl⟩
          · intro w19 hE
            intro R
            refine WL.move rfl rfl ?_
            exact WL.done ⟨_, rfl, rfl, rfl⟩
          · intro w20 hE
            rintro _ rfl
            rintro _ rfl
            intro R
            refine WL.index1 (k) Try.underlying23 Try.el43 rfl rfl (by omega) (by omega) hb rfl ?_
            exact WL.done ⟨_, rfl, rfl, rfl⟩
          · intro w21 hE
            have hE := hE rfl
            have hB := ext_trans hB hE
            have hb := hb0.ext hB
            rintro _ rfl
            intro R
            refine WL.load Try.underlying43 rfl rfl (Rd.at_ hb (us_at (by omega))) rfl ?_
            exact WL.done ⟨_, rfl, ext_refl _, rfl⟩
          · intro w22 hE
            rintro _ rfl
            rintro _ rfl
            intro R
            refine WL.neqD rfl rfl rfl ?_
            exact WL.done ⟨_, rfl, rfl, rfl⟩
        · intro vals w23 hT hVs
          rw [if_neg (by decide)] at hT
          have hB := ext_trans hB hT
          have hv0 : vals 0 = _ := hVs 0 (by decide) (by decide)
          have hv1 : vals 1 = _ := hVs 1 (by decide) (by decide)
          have hv2 : vals 2 = _ := hVs 2 (by decide) (by decide)
          have hv3 : vals 3 = _ := hVs 3 (by decide) (by decide)
          have hv4 : vals 4 = _ := hVs 4 (by decide) (by decide)
          have hv5 : vals 5 = _ := hVs 5 (by decide) (by decide)
          have hv6 : vals 6 = _ := hVs 6 (by decide) (by decide)
          have hv7 : vals 7 = _ := hVs 7 (by decide) (by decide)
          have hv8 : vals 8 = _ := hVs 8 (by decide) (by decide)
          rw [show (List.filterMap (fun i => Option.map (fun t => (t, vals i)) (dstAt _ i)) (List.range _)) = [(17, .slice Aa ma ca), (18, .int .i64 ((k : Nat) : Int)), (19, .pointer (some ((adOf Aa).add k))), (20, .int .u32 ((xa.getD k 0 : Nat) : Int)), (21, .slice Ab mb cb), (22, .int .i64 ((k : Nat) : Int)), (23, .pointer (some ((adOf Ab).add k))), (24, .int .u32 ((xb.getD k 0 : Nat) : Int)), (25, .bool (decide (((xa.getD k 0 : Nat) : Int) ≠ ((xb.getD k 0 : Nat) : Int))))] from by
            show [(17, vals 0), (18, vals 1), (19, vals 2), (20, vals 3), (21, vals 4), (22, vals 5), (23, vals 6), (24, vals 7), (25, vals 8)] = _
            rw [hv0, hv1, hv2, hv3, hv4, hv5, hv6, hv7, hv8]]
          refine W.cond2 rfl (fun c24 => ?_) (fun c24 => ?_)
          · have c24 := of_decide_eq_true c24
            refine W.seq ?_
            refine W.region ?_
            refine WL.assign rfl rfl ?_
            refine WL.done ?_
            refine W.ret ?_
            refine ⟨_, rfl, ?_⟩
            rw [decide_eq_false (fun h => by subst h; omega)]; exact ⟨rfl, hB⟩
          · have c24 := of_decide_eq_false c24
            refine W.skip ?_
            refine W.region ?_
            refine WL.move rfl rfl ?_
            refine WL.add (r := ((k + 1 : Nat) : Int)) rfl rfl (wi64 (by omega) (by omega) (by omega)) rfl ?_
            refine WL.assign rfl rfl ?_
            refine WL.done ?_
            refine ⟨k + 1, ⟨rfl, rfl, iv (by omega), trivial⟩, by omega, ?_⟩
            exact ⟨hB, by omega, hmm, take_step heq (by omega) (by omega) (by omega)⟩
      · refine WL.done ?_
        refine W.condF rfl ?_
        refine W.exit ?_
        refine W.seq ?_
        refine W.region ?_
        refine WL.assign rfl rfl ?_
        refine WL.done ?_
        refine W.ret ?_
        refine ⟨_, rfl, ?_⟩
        rw [decide_eq_true (take_all heq (by omega) (by omega))]; exact ⟨rfl, hB⟩

theorem same_c {w : World} {Ba : Nat} {Aa : Option Addr} {ma ca : Nat} {xa : List Nat} (ha : Rd Ba w 1 Aa ma ca (us xa)) {Bb : Nat} {Ab : Option Addr} {mb cb : Nat} {xb : List Nat} (hb : Rd Bb w 1 Ab mb cb (us xb)) :
    Calls Try.prog 16 #[.slice Aa ma ca, .slice Ab mb cb] w fun e w2 => ∃ v, e = .returned v ∧ (fun v w2 => v = .bool (decide (xa = xb)) ∧ w.grownBy w2 none) v w2 := by
  have ha := ha.norm
  have ha_l := ha.ulen
  have ha_x := ha.max
  simp only [maxLen] at ha_x
  have ha_c := ha.cap
  have hb := hb.norm
  have hb_l := hb.ulen
  have hb_x := hb.max
  simp only [maxLen] at hb_x
  have hb_c := hb.cap
  have ha0 := ha
  have hb0 := hb
  have hB := ext_refl w
  refine calls_of_W (vs := [.slice Aa ma ca, .slice Ab mb cb]) [4] Try.func16 rfl rfl rfl rfl ?_
  refine W.seq ?_
  refine W.region ?_
  refine WL.assign rfl rfl ?_
  refine WL.done ?_
  refine W.seq ?_
  refine W.region ?_
  refine WL.move rfl rfl ?_
  refine WL.move rfl rfl ?_
  refine WL.call Try.func48 rfl Try.nm48 rfl rfl (Same_c ha hb) ?_
  rintro _ w11 ⟨rfl, hGw11⟩
  have hB := ext_trans hB hGw11
  refine WL.assign rfl rfl ?_
  refine WL.done ?_
  refine W.ret ?_
  refine ⟨_, rfl, ?_⟩
  exact ⟨rfl, hB⟩

theorem order_c {w : World} (b : Bool) :
    Calls Try.prog 93 #[.bool b] w fun e w2 => ∃ v, e = .returned v ∧ (fun v w2 => v = .int .i64 (if b then -1 else 1) ∧ w.grownBy w2 none) v w2 := by
  have hB := ext_refl w
  refine calls_of_W (vs := [.bool b]) [2] Try.func93 rfl rfl rfl rfl ?_
  refine W.seq ?_
  refine W.region ?_
  refine WL.assign rfl rfl ?_
  refine WL.done ?_
  refine W.seq ?_
  refine W.seq ?_
  refine W.region ?_
  refine WL.move rfl rfl ?_
  refine WL.done ?_
  refine W.cond2 rfl (fun c11 => ?_) (fun c11 => ?_)
  · skip
    refine W.seq ?_
    refine W.region ?_
    refine WL.assign rfl rfl ?_
    refine WL.done ?_
    refine W.ret ?_
    refine ⟨_, rfl, ?_⟩
    subst c11; exact ⟨rfl, hB⟩
  · skip
    refine W.skip ?_
    refine W.seq ?_
    refine W.region ?_
    refine WL.assign rfl rfl ?_
    refine WL.done ?_
    refine W.ret ?_
    refine ⟨_, rfl, ?_⟩
    subst c11; exact ⟨rfl, hB⟩

theorem rTrim_c {w : World} {Ba : Nat} {Aa : Option Addr} {ma ca : Nat} {xa : List Nat} (ha : Rd Ba w 1 Aa ma ca (us xa)) (hsa : ma ≤ 17592186044416) :
    Calls Try.prog 88 #[.slice Aa ma ca] w fun e w2 => ∃ v, e = .returned v ∧ (fun v w2 => ∃ A2 m2 c2, v = .slice A2 m2 c2 ∧ w.grownBy w2 none ∧ Own w.heap.size w2 43 1 A2 m2 c2 (us (trimL xa)) ∧ m2 ≤ ma) v w2 := by
  have ha := ha.norm
  have ha_l := ha.ulen
  have ha_x := ha.max
  simp only [maxLen] at ha_x
  have ha_c := ha.cap
  have ha0 := ha
  have hB := ext_refl w
  refine calls_of_W (vs := [.slice Aa ma ca]) [2] Try.func88 rfl rfl rfl rfl ?_
  refine W.seq ?_
  refine W.region ?_
  refine WL.assign rfl rfl ?_
  refine WL.done ?_
  refine W.seq ?_
  refine W.region ?_
  refine WL.move rfl rfl ?_
  refine WL.len Try.underlying23 rfl rfl ?_
  refine WL.assign rfl rfl ?_
  refine WL.done ?_
  refine W.seq ?_
  refine W.block ?_
  refine W.loop (σ := Nat) (fun k w1 => w = w1 ∧ k ≤ ma ∧ sigL xa ≤ k) (fun k => [(0, .slice Aa ma ca), (3, .int .i64 ((k : Nat) : Int))]) (fun k => k) ma ?_ ?_ ?_
  · exact ⟨rfl, Nat.le_refl _, ha_l ▸ sigL_le xa⟩
  · exact ⟨rfl, iv (by omega), trivial⟩
  · rintro k w11 ⟨rfl, hk, hs⟩
    refine W.seq ?_
    refine W.seq ?_
    refine W.region ?_
    refine WL.move rfl rfl ?_
    refine WL.gtr rfl rfl rfl (fun c12 => ?_) (fun c12 => ?_)
    · refine WL.move rfl rfl ?_
      refine WL.take rfl ?_
      refine WL.move rfl rfl ?_
      refine WL.take rfl ?_
      refine WL.move rfl rfl ?_
      refine WL.take rfl ?_
      refine WL.sub (r := ((k - 1 : Nat) : Int)) rfl rfl (wi64 (by omega) (by omega) (by omega)) rfl ?_
      refine WL.take rfl ?_
      refine WL.index1 (k - 1) Try.underlying23 Try.el43 rfl rfl (by omega) (by omega) ha rfl ?_
      refine WL.take rfl ?_
      refine WL.load Try.underlying43 rfl rfl (Rd.at_ ha (us_at (by omega))) rfl ?_
      refine WL.take rfl ?_
      refine WL.eql rfl rfl rfl (fun c13 => ?_) (fun c13 => ?_)
      · refine WL.pick rfl rfl rfl ?_
        refine WL.done ?_
        refine W.condT rfl ?_
        refine W.skip ?_
        refine W.block ?_
        refine W.region ?_
        refine WL.move rfl rfl ?_
        refine WL.sub (r := ((k - 1 : Nat) : Int)) rfl rfl (wi64 (by omega) (by omega) (by omega)) rfl ?_
        refine WL.assign rfl rfl ?_
        refine WL.done ?_
        refine ⟨k - 1, ⟨rfl, iv (by omega), trivial⟩, by omega, ?_⟩
        exact ⟨rfl, by omega, sigL_step hs (by omega) (by omega)⟩
      · refine WL.pick rfl rfl rfl ?_
        refine WL.done ?_
        refine W.condF rfl ?_
        refine W.exit ?_
        refine W.seq ?_
        refine W.region ?_
        refine WL.lit1 (b := w.heap.size) Try.underlying23 Try.el43 rfl rfl rfl rfl (fun _ h => by cases h) (Nat.le_refl _) rfl ?_
        rintro A14 w15 - hO16 hGw15
        have hO16 := hO16.low (b' := w.heap.size) hB.size
        have hB := ext_trans hB hGw15
        have ha := ha0.ext hB
        change Own _ _ _ _ _ _ _ (us []) at hO16
        refine WL.move rfl rfl ?_
        refine WL.move rfl rfl ?_
        refine WL.slTo (k) Try.underlying23 Try.el43 rfl rfl (by omega) (by omega) rfl ?_
        have hT17 := ha.take (k := k) (by omega)
        rw [us_take] at hT17
        obtain rfl : k = sigL xa := by first | omega | exact sigL_stop hs (by omega) (by omega)
        refine WL.append (sigL xa) ((us (trimL xa))) Try.underlying23 Try.el43 rfl rfl hO16 hT17 (us_one _) (by simp only [maxLen]; omega) (by omega) hB.size (by omega) (us_app (by rw [List.nil_append, trimL_take])) rfl ?_
        have hOld21 := hO16
        intro A18 cp19 w20 hO hGw20 hblw20
        have hB := ext_own hB hGw20 (fun g hg => (hOld21.bl_ge g hg).1)
        refine WL.assign rfl rfl ?_
        refine WL.done ?_
        refine W.ret ?_
        refine ⟨_, rfl, ?_⟩
        exact ⟨_, _, _, rfl, hB, hO, by omega⟩
    · refine WL.move rfl rfl ?_
      refine WL.pass rfl rfl rfl ?_
      refine WL.pass rfl rfl rfl ?_
      refine WL.pass rfl rfl rfl ?_
      refine WL.pass rfl rfl rfl ?_
      refine WL.pass rfl rfl rfl ?_
      refine WL.pass rfl rfl rfl ?_
      refine WL.pick rfl rfl rfl ?_
      refine WL.done ?_
      refine W.condF rfl ?_
      refine W.exit ?_
      refine W.seq ?_
      refine W.region ?_
      refine WL.lit1 (b := w.heap.size) Try.underlying23 Try.el43 rfl rfl rfl rfl (fun _ h => by cases h) (Nat.le_refl _) rfl ?_
      rintro A22 w23 - hO24 hGw23
      have hO24 := hO24.low (b' := w.heap.size) hB.size
      have hB := ext_trans hB hGw23
      have ha := ha0.ext hB
      change Own _ _ _ _ _ _ _ (us []) at hO24
      refine WL.move rfl rfl ?_
      refine WL.move rfl rfl ?_
      refine WL.slTo (k) Try.underlying23 Try.el43 rfl rfl (by omega) (by omega) rfl ?_
      have hT25 := ha.take (k := k) (by omega)
      rw [us_take] at hT25
      obtain rfl : k = sigL xa := by first | omega | exact sigL_stop hs (by omega) (by omega)
      refine WL.append (sigL xa) ((us (trimL xa))) Try.underlying23 Try.el43 rfl rfl hO24 hT25 (us_one _) (by simp only [maxLen]; omega) (by omega) hB.size (by omega) (us_app (by rw [List.nil_append, trimL_take])) rfl ?_
      have hOld29 := hO24
      intro A26 cp27 w28 hO hGw28 hblw28
      have hB := ext_own hB hGw28 (fun g hg => (hOld29.bl_ge g hg).1)
      refine WL.assign rfl rfl ?_
      refine WL.done ?_
      refine W.ret ?_
      refine ⟨_, rfl, ?_⟩
      exact ⟨_, _, _, rfl, hB, hO, by omega⟩

theorem Trim_c {w : World} {Ba : Nat} {Aa : Option Addr} {ma ca : Nat} {xa : List Nat} (ha : Rd Ba w 1 Aa ma ca (us xa)) (hsa : ma ≤ 17592186044416) :
    Calls Try.prog 46 #[.slice Aa ma ca] w fun e w2 => ∃ v, e = .returned v ∧ (fun v w2 => ∃ A2 m2 c2, v = .slice A2 m2 c2 ∧ w.grownBy w2 none ∧ Own w.heap.size w2 43 1 A2 m2 c2 (us (trimL xa)) ∧ m2 ≤ ma) v w2 := by
  have ha := ha.norm
  have ha_l := ha.ulen
  have ha_x := ha.max
  simp only [maxLen] at ha_x
  have ha_c := ha.cap
  have ha0 := ha
  have hsl := sigL_le xa
  have hB := ext_refl w
  refine calls_of_W (vs := [.slice Aa ma ca]) [2] Try.func46 rfl rfl rfl rfl ?_
  refine W.seq ?_
  refine W.region ?_
  refine WL.assign rfl rfl ?_
  refine WL.done ?_
  refine W.seq ?_
  refine W.region ?_
  refine WL.move rfl rfl ?_
  refine WL.call Try.func44 rfl Try.nm44 rfl rfl (sig_c ha) ?_
  rintro _ w11 ⟨rfl, hGw11⟩
  have hB := ext_trans hB hGw11
  have ha := ha0.ext hB
  refine WL.append (sigL xa) ((us (trimL xa))) Try.underlying23 Try.el43 rfl rfl (World.ownsRow_nil w11 (w.heap.size) 43 1) (Rd.sig ha) (us_one _) (by simp only [maxLen]; omega) (by omega) hB.size (by omega) (List.nil_append _) rfl ?_
  intro A12 cp13 w14 hO hGw14 hblw14
  have hGw14 : World.grownBy w11 w14 none := hGw14
  have hB := ext_trans hB hGw14
  refine WL.assign rfl rfl ?_
  refine WL.done ?_
  refine W.ret ?_
  refine ⟨_, rfl, ?_⟩
  exact ⟨_, _, _, rfl, hB, hO, by omega⟩

theorem rCmp_c {w : World} {Ba : Nat} {Aa : Option Addr} {ma ca : Nat} {xa : List Nat} (ha : Rd Ba w 1 Aa ma ca (us xa)) {Bb : Nat} {Ab : Option Addr} {mb cb : Nat} {xb : List Nat} (hb : Rd Bb w 1 Ab mb cb (us xb)) (hLa : Lim xa) (hLb : Lim xb) :
    Calls Try.prog 70 #[.slice Aa ma ca, .slice Ab mb cb] w fun e w2 => ∃ v, e = .returned v ∧ (fun v w2 => v = .int .i64 (cmpI (nv xa) (nv xb)) ∧ w.grownBy w2 none) v w2 := by
  have ha := ha.norm
  have ha_l := ha.ulen
  have ha_x := ha.max
  simp only [maxLen] at ha_x
  have ha_c := ha.cap
  have hb := hb.norm
  have hb_l := hb.ulen
  have hb_x := hb.max
  simp only [maxLen] at hb_x
  have hb_c := hb.cap
  have ha0 := ha
  have hb0 := hb
  have hB := ext_refl w
  refine calls_of_W (vs := [.slice Aa ma ca, .slice Ab mb cb]) [4] Try.func70 rfl rfl rfl rfl ?_
  refine W.seq ?_
  refine W.region ?_
  refine WL.assign rfl rfl ?_
  refine WL.done ?_
  refine W.seq ?_
  refine W.seq ?_
  refine W.region ?_
  refine WL.move rfl rfl ?_
  refine WL.len Try.underlying23 rfl rfl ?_
  refine WL.move rfl rfl ?_
  refine WL.len Try.underlying23 rfl rfl ?_
  refine WL.max2 (r := ((max ma mb : Nat) : Int)) rfl rfl (by omega) rfl ?_
  refine WL.sub (r := (((max ma mb : Nat) : Int) - 1)) rfl rfl (wi64 (by omega) (by omega) (by omega)) rfl ?_
  refine WL.assign rfl rfl ?_
  refine WL.done ?_
  refine W.block ?_
  refine W.loop (σ := Nat) (fun k w1 => w.grownBy w1 none ∧ k ≤ max ma mb ∧ nv (xa.drop k) = nv (xb.drop k)) (fun k => [(0, .slice Aa ma ca), (1, .slice Ab mb cb), (5, .int .i64 ((k : Int) - 1))]) (fun k => k) (max ma mb) ?_ ?_ ?_
  · exact ⟨ext_refl _, Nat.le_refl _, by rw [List.drop_of_length_le (by omega), List.drop_of_length_le (by omega)]⟩
  · exact ⟨rfl, rfl, iv (by omega), trivial⟩
  · rintro k w11 ⟨hB, hk, heq⟩
    have ha := ha0.ext hB
    have hb := hb0.ext hB
    have hxa := hLa.getD (k - 1)
    have hxb := hLb.getD (k - 1)
    refine W.seq ?_
    refine W.seq ?_
    refine W.region ?_
    refine WL.move rfl rfl ?_
    refine WL.geq rfl rfl rfl (fun c12 => ?_) (fun c12 => ?_)
    · refine WL.done ?_
      refine W.condT rfl ?_
      refine W.skip ?_
      refine W.seq ?_
      refine W.block ?_
      refine W.seq ?_
      refine W.seq ?_
      refine W.region ?_
      refine WL.move rfl rfl ?_
      refine WL.move rfl rfl ?_
      refine WL.call Try.func92 rfl Try.nm92 rfl rfl (limb_c ha hLa (k - 1) (by omega)) ?_
      rintro _ w13 ⟨rfl, hGw13⟩
      have hB := ext_trans hB hGw13
      have ha := ha0.ext hB
      have hb := hb0.ext hB
      refine WL.move rfl rfl ?_
      refine WL.move rfl rfl ?_
      refine WL.call Try.func92 rfl Try.nm92 rfl rfl (limb_c hb hLb (k - 1) (by omega)) ?_
      rintro _ w14 ⟨rfl, hGw14⟩
      have hB := ext_trans hB hGw14
      have ha := ha0.ext hB
      have hb := hb0.ext hB
      refine WL.lss rfl rfl rfl (fun c15 => ?_) (fun c15 => ?_)
      · refine WL.done ?_
        refine W.condT rfl ?_
        refine W.seq ?_
        refine W.region ?_
        refine WL.assign rfl rfl ?_
        refine WL.done ?_
        refine W.ret ?_
        refine ⟨_, rfl, ?_⟩
        rw [cmpI_lt (nv_lt_at hLa (i := k - 1) (by rw [Nat.sub_add_cancel (by omega)]; exact heq) (by omega))]; exact ⟨rfl, hB⟩
      · refine WL.done ?_
        refine W.condF rfl ?_
        refine W.skip ?_
        refine W.seq ?_
        refine W.region ?_
        refine WL.move rfl rfl ?_
        refine WL.move rfl rfl ?_
        refine WL.call Try.func92 rfl Try.nm92 rfl rfl (limb_c ha hLa (k - 1) (by omega)) ?_
        rintro _ w16 ⟨rfl, hGw16⟩
        have hB := ext_trans hB hGw16
        have hb := hb0.ext hB
        refine WL.move rfl rfl ?_
        refine WL.move rfl rfl ?_
        refine WL.call Try.func92 rfl Try.nm92 rfl rfl (limb_c hb hLb (k - 1) (by omega)) ?_
        rintro _ w17 ⟨rfl, hGw17⟩
        have hB := ext_trans hB hGw17
        refine WL.gtr rfl rfl rfl (fun c18 => ?_) (fun c18 => ?_)
        · refine WL.done ?_
          refine W.condT rfl ?_
          refine W.seq ?_
          refine W.region ?_
          refine WL.assign rfl rfl ?_
          refine WL.done ?_
          refine W.ret ?_
          refine ⟨_, rfl, ?_⟩
          rw [cmpI_gt (nv_lt_at hLb (i := k - 1) (by rw [Nat.sub_add_cancel (by omega)]; exact heq.symm) (by omega))]; exact ⟨rfl, hB⟩
        · refine WL.done ?_
          refine W.condF rfl ?_
          refine W.skip ?_
          refine W.region ?_
          refine WL.move rfl rfl ?_
          refine WL.sub (r := ((k : Int) - 1 - 1)) rfl rfl (wi64 (by omega) (by omega) (by omega)) rfl ?_
          refine WL.assign rfl rfl ?_
          refine WL.done ?_
          refine ⟨k - 1, ⟨rfl, rfl, iv (by omega), trivial⟩, by omega, ?_⟩
          exact ⟨hB, by omega, drop_step (by rw [Nat.sub_add_cancel (by omega)]; exact heq) (by omega)⟩
    · refine WL.done ?_
      refine W.condF rfl ?_
      refine W.exit ?_
      refine W.seq ?_
      refine W.region ?_
      refine WL.assign rfl rfl ?_
      refine WL.done ?_
      refine W.ret ?_
      refine ⟨_, rfl, ?_⟩
      have : k = 0 := by omega
      subst this
      simp only [List.drop_zero] at heq
      rw [cmpI_eq heq]; exact ⟨rfl, hB⟩

theorem rAdd_c {w : World} {Ba : Nat} {Aa : Option Addr} {ma ca : Nat} {xa : List Nat} (ha : Rd Ba w 1 Aa ma ca (us xa)) {Bb : Nat} {Ab : Option Addr} {mb cb : Nat} {xb : List Nat} (hb : Rd Bb w 1 Ab mb cb (us xb)) (hLa : Lim xa) (hLb : Lim xb) (hsa : ma ≤ 1099511627776) (hsb : mb ≤ 1099511627776) :
    Calls Try.prog 69 #[.slice Aa ma ca, .slice Ab mb cb] w fun e w2 => ∃ v, e = .returned v ∧ (fun v w2 => ∃ A2 m2 c2, v = .slice A2 m2 c2 ∧ w.grownBy w2 none ∧ Own w.heap.size w2 43 1 A2 m2 c2 (us (digs (nv xa + nv xb))) ∧ m2 ≤ max ma mb + 1) v w2 := by
  have ha := ha.norm
  have ha_l := ha.ulen
  have ha_x := ha.max
  simp only [maxLen] at ha_x
  have ha_c := ha.cap
  have hb := hb.norm
  have hb_l := hb.ulen
  have hb_x := hb.max
  simp only [maxLen] at hb_x
  have hb_c := hb.cap
  have ha0 := ha
  have hb0 := hb
  have hB := ext_refl w
  refine calls_of_W (vs := [.slice Aa ma ca, .slice Ab mb cb]) [4] Try.func69 rfl rfl rfl rfl ?_
  refine W.seq ?_
  refine W.region ?_
  refine WL.assign rfl rfl ?_
  refine WL.done ?_
  refine W.seq ?_
  refine W.region ?_
  refine WL.assign rfl rfl ?_
  refine WL.done ?_
  refine W.seq ?_
  refine W.region ?_
  refine WL.assign rfl rfl ?_
  refine WL.done ?_
  refine W.seq ?_
  refine W.seq ?_
  refine W.region ?_
  refine WL.assign rfl rfl ?_
  refine WL.done ?_
  refine W.block ?_
  refine W.loop (σ := Nat × Nat × List Nat × Option Addr × Nat) (fun s w1 => match s with | (i, c, ys, Ao, co) => w.grownBy w1 none ∧ c ≤ 1 ∧ i ≤ max ma mb + 1 ∧ (max ma mb < i → c = 0) ∧ Lim ys ∧ ys.length = i ∧ nv ys + 4294967296 ^ i * c = nv (xa.take i) + nv (xb.take i) ∧ Own w.heap.size w1 43 1 Ao i co (us ys)) (fun s => match s with | (i, c, ys, Ao, co) => [(0, .slice Aa ma ca), (1, .slice Ab mb cb), (5, .slice Ao i co), (6, .int .u64 ((c : Nat) : Int)), (7, .int .i64 ((i : Nat) : Int))]) (fun s => match s with | (i, c, ys, Ao, co) => max ma mb + 1 - i) (0, 0, [], none, 0) ?_ ?_ ?_
  · exact ⟨ext_refl _, by omega, by omega, fun _ => rfl, Lim.nil, rfl, by simp [nv], World.ownsRow_nil _ _ _ _⟩
  · exact ⟨rfl, rfl, rfl, iv (by omega), iv (by omega), trivial⟩
  · rintro ⟨i, c, ys, Ao, co⟩ w11 ⟨hB, hc, hi, hc0, hLy, hly, heq, ho⟩
    have ha := ha0.ext hB
    have hb := hb0.ext hB
    have hxa := hLa.getD i
    have hxb := hLb.getD i
    refine W.cut (σ := Unit) (fun _u w1 => i ≤ max ma mb ∧ w11 = w1) (fun _u => [(0, .slice Aa ma ca), (1, .slice Ab mb cb), (5, .slice Ao i co), (6, .int .u64 ((c : Nat) : Int)), (7, .int .i64 ((i : Nat) : Int))]) ?_ ?_
    · refine W.seq ?_
      refine W.region ?_
      refine WL.move rfl rfl ?_
      refine WL.move rfl rfl ?_
      refine WL.len Try.underlying23 rfl rfl ?_
      refine WL.lss rfl rfl rfl (fun c12 => ?_) (fun c12 => ?_)
      · refine WL.move rfl rfl ?_
        refine WL.pass rfl rfl rfl ?_
        refine WL.pass rfl rfl rfl ?_
        refine WL.pass rfl rfl rfl ?_
        refine WL.pass rfl rfl rfl ?_
        refine WL.pick rfl rfl rfl ?_
        refine WL.move rfl rfl ?_
        refine WL.pass rfl rfl rfl ?_
        refine WL.pass rfl rfl rfl ?_
        refine WL.pick rfl rfl rfl ?_
        refine WL.done ?_
        refine W.condT rfl ?_
        refine W.skip ?_
        refine ⟨(), ⟨rfl, rfl, rfl, iv (by omega), iv (by omega), trivial⟩, ?_⟩
        exact ⟨by omega, rfl⟩
      · refine WL.move rfl rfl ?_
        refine WL.take rfl ?_
        refine WL.move rfl rfl ?_
        refine WL.take rfl ?_
        refine WL.move rfl rfl ?_
        refine WL.take rfl ?_
        refine WL.len Try.underlying23 rfl rfl ?_
        refine WL.take rfl ?_
        refine WL.lss rfl rfl rfl (fun c13 => ?_) (fun c13 => ?_)
        · refine WL.pick rfl rfl rfl ?_
          refine WL.move rfl rfl ?_
          refine WL.pass rfl rfl rfl ?_
          refine WL.pass rfl rfl rfl ?_
          refine WL.pick rfl rfl rfl ?_
          refine WL.done ?_
          refine W.condT rfl ?_
          refine W.skip ?_
          refine ⟨(), ⟨rfl, rfl, rfl, iv (by omega), iv (by omega), trivial⟩, ?_⟩
          exact ⟨by omega, rfl⟩
        · refine WL.pick rfl rfl rfl ?_
          refine WL.move rfl rfl ?_
          refine WL.take rfl ?_
          refine WL.move rfl rfl ?_
          refine WL.take rfl ?_
          refine WL.gtr rfl rfl rfl (fun c14 => ?_) (fun c14 => ?_)
          · refine WL.pick rfl rfl rfl ?_
            refine WL.done ?_
            refine W.condT rfl ?_
            refine W.skip ?_
            refine ⟨(), ⟨rfl, rfl, rfl, iv (by omega), iv (by omega), trivial⟩, ?_⟩
            exact ⟨by omega, rfl⟩
          · refine WL.pick rfl rfl rfl ?_
            refine WL.done ?_
            refine W.condF rfl ?_
            refine W.exit ?_
            refine W.seq ?_
            refine W.region ?_
            refine WL.move rfl rfl ?_
            refine WL.call Try.func88 rfl Try.nm88 rfl rfl (rTrim_c ho.rd (by omega)) ?_
            rintro _ w15 ⟨A16, m17, cp18, rfl, hGw15, hO19, hm20⟩
            have hO19 := hO19.low (b' := w.heap.size) hB.size
            have hB := ext_trans hB hGw15
            have hO19_l := hO19.rd.ulen
            refine WL.assign rfl rfl ?_
            refine WL.done ?_
            refine W.ret ?_
            refine ⟨_, rfl, ?_⟩
            have hO := hO19
            have hc2 : c = 0 := by omega
            subst hc2
            rw [Nat.mul_zero, Nat.add_zero, nv_take_all (by omega), nv_take_all (by omega)] at heq
            rw [digs_trim hLy, heq] at hO
            exact ⟨_, _, _, rfl, hB, hO, by omega⟩
    · rintro _u w21 ⟨hi2, rfl⟩
      refine W.seq ?_
      refine W.block ?_
      refine W.seq ?_
      refine W.region ?_
      refine WL.move rfl rfl ?_
      refine WL.move rfl rfl ?_
      refine WL.call Try.func92 rfl Try.nm92 rfl rfl (limb_c ha hLa (i) (by omega)) ?_
      rintro _ w22 ⟨rfl, hGw22⟩
      have hB := ext_trans hB hGw22
      have hb := hb0.ext hB
      have ho := ho.ext hGw22
      refine WL.move rfl rfl ?_
      refine WL.move rfl rfl ?_
      refine WL.call Try.func92 rfl Try.nm92 rfl rfl (limb_c hb hLb (i) (by omega)) ?_
      rintro _ w23 ⟨rfl, hGw23⟩
      have hB := ext_trans hB hGw23
      have ho := ho.ext hGw23
      refine WL.add (r := (((xa.getD i 0) + (xb.getD i 0) : Nat) : Int)) rfl rfl (wu64 (by omega) (by omega) (by omega)) rfl ?_
      refine WL.move rfl rfl ?_
      refine WL.add (r := ((((xa.getD i 0) + (xb.getD i 0)) + c : Nat) : Int)) rfl rfl (wu64 (by omega) (by omega) (by omega)) rfl ?_
      refine WL.assign rfl rfl ?_
      refine WL.done ?_
      refine W.seq ?_
      refine W.region ?_
      refine WL.move rfl rfl ?_
      refine WL.move rfl rfl ?_
      refine WL.rem (r := (((((xa.getD i 0) + (xb.getD i 0)) + c) % 4294967296 : Nat) : Int)) rfl rfl (by omega) (tmod_nat (by omega) (by omega)) rfl ?_
      refine WL.conv (r := (((((xa.getD i 0) + (xb.getD i 0)) + c) % 4294967296 : Nat) : Int)) Try.underlying72 Try.underlying43 rfl (wu32 (by omega) (by omega) (by omega)) rfl ?_
      refine WL.lit1 (b := w23.heap.size) Try.underlying23 Try.el43 rfl rfl rfl rfl (by intro v hv; simp only [List.mem_cons, List.not_mem_nil, or_false] at hv; rcases hv with rfl <;> rfl) (Nat.le_refl _) rfl ?_
      rintro A24 w25 - hO26 hGw25
      have hO26 := hO26.low (b' := w.heap.size) hB.size
      have hB := ext_trans hB hGw25
      have ho := ho.ext hGw25
      change Own _ _ _ _ _ _ _ (us [(((xa.getD i 0) + (xb.getD i 0)) + c) % 4294967296]) at hO26
      refine WL.append (i + 1) ((us (ys ++ ([(((xa.getD i 0) + (xb.getD i 0)) + c) % 4294967296])))) Try.underlying23 Try.el43 rfl rfl ho hO26.rd (us_one _) (by simp only [maxLen]; omega) (by omega) hB.size (by omega) (us_app rfl) rfl ?_
      have hOld30 := ho
      intro A27 cp28 w29 ho hGw29 hblw29
      have hB := ext_own hB hGw29 (fun g hg => (hOld30.bl_ge g hg).1)
      refine WL.assign rfl rfl ?_
      refine WL.done ?_
      refine W.region ?_
      refine WL.move rfl rfl ?_
      refine WL.quo (r := (((((xa.getD i 0) + (xb.getD i 0)) + c) / 4294967296 : Nat) : Int)) rfl rfl (by omega) (qu64 (by omega) (by omega) (by omega)) rfl ?_
      refine WL.assign rfl rfl ?_
      refine WL.done ?_
      refine W.region ?_
      refine WL.move rfl rfl ?_
      refine WL.add (r := ((i + 1 : Nat) : Int)) rfl rfl (wi64 (by omega) (by omega) (by omega)) rfl ?_
      refine WL.assign rfl rfl ?_
      refine WL.done ?_
      refine ⟨(i + 1, (xa.getD i 0 + xb.getD i 0 + c) / 4294967296, ys ++ [(xa.getD i 0 + xb.getD i 0 + c) % 4294967296], _, _), ⟨rfl, rfl, rfl, iv (by omega), iv (by omega), trivial⟩, by (dsimp only; omega), ?_⟩
      exact ⟨hB, by omega, by omega, fun h => by rw [getD_out (by omega : xa.length ≤ i), getD_out (by omega : xb.length ≤ i)]; omega, hLy.append (Lim.one (by omega)), by simp [hly], by rw [nv_take_succ, nv_take_succ, Nat.pow_succ]; exact add_step (by rw [hly]) heq rfl, ho⟩
end Go.Proofs.Ythfpcebcfjlkmab
