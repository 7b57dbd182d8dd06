/- Contracts of functions of the program, and what they lean on: W2, W3, W4, W5, W6, W7, Bl. -/
import Derived.Test.YthfpcebcfjlkmabRationalPowersG1
set_option linter.unusedSimpArgs false
set_option linter.unusedVariables false
namespace Go.Proofs.Ythfpcebcfjlkmab
open Go.RowKit
theorem sig_c {w : World} {Ba : Nat} {Aa : Option Addr} {ma ca : Nat} {xa : List Nat} (ha : Rd Ba w 1 Aa ma ca (us xa)) :
    Calls Try.prog 44 #[.slice Aa ma ca] w fun e w2 => ∃ v, e = .returned v ∧ (fun v w2 => v = .slice Aa (sigL xa) ca ∧ w.grownBy w2 none) v w2 := by
  have ha := ha.norm
  have ha_l := ha.ulen
  have ha_x := ha.max
  simp only [maxLen] at ha_x
  have ha_c := ha.cap
  have ha0 := ha
  have hB := ext_refl w
  refine calls_of_W (vs := [.slice Aa ma ca]) [2] Try.func44 rfl rfl rfl rfl ?_
  refine W.seq ?_
  refine W.region ?_
  refine WL.assign rfl rfl ?_
  refine WL.done ?_
  refine W.seq ?_
  refine W.region ?_
  refine WL.move rfl rfl ?_
  refine WL.len Try.underlying23 rfl rfl ?_
  refine WL.assign rfl rfl ?_
  refine WL.done ?_
  refine W.seq ?_
  refine W.block ?_
  refine W.loop (σ := Nat) (fun k w1 => w = w1 ∧ k ≤ ma ∧ sigL xa ≤ k) (fun k => [(0, .slice Aa ma ca), (3, .int .i64 ((k : Nat) : Int))]) (fun k => k) ma ?_ ?_ ?_
  · exact ⟨rfl, Nat.le_refl _, ha_l ▸ sigL_le xa⟩
  · exact ⟨rfl, iv (by omega), trivial⟩
  · rintro k w11 ⟨rfl, hk, hs⟩
    refine W.seq ?_
    refine W.seq ?_
    refine W.region ?_
    refine WL.move rfl rfl ?_
    refine WL.gtr rfl rfl rfl (fun c12 => ?_) (fun c12 => ?_)
    · refine WL.move rfl rfl ?_
      refine WL.take rfl ?_
      refine WL.move rfl rfl ?_
      refine WL.take rfl ?_
      refine WL.move rfl rfl ?_
      refine WL.take rfl ?_
      refine WL.sub (r := ((k - 1 : Nat) : Int)) rfl rfl (wi64 (by omega) (by omega) (by omega)) rfl ?_
      refine WL.take rfl ?_
      refine WL.index1 (k - 1) Try.underlying23 Try.el43 rfl rfl (by omega) (by omega) ha rfl ?_
      refine WL.take rfl ?_
      refine WL.load Try.underlying43 rfl rfl (Rd.at_ ha (us_at (by omega))) rfl ?_
      refine WL.take rfl ?_
      refine WL.eql rfl rfl rfl (fun c13 => ?_) (fun c13 => ?_)
      · refine WL.pick rfl rfl rfl ?_
        refine WL.done ?_
        refine W.condT rfl ?_
        refine W.skip ?_
        refine W.block ?_
        refine W.region ?_
        refine WL.move rfl rfl ?_
        refine WL.sub (r := ((k - 1 : Nat) : Int)) rfl rfl (wi64 (by omega) (by omega) (by omega)) rfl ?_
        refine WL.assign rfl rfl ?_
        refine WL.done ?_
        refine ⟨k - 1, ⟨rfl, iv (by omega), trivial⟩, by omega, ?_⟩
        exact ⟨rfl, by omega, sigL_step hs (by omega) (by omega)⟩
      · refine WL.pick rfl rfl rfl ?_
        refine WL.done ?_
        refine W.condF rfl ?_
        refine W.exit ?_
        refine W.seq ?_
        refine W.region ?_
        refine WL.move rfl rfl ?_
        refine WL.move rfl rfl ?_
        refine WL.slTo (k) Try.underlying23 Try.el43 rfl rfl (by omega) (by omega) rfl ?_
        have hT14 := ha.take (k := k) (by omega)
        rw [us_take] at hT14
        refine WL.assign rfl rfl ?_
        refine WL.done ?_
        refine W.ret ?_
        refine ⟨_, rfl, ?_⟩
        have e : k = sigL xa := sigL_stop hs (by omega) (by omega)
        subst e; exact ⟨rfl, hB⟩
    · refine WL.move rfl rfl ?_
      refine WL.pass rfl rfl rfl ?_
      refine WL.pass rfl rfl rfl ?_
      refine WL.pass rfl rfl rfl ?_
      refine WL.pass rfl rfl rfl ?_
      refine WL.pass rfl rfl rfl ?_
      refine WL.pass rfl rfl rfl ?_
      refine WL.pick rfl rfl rfl ?_
      refine WL.done ?_
      refine W.condF rfl ?_
      refine W.exit ?_
      refine W.seq ?_
      refine W.region ?_
      refine WL.move rfl rfl ?_
      refine WL.move rfl rfl ?_
      refine WL.slTo (k) Try.underlying23 Try.el43 rfl rfl (by omega) (by omega) rfl ?_
      have hT15 := ha.take (k := k) (by omega)
      rw [us_take] at hT15
      refine WL.assign rfl rfl ?_
      refine WL.done ?_
      refine W.ret ?_
      refine ⟨_, rfl, ?_⟩
      have e : k = sigL xa := by omega
      subst e; exact ⟨rfl, hB⟩

theorem limbAt_c {w : World} {Ba : Nat} {Aa : Option Addr} {ma ca : Nat} {xa : List Nat} (ha : Rd Ba w 1 Aa ma ca (us xa)) {J : Int} (i : Nat) (hJ : J = i) :
    Calls Try.prog 79 #[.slice Aa ma ca, .int .i64 J] w fun e w2 => ∃ v, e = .returned v ∧ (fun v w2 => v = .int .u32 ((xa.getD i 0 : Nat) : Int) ∧ w.grownBy w2 none) v w2 := by
  have ha := ha.norm
  have ha_l := ha.ulen
  have ha_x := ha.max
  simp only [maxLen] at ha_x
  have ha_c := ha.cap
  have ha0 := ha
  have hB := ext_refl w
  refine calls_of_W (vs := [.slice Aa ma ca, .int .i64 J]) [4] Try.func79 rfl rfl rfl rfl ?_
  refine W.seq ?_
  refine W.region ?_
  refine WL.assign rfl rfl ?_
  refine WL.done ?_
  refine W.seq ?_
  refine W.seq ?_
  refine W.region ?_
  refine WL.move rfl rfl ?_
  refine WL.move rfl rfl ?_
  refine WL.len Try.underlying23 rfl rfl ?_
  refine WL.geq rfl rfl rfl (fun c11 => ?_) (fun c11 => ?_)
  · refine WL.done ?_
    refine W.condT rfl ?_
    refine W.seq ?_
    refine W.region ?_
    refine WL.assign rfl rfl ?_
    refine WL.done ?_
    refine W.ret ?_
    refine ⟨_, rfl, ?_⟩
    rw [getD_out (by omega)]; exact ⟨rfl, hB⟩
  · refine WL.done ?_
    refine W.condF rfl ?_
    refine W.skip ?_
    refine W.seq ?_
    refine W.region ?_
    refine WL.move rfl rfl ?_
    refine WL.move rfl rfl ?_
    refine WL.index1 (i) Try.underlying23 Try.el43 rfl rfl (by omega) (by omega) ha rfl ?_
    refine WL.load Try.underlying43 rfl rfl (Rd.at_ ha (us_at (by omega))) rfl ?_
    refine WL.assign rfl rfl ?_
    refine WL.done ?_
    refine W.ret ?_
    refine ⟨_, rfl, ?_⟩
    exact ⟨rfl, hB⟩

theorem limb_c {w : World} {Ba : Nat} {Aa : Option Addr} {ma ca : Nat} {xa : List Nat} (ha : Rd Ba w 1 Aa ma ca (us xa)) (hLa : Lim xa) {J : Int} (i : Nat) (hJ : J = i) :
    Calls Try.prog 92 #[.slice Aa ma ca, .int .i64 J] w fun e w2 => ∃ v, e = .returned v ∧ (fun v w2 => v = .int .u64 ((xa.getD i 0 : Nat) : Int) ∧ w.grownBy w2 none) v w2 := by
  have ha := ha.norm
  have ha_l := ha.ulen
  have ha_x := ha.max
  simp only [maxLen] at ha_x
  have ha_c := ha.cap
  have ha0 := ha
  have hx := hLa.getD i
  have hB := ext_refl w
  refine calls_of_W (vs := [.slice Aa ma ca, .int .i64 J]) [4] Try.func92 rfl rfl rfl rfl ?_
  refine W.seq ?_
  refine W.region ?_
  refine WL.assign rfl rfl ?_
  refine WL.done ?_
  refine W.seq ?_
  refine W.seq ?_
  refine W.region ?_
  refine WL.move rfl rfl ?_
  refine WL.move rfl rfl ?_
  refine WL.len Try.underlying23 rfl rfl ?_
  refine WL.lss rfl rfl rfl (fun c11 => ?_) (fun c11 => ?_)
  · refine WL.done ?_
    refine W.condT rfl ?_
    refine W.seq ?_
    refine W.region ?_
    refine WL.move rfl rfl ?_
    refine WL.move rfl rfl ?_
    refine WL.index1 (i) Try.underlying23 Try.el43 rfl rfl (by omega) (by omega) ha rfl ?_
    refine WL.load Try.underlying43 rfl rfl (Rd.at_ ha (us_at (by omega))) rfl ?_
    refine WL.conv (r := ((xa.getD i 0 : Nat) : Int)) Try.underlying43 Try.underlying72 rfl (wu64 (by omega) (by omega) (by omega)) rfl ?_
    refine WL.assign rfl rfl ?_
    refine WL.done ?_
    refine W.ret ?_
    refine ⟨_, rfl, ?_⟩
    exact ⟨rfl, hB⟩
  · refine WL.done ?_
    refine W.condF rfl ?_
    refine W.skip ?_
    refine W.seq ?_
    refine W.region ?_
    refine WL.assign rfl rfl ?_
    refine WL.done ?_
    refine W.ret ?_
    refine ⟨_, rfl, ?_⟩
    rw [getD_out (by omega)]; exact ⟨rfl, hB⟩

theorem Same_c {w : World} {Ba : Nat} {Aa : Option Addr} {ma ca : Nat} {xa : List Nat} (ha : Rd Ba w 1 Aa ma ca (us xa)) {Bb : Nat} {Ab : Option Addr} {mb cb : Nat} {xb : List Nat} (hb : Rd Bb w 1 Ab mb cb (us xb)) :
    Calls Try.prog 48 #[.slice Aa ma ca, .slice Ab mb cb] w fun e w2 => ∃ v, e = .returned v ∧ (fun v w2 => v = .bool (decide (xa = xb)) ∧ w.grownBy w2 none) v w2 := by
  have ha := ha.norm
  have ha_l := ha.ulen
  have ha_x := ha.max
  simp only [maxLen] at ha_x
  have ha_c := ha.cap
  have hb := hb.norm
  have hb_l := hb.ulen
  have hb_x := hb.max
  simp only [maxLen] at hb_x
  have hb_c := hb.cap
  have ha0 := ha
  have hb0 := hb
  have hB := ext_refl w
  refine calls_of_W (vs := [.slice Aa ma ca, .slice Ab mb cb]) [4] Try.func48 rfl rfl rfl rfl ?_
  refine W.seq ?_
  refine W.region ?_
  refine WL.assign rfl rfl ?_
  refine WL.done ?_
  refine W.seq ?_
  refine W.seq ?_
  refine W.region ?_
  refine WL.move rfl rfl ?_
  refine WL.len Try.underlying23 rfl rfl ?_
  refine WL.move rfl rfl ?_
  refine WL.len Try.underlying23 rfl rfl ?_
  refine WL.neq rfl rfl rfl (fun c11 => ?_) (fun c11 => ?_)
  · refine WL.done ?_
    refine W.condT rfl ?_
    refine W.seq ?_
    refine W.region ?_
    refine WL.assign rfl rfl ?_
    refine WL.done ?_
    refine W.ret ?_
    refine ⟨_, rfl, ?_⟩
    rw [decide_eq_false (fun h => by subst h; omega)]; exact ⟨rfl, hB⟩
  · refine WL.done ?_
    refine W.condF rfl ?_
    refine W.skip ?_
    refine W.seq ?_
    refine W.seq ?_
    refine W.region ?_
    refine WL.assign rfl rfl ?_
    refine WL.done ?_
    refine W.block ?_
    refine W.loop (σ := Nat) (fun k w1 => w.grownBy w1 none ∧ k ≤ ma ∧ ma = mb ∧ xa.take k = xb.take k) (fun k => [(0, .slice Aa ma ca), (1, .slice Ab mb cb), (5, .int .i64 ((k : Nat) : Int))]) (fun k => ma - k) 0 ?_ ?_ ?_
    · exact ⟨ext_refl _, Nat.zero_le _, by omega, rfl⟩
    · exact ⟨rfl, rfl, iv (by omega), trivial⟩
    · rintro k w12 ⟨hB, hk, hmm, heq⟩
      have ha := ha0.ext hB
      have hb := hb0.ext hB
      refine W.seq ?_
      refine W.seq ?_
      refine W.region ?_
      refine WL.move rfl rfl ?_
      refine WL.move rfl rfl ?_
      refine WL.len Try.underlying23 rfl rfl ?_
      refine WL.lss rfl rfl rfl (fun c13 => ?_) (fun c13 => ?_)
      · refine WL.done ?_
        refine W.condT rfl ?_
        refine W.skip ?_
        refine W.seq ?_
        refine W.block ?_
        refine W.seq ?_
        refine W.draw [⟨[], [0], true⟩, ⟨[], [5], true⟩, ⟨[0, 1], [], true⟩, ⟨[2], [], false⟩, ⟨[], [1], true⟩, ⟨[], [5], true⟩, ⟨[4, 5], [], true⟩, ⟨[6], [], false⟩, ⟨[3, 7], [], true⟩] [[(0, .slice Aa ma ca)], [(5, .int .i64 ((k : Nat) : Int))], [], [], [(1, .slice Ab mb cb)], [(5, .int .i64 ((k : Nat) : Int))], [], [], []] (fun iQ => [fun v _ => v = .slice Aa ma ca, fun v _ => v = .int .i64 ((k : Nat) : Int), fun v _ => v = .pointer (some ((adOf Aa).add k)), fun v _ => v = .int .u32 ((xa.getD k 0 : Nat) : Int), fun v _ => v = .slice Ab mb cb, fun v _ => v = .int .i64 ((k : Nat) : Int), fun v _ => v = .pointer (some ((adOf Ab).add k)), fun v _ => v = .int .u32 ((xb.getD k 0 : Nat) : Int), fun v _ => v = .bool (decide (((xa.getD k 0 : Nat) : Int) ≠ ((xb.getD k 0 : Nat) : Int)))].getD iQ (fun _ _ => True)) (fun _ => True) 9 Try.mixed (by kernel_rfl) ?_ ?_ ?_
        · refine Vs_mono _ ?_
          intro VQ hVQ vQ wQ1 wQ2 hQ1 hQ2
          simp only [List.mem_cons, List.not_mem_nil, or_false] at hVQ
          rcases hVQ with rfl | rfl | rfl | rfl | rfl | rfl | rfl | rfl | rfl <;> exact hQ1
        · refine ⟨⟨rfl, ⟨rfl, trivial⟩, ?_⟩, ⟨rfl, ⟨rfl, trivial⟩, ?_⟩, ⟨rfl, trivial, ?_⟩, ⟨rfl, trivial, ?_⟩, ⟨rfl, ⟨rfl, trivial⟩, ?_⟩, ⟨rfl, ⟨rfl, trivial⟩, ?_⟩, ⟨rfl, trivial, ?_⟩, ⟨rfl, trivial, ?_⟩, ⟨rfl, trivial, ?_⟩, trivial⟩
          · intro w14 hE
            intro R
            refine WL.move rfl rfl ?_
            exact WL.done ⟨_, rfl, rfl, rfl⟩
          · intro w15 hE
            intro R
            refine WL.move rfl rfl ?_
            exact WL.done ⟨_, rfl, rfl, rfl⟩
          · intro w16 hE
            rintro _ rfl
            rintro _ rfl
            intro R
            refine WL.index1 (k) Try.underlying23 Try.el43 rfl rfl (by omega) (by omega) ha rfl ?_
            exact WL.done ⟨_, rfl, rfl, rfl⟩
          · intro w17 hE
            have hE := hE rfl
            have hB := ext_trans hB hE
            have ha := ha0.ext hB
            rintro _ rfl
            intro R
            refine WL.load Try.underlying43 rfl rfl (Rd.at_ ha (us_at (by omega))) rfl ?_
            exact WL.done ⟨_, rfl, ext_refl _, rfl⟩
          · intro w18 hE
            intro R
            refine WL.move rfl rfl ?_
            exact WL.done ⟨_, rfl, rfl, rfl⟩
          · intro w19 hE
            intro R
            refine WL.move rfl rfl ?_
            exact WL.done ⟨_, rfl, rfl, rfl⟩
          · intro w20 hE
            rintro _ rfl
            rintro _ rfl
            intro R
            refine WL.index1 (k) Try.underlying23 Try.el43 rfl rfl (by omega) (by omega) hb rfl ?_
            exact WL.done ⟨_, rfl, rfl, rfl⟩
          · intro w21 hE
            have hE := hE rfl
            have hB := ext_trans hB hE
            have hb := hb0.ext hB
            rintro _ rfl
            intro R
            refine WL.load Try.underlying43 rfl rfl (Rd.at_ hb (us_at (by omega))) rfl ?_
            exact WL.done ⟨_, rfl, ext_refl _, rfl⟩
          · intro w22 hE
            rintro _ rfl
            rintro _ rfl
            intro R
            refine WL.neqD rfl rfl rfl ?_
            exact WL.done ⟨_, rfl, rfl, rfl⟩
        · intro vals w23 hT hVs
          rw [if_neg (by decide)] at hT
          have hB := ext_trans hB hT
          have hv0 : vals 0 = _ := hVs 0 (by decide) (by decide)
          have hv1 : vals 1 = _ := hVs 1 (by decide) (by decide)
          have hv2 : vals 2 = _ := hVs 2 (by decide) (by decide)
          have hv3 : vals 3 = _ := hVs 3 (by decide) (by decide)
          have hv4 : vals 4 = _ := hVs 4 (by decide) (by decide)
          have hv5 : vals 5 = _ := hVs 5 (by decide) (by decide)
          have hv6 : vals 6 = _ := hVs 6 (by decide) (by decide)
          have hv7 : vals 7 = _ := hVs 7 (by decide) (by decide)
          have hv8 : vals 8 = _ := hVs 8 (by decide) (by decide)
          rw [show (List.filterMap (fun i => Option.map (fun t => (t, vals i)) (dstAt _ i)) (List.range _)) = [(17, .slice Aa ma ca), (18, .int .i64 ((k : Nat) : Int)), (19, .pointer (some ((adOf Aa).add k))), (20, .int .u32 ((xa.getD k 0 : Nat) : Int)), (21, .slice Ab mb cb), (22, .int .i64 ((k : Nat) : Int)), (23, .pointer (some ((adOf Ab).add k))), (24, .int .u32 ((xb.getD k 0 : Nat) : Int)), (25, .bool (decide (((xa.getD k 0 : Nat) : Int) ≠ ((xb.getD k 0 : Nat) : Int))))] from by
            show [(17, vals 0), (18, vals 1), (19, vals 2), (20, vals 3), (21, vals 4), (22, vals 5), (23, vals 6), (24, vals 7), (25, vals 8)] = _
            rw [hv0, hv1, hv2, hv3, hv4, hv5, hv6, hv7, hv8]]
          refine W.cond2 rfl (fun c24 => ?_) (fun c24 => ?_)
          · have c24 := of_decide_eq_true c24
            refine W.seq ?_
            refine W.region ?_
            refine WL.assign rfl rfl ?_
            refine WL.done ?_
            refine W.ret ?_
            refine ⟨_, rfl, ?_⟩
            rw [decide_eq_false (fun h => by subst h; omega)]; exact ⟨rfl, hB⟩
          · have c24 := of_decide_eq_false c24
            refine W.skip ?_
            refine W.region ?_
            refine WL.move rfl rfl ?_
            refine WL.add (r := ((k + 1 : Nat) : Int)) rfl rfl (wi64 (by omega) (by omega) (by omega)) rfl ?_
            refine WL.assign rfl rfl ?_
            refine WL.done ?_
            refine ⟨k + 1, ⟨rfl, rfl, iv (by omega), trivial⟩, by omega, ?_⟩
            exact ⟨hB, by omega, hmm, take_step heq (by omega) (by omega) (by omega)⟩
      · refine WL.done ?_
        refine W.condF rfl ?_
        refine W.exit ?_
        refine W.seq ?_
        refine W.region ?_
        refine WL.assign rfl rfl ?_
        refine WL.done ?_
        refine W.ret ?_
        refine ⟨_, rfl, ?_⟩
        rw [decide_eq_true (take_all heq (by omega) (by omega))]; exact ⟨rfl, hB⟩

theorem order_c {w : World} (b : Bool) :
    Calls Try.prog 93 #[.bool b] w fun e w2 => ∃ v, e = .returned v ∧ (fun v w2 => v = .int .i64 (if b then -1 else 1) ∧ w.grownBy w2 none) v w2 := by
  have hB := ext_refl w
  refine calls_of_W (vs := [.bool b]) [2] Try.func93 rfl rfl rfl rfl ?_
  refine W.seq ?_
  refine W.region ?_
  refine WL.assign rfl rfl ?_
  refine WL.done ?_
  refine W.seq ?_
  refine W.seq ?_
  refine W.region ?_
  refine WL.move rfl rfl ?_
  refine WL.done ?_
  refine W.cond2 rfl (fun c11 => ?_) (fun c11 => ?_)
  · skip
    refine W.seq ?_
    refine W.region ?_
    refine WL.assign rfl rfl ?_
    refine WL.done ?_
    refine W.ret ?_
    refine ⟨_, rfl, ?_⟩
    subst c11; exact ⟨rfl, hB⟩
  · skip
    refine W.skip ?_
    refine W.seq ?_
    refine W.region ?_
    refine WL.assign rfl rfl ?_
    refine WL.done ?_
    refine W.ret ?_
    refine ⟨_, rfl, ?_⟩
    subst c11; exact ⟨rfl, hB⟩

theorem rTrim_c {w : World} {Ba : Nat} {Aa : Option Addr} {ma ca : Nat} {xa : List Nat} (ha : Rd Ba w 1 Aa ma ca (us xa)) (hsa : ma ≤ 17592186044416) :
    Calls Try.prog 88 #[.slice Aa ma ca] w fun e w2 => ∃ v, e = .returned v ∧ (fun v w2 => ∃ A2 m2 c2, v = .slice A2 m2 c2 ∧ w.grownBy w2 none ∧ Own w.heap.size w2 43 1 A2 m2 c2 (us (trimL xa)) ∧ m2 ≤ ma) v w2 := by
  have ha := ha.norm
  have ha_l := ha.ulen
  have ha_x := ha.max
  simp only [maxLen] at ha_x
  have ha_c := ha.cap
  have ha0 := ha
  have hB := ext_refl w
  refine calls_of_W (vs := [.slice Aa ma ca]) [2] Try.func88 rfl rfl rfl rfl ?_
  refine W.seq ?_
  refine W.region ?_
  refine WL.assign rfl rfl ?_
  refine WL.done ?_
  refine W.seq ?_
  refine W.region ?_
  refine WL.move rfl rfl ?_
  refine WL.len Try.underlying23 rfl rfl ?_
  refine WL.assign rfl rfl ?_
  refine WL.done ?_
  refine W.seq ?_
  refine W.block ?_
  refine W.loop (σ := Nat) (fun k w1 => w = w1 ∧ k ≤ ma ∧ sigL xa ≤ k) (fun k => [(0, .slice Aa ma ca), (3, .int .i64 ((k : Nat) : Int))]) (fun k => k) ma ?_ ?_ ?_
  · exact ⟨rfl, Nat.le_refl _, ha_l ▸ sigL_le xa⟩
  · exact ⟨rfl, iv (by omega), trivial⟩
  · rintro k w11 ⟨rfl, hk, hs⟩
    refine W.seq ?_
    refine W.seq ?_
    refine W.region ?_
    refine WL.move rfl rfl ?_
    refine WL.gtr rfl rfl rfl (fun c12 => ?_) (fun c12 => ?_)
    · refine WL.move rfl rfl ?_
      refine WL.take rfl ?_
      refine WL.move rfl rfl ?_
      refine WL.take rfl ?_
      refine WL.move rfl rfl ?_
      refine WL.take rfl ?_
      refine WL.sub (r := ((k - 1 : Nat) : Int)) rfl rfl (wi64 (by omega) (by omega) (by omega)) rfl ?_
      refine WL.take rfl ?_
      refine WL.index1 (k - 1) Try.underlying23 Try.el43 rfl rfl (by omega) (by omega) ha rfl ?_
      refine WL.take rfl ?_
      refine WL.load Try.underlying43 rfl rfl (Rd.at_ ha (us_at (by omega))) rfl ?_
      refine WL.take rfl ?_
      refine WL.eql rfl rfl rfl (fun c13 => ?_) (fun c13 => ?_)
      · refine WL.pick rfl rfl rfl ?_
        refine WL.done ?_
        refine W.condT rfl ?_
        refine W.skip ?_
        refine W.block ?_
        refine W.region ?_
        refine WL.move rfl rfl ?_
        refine WL.sub (r := ((k - 1 : Nat) : Int)) rfl rfl (wi64 (by omega) (by omega) (by omega)) rfl ?_
        refine WL.assign rfl rfl ?_
        refine WL.done ?_
        refine ⟨k - 1, ⟨rfl, iv (by omega), trivial⟩, by omega, ?_⟩
        exact ⟨rfl, by omega, sigL_step hs (by omega) (by omega)⟩
      · refine WL.pick rfl rfl rfl ?_
        refine WL.done ?_
        refine W.condF rfl ?_
        refine W.exit ?_
        refine W.seq ?_
        refine W.region ?_
        refine WL.lit1 (b := w.heap.size) Try.underlying23 Try.el43 rfl rfl rfl rfl (fun _ h => by cases h) (Nat.le_refl _) rfl ?_
        rintro A14 w15 - hO16 hGw15
        have hO16 := hO16.low (b' := w.heap.size) hB.size
        have hB := ext_trans hB hGw15
        have ha := ha0.ext hB
        change Own _ _ _ _ _ _ _ (us []) at hO16
        refine WL.move rfl rfl ?_
        refine WL.move rfl rfl ?_
        refine WL.slTo (k) Try.underlying23 Try.el43 rfl rfl (by omega) (by omega) rfl ?_
        have hT17 := ha.take (k := k) (by omega)
        rw [us_take] at hT17
        obtain rfl : k = sigL xa := by first | omega | exact sigL_stop hs (by omega) (by omega)
        refine WL.append (sigL xa) ((us (trimL xa))) Try.underlying23 Try.el43 rfl rfl hO16 hT17 (us_one _) (by simp only [maxLen]; omega) (by omega) hB.size (by omega) (us_app (by rw [List.nil_append, trimL_take])) rfl ?_
        have hOld21 := hO16
        intro A18 cp19 w20 hO hGw20 hblw20
        have hB := ext_own hB hGw20 (fun g hg => (hOld21.bl_ge g hg).1)
        refine WL.assign rfl rfl ?_
        refine WL.done ?_
        refine W.ret ?_
        refine ⟨_, rfl, ?_⟩
        exact ⟨_, _, _, rfl, hB, hO, by omega⟩
    · refine WL.move rfl rfl ?_
      refine WL.pass rfl rfl rfl ?_
      refine WL.pass rfl rfl rfl ?_
      refine WL.pass rfl rfl rfl ?_
      refine WL.pass rfl rfl rfl ?_
      refine WL.pass rfl rfl rfl ?_
      refine WL.pass rfl rfl rfl ?_
      refine WL.pick rfl rfl rfl ?_
      refine WL.done ?_
      refine W.condF rfl ?_
      refine W.exit ?_
      refine W.seq ?_
      refine W.region ?_
      refine WL.lit1 (b := w.heap.size) Try.underlying23 Try.el43 rfl rfl rfl rfl (fun _ h => by cases h) (Nat.le_refl _) rfl ?_
      rintro A22 w23 - hO24 hGw23
      have hO24 := hO24.low (b' := w.heap.size) hB.size
      have hB := ext_trans hB hGw23
      have ha := ha0.ext hB
      change Own _ _ _ _ _ _ _ (us []) at hO24
      refine WL.move rfl rfl ?_
      refine WL.move rfl rfl ?_
      refine WL.slTo (k) Try.underlying23 Try.el43 rfl rfl (by omega) (by omega) rfl ?_
      have hT25 := ha.take (k := k) (by omega)
      rw [us_take] at hT25
      obtain rfl : k = sigL xa := by first | omega | exact sigL_stop hs (by omega) (by omega)
      refine WL.append (sigL xa) ((us (trimL xa))) Try.underlying23 Try.el43 rfl rfl hO24 hT25 (us_one _) (by simp only [maxLen]; omega) (by omega) hB.size (by omega) (us_app (by rw [List.nil_append, trimL_take])) rfl ?_
      have hOld29 := hO24
      intro A26 cp27 w28 hO hGw28 hblw28
      have hB := ext_own hB hGw28 (fun g hg => (hOld29.bl_ge g hg).1)
      refine WL.assign rfl rfl ?_
      refine WL.done ?_
      refine W.ret ?_
      refine ⟨_, rfl, ?_⟩
      exact ⟨_, _, _, rfl, hB, hO, by omega⟩

theorem Trim_c {w : World} {Ba : Nat} {Aa : Option Addr} {ma ca : Nat} {xa : List Nat} (ha : Rd Ba w 1 Aa ma ca (us xa)) (hsa : ma ≤ 17592186044416) :
    Calls Try.prog 46 #[.slice Aa ma ca] w fun e w2 => ∃ v, e = .returned v ∧ (fun v w2 => ∃ A2 m2 c2, v = .slice A2 m2 c2 ∧ w.grownBy w2 none ∧ Own w.heap.size w2 43 1 A2 m2 c2 (us (trimL xa)) ∧ m2 ≤ ma) v w2 := by
  have ha := ha.norm
  have ha_l := ha.ulen
  have ha_x := ha.max
  simp only [maxLen] at ha_x
  have ha_c := ha.cap
  have ha0 := ha
  have hsl := sigL_le xa
  have hB := ext_refl w
  refine calls_of_W (vs := [.slice Aa ma ca]) [2] Try.func46 rfl rfl rfl rfl ?_
  refine W.seq ?_
  refine W.region ?_
  refine WL.assign rfl rfl ?_
  refine WL.done ?_
  refine W.seq ?_
  refine W.region ?_
  refine WL.move rfl rfl ?_
  refine WL.call Try.func44 rfl Try.nm44 rfl rfl (sig_c ha) ?_
  rintro _ w11 ⟨rfl, hGw11⟩
  have hB := ext_trans hB hGw11
  have ha := ha0.ext hB
  refine WL.append (sigL xa) ((us (trimL xa))) Try.underlying23 Try.el43 rfl rfl (World.ownsRow_nil w11 (w.heap.size) 43 1) (Rd.sig ha) (us_one _) (by simp only [maxLen]; omega) (by omega) hB.size (by omega) (List.nil_append _) rfl ?_
  intro A12 cp13 w14 hO hGw14 hblw14
  have hGw14 : World.grownBy w11 w14 none := hGw14
  have hB := ext_trans hB hGw14
  refine WL.assign rfl rfl ?_
  refine WL.done ?_
  refine W.ret ?_
  refine ⟨_, rfl, ?_⟩
  exact ⟨_, _, _, rfl, hB, hO, by omega⟩

theorem rCmp_c {w : World} {Ba : Nat} {Aa : Option Addr} {ma ca : Nat} {xa : List Nat} (ha : Rd Ba w 1 Aa ma ca (us xa)) {Bb : Nat} {Ab : Option Addr} {mb cb : Nat} {xb : List Nat} (hb : Rd Bb w 1 Ab mb cb (us xb)) (hLa : Lim xa) (hLb : Lim xb) :
    Calls Try.prog 70 #[.slice Aa ma ca, .slice Ab mb cb] w fun e w2 => ∃ v, e = .returned v ∧ (fun v w2 => v = .int .i64 (cmpI (nv xa) (nv xb)) ∧ w.grownBy w2 none) v w2 := by
  have ha := ha.norm
  have ha_l := ha.ulen
  have ha_x := ha.max
  simp only [maxLen] at ha_x
  have ha_c := ha.cap
  have hb := hb.norm
  have hb_l := hb.ulen
  have hb_x := hb.max
  simp only [maxLen] at hb_x
  have hb_c := hb.cap
  have ha0 := ha
  have hb0 := hb
  have hB := ext_refl w
  refine calls_of_W (vs := [.slice Aa ma ca, .slice Ab mb cb]) [4] Try.func70 rfl rfl rfl rfl ?_
  refine W.seq ?_
  refine W.region ?_
  refine WL.assign rfl rfl ?_
  refine WL.done ?_
  refine W.seq ?_
  refine W.seq ?_
  refine W.region ?_
  refine WL.move rfl rfl ?_
  refine WL.len Try.underlying23 rfl rfl ?_
  refine WL.move rfl rfl ?_
  refine WL.len Try.underlying23 rfl rfl ?_
  refine WL.max2 (r := ((max ma mb : Nat) : Int)) rfl rfl (by omega) rfl ?_
  refine WL.sub (r := (((max ma mb : Nat) : Int) - 1)) rfl rfl (wi64 (by omega) (by omega) (by omega)) rfl ?_
  refine WL.assign rfl rfl ?_
  refine WL.done ?_
  refine W.block ?_
  refine W.loop (σ := Nat) (fun k w1 => w.grownBy w1 none ∧ k ≤ max ma mb ∧ nv (xa.drop k) = nv (xb.drop k)) (fun k => [(0, .slice Aa ma ca), (1, .slice Ab mb cb), (5, .int .i64 ((k : Int) - 1))]) (fun k => k) (max ma mb) ?_ ?_ ?_
  · exact ⟨ext_refl _, Nat.le_refl _, by rw [List.drop_of_length_le (by omega), List.drop_of_length_le (by omega)]⟩
  · exact ⟨rfl, rfl, iv (by omega), trivial⟩
  · rintro k w11 ⟨hB, hk, heq⟩
    have ha := ha0.ext hB
    have hb := hb0.ext hB
    have hxa := hLa.getD (k - 1)
    have hxb := hLb.getD (k - 1)
    refine W.seq ?_
    refine W.seq ?_
    refine W.region ?_
    refine WL.move rfl rfl ?_
    refine WL.geq rfl rfl rfl (fun c12 => ?_) (fun c12 => ?_)
    · refine WL.done ?_
      refine W.condT rfl ?_
      refine W.skip ?_
      refine W.seq ?_
      refine W.block ?_
      refine W.seq ?_
      refine W.seq ?_
      refine W.region ?_
      refine WL.move rfl rfl ?_
      refine WL.move rfl rfl ?_
      refine WL.call Try.func92 rfl Try.nm92 rfl rfl (limb_c ha hLa (k - 1) (by omega)) ?_
      rintro _ w13 ⟨rfl, hGw13⟩
      have hB := ext_trans hB hGw13
      have ha := ha0.ext hB
      have hb := hb0.ext hB
      refine WL.move rfl rfl ?_
      refine WL.move rfl rfl ?_
      refine WL.call Try.func92 rfl Try.nm92 rfl rfl (limb_c hb hLb (k - 1) (by omega)) ?_
      rintro _ w14 ⟨rfl, hGw14⟩
      have hB := ext_trans hB hGw14
      have ha := ha0.ext hB
      have hb := hb0.ext hB
      refine WL.lss rfl rfl rfl (fun c15 => ?_) (fun c15 => ?_)
      · refine WL.done ?_
        refine W.condT rfl ?_
        refine W.seq ?_
        refine W.region ?_
        refine WL.assign rfl rfl ?_
        refine WL.done ?_
        refine W.ret ?_
        refine ⟨_, rfl, ?_⟩
        rw [cmpI_lt (nv_lt_at hLa (i := k - 1) (by rw [Nat.sub_add_cancel (by omega)]; exact heq) (by omega))]; exact ⟨rfl, hB⟩
      · refine WL.done ?_
        refine W.condF rfl ?_
        refine W.skip ?_
        refine W.seq ?_
        refine W.region ?_
        refine WL.move rfl rfl ?_
        refine WL.move rfl rfl ?_
        refine WL.call Try.func92 rfl Try.nm92 rfl rfl (limb_c ha hLa (k - 1) (by omega)) ?_
        rintro _ w16 ⟨rfl, hGw16⟩
        have hB := ext_trans hB hGw16
        have hb := hb0.ext hB
        refine WL.move rfl rfl ?_
        refine WL.move rfl rfl ?_
        refine WL.call Try.func92 rfl Try.nm92 rfl rfl (limb_c hb hLb (k - 1) (by omega)) ?_
        rintro _ w17 ⟨rfl, hGw17⟩
        have hB := ext_trans hB hGw17
        refine WL.gtr rfl rfl rfl (fun c18 => ?_) (fun c18 => ?_)
        · refine WL.done ?_
          refine W.condT rfl ?_
          refine W.seq ?_
          refine W.region ?_
          refine WL.assign rfl rfl ?_
          refine WL.done ?_
          refine W.ret ?_
          refine ⟨_, rfl, ?_⟩
          rw [cmpI_gt (nv_lt_at hLb (i := k - 1) (by rw [Nat.sub_add_cancel (by omega)]; exact heq.symm) (by omega))]; exact ⟨rfl, hB⟩
        · refine WL.done ?_
          refine W.condF rfl ?_
          refine W.skip ?_
          refine W.region ?_
          refine WL.move rfl rfl ?_
          refine WL.sub (r := ((k : Int) - 1 - 1)) rfl rfl (wi64 (by omega) (by omega) (by omega)) rfl ?_
          refine WL.assign rfl rfl ?_
          refine WL.done ?_
          refine ⟨k - 1, ⟨rfl, rfl, iv (by omega), trivial⟩, by omega, ?_⟩
          exact ⟨hB, by omega, drop_step (by rw [Nat.sub_add_cancel (by omega)]; exact heq) (by omega)⟩
    · refine WL.done ?_
      refine W.condF rfl ?_
      refine W.exit ?_
      refine W.seq ?_
      refine W.region ?_
      refine WL.assign rfl rfl ?_
      refine WL.done ?_
      refine W.ret ?_
      refine ⟨_, rfl, ?_⟩
      have : k = 0 := by omega
      subst this
      simp only [List.drop_zero] at heq
      rw [cmpI_eq heq]; exact ⟨rfl, hB⟩

theorem rAdd_c {w : World} {Ba : Nat} {Aa : Option Addr} {ma ca : Nat} {xa : List Nat} (ha : Rd Ba w 1 Aa ma ca (us xa)) {Bb : Nat} {Ab : Option Addr} {mb cb : Nat} {xb : List Nat} (hb : Rd Bb w 1 Ab mb cb (us xb)) (hLa : Lim xa) (hLb : Lim xb) (hsa : ma ≤ 1099511627776) (hsb : mb ≤ 1099511627776) :
    Calls Try.prog 69 #[.slice Aa ma ca, .slice Ab mb cb] w fun e w2 => ∃ v, e = .returned v ∧ (fun v w2 => ∃ A2 m2 c2, v = .slice A2 m2 c2 ∧ w.grownBy w2 none ∧ Own w.heap.size w2 43 1 A2 m2 c2 (us (digs (nv xa + nv xb))) ∧ m2 ≤ max ma mb + 1) v w2 := by
  have ha := ha.norm
  have ha_l := ha.ulen
  have ha_x := ha.max
  simp only [maxLen] at ha_x
  have ha_c := ha.cap
  have hb := hb.norm
  have hb_l := hb.ulen
  have hb_x := hb.max
  simp only [maxLen] at hb_x
  have hb_c := hb.cap
  have ha0 := ha
  have hb0 := hb
  have hB := ext_refl w
  refine calls_of_W (vs := [.slice Aa ma ca, .slice Ab mb cb]) [4] Try.func69 rfl rfl rfl rfl ?_
  refine W.seq ?_
  refine W.region ?_
  refine WL.assign rfl rfl ?_
  refine WL.done ?_
  refine W.seq ?_
  refine W.region ?_
  refine WL.assign rfl rfl ?_
  refine WL.done ?_
  refine W.seq ?_
  refine W.region ?_
  refine WL.assign rfl rfl ?_
  refine WL.done ?_
  refine W.seq ?_
  refine W.seq ?_
  refine W.region ?_
  refine WL.assign rfl rfl ?_
  refine WL.done ?_
  refine W.block ?_
  refine W.loop (σ := Nat × Nat × List Nat × Option Addr × Nat) (fun s w1 => match s with | (i, c, ys, Ao, co) => w.grownBy w1 none ∧ c ≤ 1 ∧ i ≤ max ma mb + 1 ∧ (max ma mb < i → c = 0) ∧ Lim ys ∧ ys.length = i ∧ nv ys + 4294967296 ^ i * c = nv (xa.take i) + nv (xb.take i) ∧ Own w.heap.size w1 43 1 Ao i co (us ys)) (fun s => match s with | (i, c, ys, Ao, co) => [(0, .slice Aa ma ca), (1, .slice Ab mb cb), (5, .slice Ao i co), (6, .int .u64 ((c : Nat) : Int)), (7, .int .i64 ((i : Nat) : Int))]) (fun s => match s with | (i, c, ys, Ao, co) => max ma mb + 1 - i) (0, 0, [], none, 0) ?_ ?_ ?_
  · exact ⟨ext_refl _, by omega, by omega, fun _ => rfl, Lim.nil, rfl, by simp [nv], World.ownsRow_nil _ _ _ _⟩
  · exact ⟨rfl, rfl, rfl, iv (by omega), iv (by omega), trivial⟩
  · rintro ⟨i, c, ys, Ao, co⟩ w11 ⟨hB, hc, hi, hc0, hLy, hly, heq, ho⟩
    have ha := ha0.ext hB
    have hb := hb0.ext hB
    have hxa := hLa.getD i
    have hxb := hLb.getD i
    refine W.cut (σ := Unit) (fun _u w1 => i ≤ max ma mb ∧ w11 = w1) (fun _u => [(0, .slice Aa ma ca), (1, .slice Ab mb cb), (5, .slice Ao i co), (6, .int .u64 ((c : Nat) : Int)), (7, .int .i64 ((i : Nat) : Int))]) ?_ ?_
    · refine W.seq ?_
      refine W.region ?_
      refine WL.move rfl rfl ?_
      refine WL.move rfl rfl ?_
      refine WL.len Try.underlying23 rfl rfl ?_
      refine WL.lss rfl rfl rfl (fun c12 => ?_) (fun c12 => ?_)
      · refine WL.move rfl rfl ?_
        refine WL.pass rfl rfl rfl ?_
        refine WL.pass rfl rfl rfl ?_
        refine WL.pass rfl rfl rfl ?_
        refine WL.pass rfl rfl rfl ?_
        refine WL.pick rfl rfl rfl ?_
        refine WL.move rfl rfl ?_
        refine WL.pass rfl rfl rfl ?_
        refine WL.pass rfl rfl rfl ?_
        refine WL.pick rfl rfl rfl ?_
        refine WL.done ?_
        refine W.condT rfl ?_
        refine W.skip ?_
        refine ⟨(), ⟨rfl, rfl, rfl, iv (by omega), iv (by omega), trivial⟩, ?_⟩
        exact ⟨by omega, rfl⟩
      · refine WL.move rfl rfl ?_
        refine WL.take rfl ?_
        refine WL.move rfl rfl ?_
        refine WL.take rfl ?_
        refine WL.move rfl rfl ?_
        refine WL.take rfl ?_
        refine WL.len Try.underlying23 rfl rfl ?_
        refine WL.take rfl ?_
        refine WL.lss rfl rfl rfl (fun c13 => ?_) (fun c13 => ?_)
        · refine WL.pick rfl rfl rfl ?_
          refine WL.move rfl rfl ?_
          refine WL.pass rfl rfl rfl ?_
          refine WL.pass rfl rfl rfl ?_
          refine WL.pick rfl rfl rfl ?_
          refine WL.done ?_
          refine W.condT rfl ?_
          refine W.skip ?_
          refine ⟨(), ⟨rfl, rfl, rfl, iv (by omega), iv (by omega), trivial⟩, ?_⟩
          exact ⟨by omega, rfl⟩
        · refine WL.pick rfl rfl rfl ?_
          refine WL.move rfl rfl ?_
          refine WL.take rfl ?_
          refine WL.move rfl rfl ?_
          refine WL.take rfl ?_
          refine WL.gtr rfl rfl rfl (fun c14 => ?_) (fun c14 => ?_)
          · refine WL.pick rfl rfl rfl ?_
            refine WL.done ?_
            refine W.condT rfl ?_
            refine W.skip ?_
            refine ⟨(), ⟨rfl, rfl, rfl, iv (by omega), iv (by omega), trivial⟩, ?_⟩
            exact ⟨by omega, rfl⟩
          · refine WL.pick rfl rfl rfl ?_
            refine WL.done ?_
            refine W.condF rfl ?_
            refine W.exit ?_
            refine W.seq ?_
            refine W.region ?_
            refine WL.move rfl rfl ?_
            refine WL.call Try.func88 rfl Try.nm88 rfl rfl (rTrim_c ho.rd (by omega)) ?_
            rintro _ w15 ⟨A16, m17, cp18, rfl, hGw15, hO19, hm20⟩
            have hO19 := hO19.low (b' := w.heap.size) hB.size
            have hB := ext_trans hB hGw15
            have hO19_l := hO19.rd.ulen
            refine WL.assign rfl rfl ?_
            refine WL.done ?_
            refine W.ret ?_
            refine ⟨_, rfl, ?_⟩
            have hO := hO19
            have hc2 : c = 0 := by omega
            subst hc2
            rw [Nat.mul_zero, Nat.add_zero, nv_take_all (by omega), nv_take_all (by omega)] at heq
            rw [digs_trim hLy, heq] at hO
            exact ⟨_, _, _, rfl, hB, hO, by omega⟩
    · rintro _u w21 ⟨hi2, rfl⟩
      refine W.seq ?_
      refine W.block ?_
      refine W.seq ?_
      refine W.region ?_
      refine WL.move rfl rfl ?_
      refine WL.move rfl rfl ?_
      refine WL.call Try.func92 rfl Try.nm92 rfl rfl (limb_c ha hLa (i) (by omega)) ?_
      rintro _ w22 ⟨rfl, hGw22⟩
      have hB := ext_trans hB hGw22
      have hb := hb0.ext hB
      have ho := ho.ext hGw22
      refine WL.move rfl rfl ?_
      refine WL.move rfl rfl ?_
      refine WL.call Try.func92 rfl Try.nm92 rfl rfl (limb_c hb hLb (i) (by omega)) ?_
      rintro _ w23 ⟨rfl, hGw23⟩
      have hB := ext_trans hB hGw23
      have ho := ho.ext hGw23
      refine WL.add (r := (((xa.getD i 0) + (xb.getD i 0) : Nat) : Int)) rfl rfl (wu64 (by omega) (by omega) (by omega)) rfl ?_
      refine WL.move rfl rfl ?_
      refine WL.add (r := ((((xa.getD i 0) + (xb.getD i 0)) + c : Nat) : Int)) rfl rfl (wu64 (by omega) (by omega) (by omega)) rfl ?_
      refine WL.assign rfl rfl ?_
      refine WL.done ?_
      refine W.seq ?_
      refine W.region ?_
      refine WL.move rfl rfl ?_
      refine WL.move rfl rfl ?_
      refine WL.rem (r := (((((xa.getD i 0) + (xb.getD i 0)) + c) % 4294967296 : Nat) : Int)) rfl rfl (by omega) (tmod_nat (by omega) (by omega)) rfl ?_
      refine WL.conv (r := (((((xa.getD i 0) + (xb.getD i 0)) + c) % 4294967296 : Nat) : Int)) Try.underlying72 Try.underlying43 rfl (wu32 (by omega) (by omega) (by omega)) rfl ?_
      refine WL.lit1 (b := w23.heap.size) Try.underlying23 Try.el43 rfl rfl rfl rfl (by intro v hv; simp only [List.mem_cons, List.not_mem_nil, or_false] at hv; rcases hv with rfl <;> rfl) (Nat.le_refl _) rfl ?_
      rintro A24 w25 - hO26 hGw25
      have hO26 := hO26.low (b' := w.heap.size) hB.size
      have hB := ext_trans hB hGw25
      have ho := ho.ext hGw25
      change Own _ _ _ _ _ _ _ (us [(((xa.getD i 0) + (xb.getD i 0)) + c) % 4294967296]) at hO26
      refine WL.append (i + 1) ((us (ys ++ ([(((xa.getD i 0) + (xb.getD i 0)) + c) % 4294967296])))) Try.underlying23 Try.el43 rfl rfl ho hO26.rd (us_one _) (by simp only [maxLen]; omega) (by omega) hB.size (by omega) (us_app rfl) rfl ?_
      have hOld30 := ho
      intro A27 cp28 w29 ho hGw29 hblw29
      have hB := ext_own hB hGw29 (fun g hg => (hOld30.bl_ge g hg).1)
      refine WL.assign rfl rfl ?_
      refine WL.done ?_
      refine W.region ?_
      refine WL.move rfl rfl ?_
      refine WL.quo (r := (((((xa.getD i 0) + (xb.getD i 0)) + c) / 4294967296 : Nat) : Int)) rfl rfl (by omega) (qu64 (by omega) (by omega) (by omega)) rfl ?_
      refine WL.assign rfl rfl ?_
      refine WL.done ?_
      refine W.region ?_
      refine WL.move rfl rfl ?_
      refine WL.add (r := ((i + 1 : Nat) : Int)) rfl rfl (wi64 (by omega) (by omega) (by omega)) rfl ?_
      refine WL.assign rfl rfl ?_
      refine WL.done ?_
      refine ⟨(i + 1, (xa.getD i 0 + xb.getD i 0 + c) / 4294967296, ys ++ [(xa.getD i 0 + xb.getD i 0 + c) % 4294967296], _, _), ⟨rfl, rfl, rfl, iv (by omega), iv (by omega), trivial⟩, by (dsimp only; omega), ?_⟩
      exact ⟨hB, by omega, by omega, fun h => by rw [getD_out (by omega : xa.length ≤ i), getD_out (by omega : xb.length ≤ i)]; omega, hLy.append (Lim.one (by omega)), by simp [hly], by rw [nv_take_succ, nv_take_succ, Nat.pow_succ]; exact add_step (by rw [hly]) heq rfl, ho⟩
end Go.Proofs.Ythfpcebcfjlkmab
set_option linter.unusedSimpArgs false
set_option linter.unusedVariables false
namespace Go.Proofs.Ythfpcebcfjlkmab
open Go.RowKit
theorem rSub_c {w : World} {Ba : Nat} {Aa : Option Addr} {ma ca : Nat} {xa : List Nat} (ha : Rd Ba w 1 Aa ma ca (us xa)) {Bb : Nat} {Ab : Option Addr} {mb cb : Nat} {xb : List Nat} (hb : Rd Bb w 1 Ab mb cb (us xb)) (hLa : Lim xa) (hLb : Lim xb) (hsa : ma ≤ 1099511627776) (hle : nv xb ≤ nv xa) :
    Calls Try.prog 71 #[.slice Aa ma ca, .slice Ab mb cb] w fun e w2 => ∃ v, e = .returned v ∧ (fun v w2 => ∃ A2 m2 c2, v = .slice A2 m2 c2 ∧ w.grownBy w2 none ∧ Own w.heap.size w2 43 1 A2 m2 c2 (us (digs (nv xa - nv xb))) ∧ m2 ≤ ma) v w2 := by
  have ha := ha.norm
  have ha_l := ha.ulen
  have ha_x := ha.max
  simp only [maxLen] at ha_x
  have ha_c := ha.cap
  have hb := hb.norm
  have hb_l := hb.ulen
  have hb_x := hb.max
  simp only [maxLen] at hb_x
  have hb_c := hb.cap
  have ha0 := ha
  have hb0 := hb
  have hB := ext_refl w
  refine calls_of_W (vs := [.slice Aa ma ca, .slice Ab mb cb]) [4] Try.func71 rfl rfl rfl rfl ?_
  refine W.seq ?_
  refine W.region ?_
  refine WL.assign rfl rfl ?_
  refine WL.done ?_
  refine W.seq ?_
  refine W.region ?_
  refine WL.assign rfl rfl ?_
  refine WL.done ?_
  refine W.seq ?_
  refine W.region ?_
  refine WL.assign rfl rfl ?_
  refine WL.done ?_
  refine W.seq ?_
  refine W.seq ?_
  refine W.region ?_
  refine WL.assign rfl rfl ?_
  refine WL.done ?_
  refine W.block ?_
  refine W.loop (σ := Nat × Nat × List Nat × Option Addr × Nat) (fun s w1 => match s with | (i, c, ys, Ao, co) => w.grownBy w1 none ∧ c ≤ 1 ∧ i ≤ ma ∧ Lim ys ∧ ys.length = i ∧ nv ys + nv (xb.take i) = nv (xa.take i) + 4294967296 ^ i * c ∧ Own w.heap.size w1 43 1 Ao i co (us ys)) (fun s => match s with | (i, c, ys, Ao, co) => [(0, .slice Aa ma ca), (1, .slice Ab mb cb), (5, .slice Ao i co), (6, .int .u64 ((c : Nat) : Int)), (7, .int .i64 ((i : Nat) : Int))]) (fun s => match s with | (i, c, ys, Ao, co) => ma - i) (0, 0, [], none, 0) ?_ ?_ ?_
  · exact ⟨ext_refl _, by omega, by omega, Lim.nil, rfl, by simp [nv], World.ownsRow_nil _ _ _ _⟩
  · exact ⟨rfl, rfl, rfl, iv (by omega), iv (by omega), trivial⟩
  · rintro ⟨i, c, ys, Ao, co⟩ w11 ⟨hB, hc, hi, hLy, hly, heq, ho⟩
    have ha := ha0.ext hB
    have hb := hb0.ext hB
    have hxa := hLa.getD i
    have hxb := hLb.getD i
    refine W.seq ?_
    refine W.seq ?_
    refine W.region ?_
    refine WL.move rfl rfl ?_
    refine WL.move rfl rfl ?_
    refine WL.len Try.underlying23 rfl rfl ?_
    refine WL.lss rfl rfl rfl (fun c12 => ?_) (fun c12 => ?_)
    · refine WL.done ?_
      refine W.condT rfl ?_
      refine W.skip ?_
      refine W.seq ?_
      refine W.block ?_
      refine W.seq ?_
      refine W.region ?_
      refine WL.move rfl rfl ?_
      refine WL.move rfl rfl ?_
      refine WL.call Try.func92 rfl Try.nm92 rfl rfl (limb_c ha hLa (i) (by omega)) ?_
      rintro _ w13 ⟨rfl, hGw13⟩
      have hB := ext_trans hB hGw13
      have hb := hb0.ext hB
      have ho := ho.ext hGw13
      refine WL.add (r := (((xa.getD i 0) + 4294967296 : Nat) : Int)) rfl rfl (wu64 (by omega) (by omega) (by omega)) rfl ?_
      refine WL.move rfl rfl ?_
      refine WL.move rfl rfl ?_
      refine WL.call Try.func92 rfl Try.nm92 rfl rfl (limb_c hb hLb (i) (by omega)) ?_
      rintro _ w14 ⟨rfl, hGw14⟩
      have hB := ext_trans hB hGw14
      have ho := ho.ext hGw14
      refine WL.sub (r := ((((xa.getD i 0) + 4294967296) - (xb.getD i 0) : Nat) : Int)) rfl rfl (wu64 (by omega) (by omega) (by omega)) rfl ?_
      refine WL.move rfl rfl ?_
      refine WL.sub (r := (((((xa.getD i 0) + 4294967296) - (xb.getD i 0)) - c : Nat) : Int)) rfl rfl (wu64 (by omega) (by omega) (by omega)) rfl ?_
      refine WL.assign rfl rfl ?_
      refine WL.done ?_
      refine W.seq ?_
      refine W.region ?_
      refine WL.move rfl rfl ?_
      refine WL.move rfl rfl ?_
      refine WL.rem (r := ((((((xa.getD i 0) + 4294967296) - (xb.getD i 0)) - c) % 4294967296 : Nat) : Int)) rfl rfl (by omega) (tmod_nat (by omega) (by omega)) rfl ?_
      refine WL.conv (r := ((((((xa.getD i 0) + 4294967296) - (xb.getD i 0)) - c) % 4294967296 : Nat) : Int)) Try.underlying72 Try.underlying43 rfl (wu32 (by omega) (by omega) (by omega)) rfl ?_
      refine WL.lit1 (b := w14.heap.size) Try.underlying23 Try.el43 rfl rfl rfl rfl (by intro v hv; simp only [List.mem_cons, List.not_mem_nil, or_false] at hv; rcases hv with rfl <;> rfl) (Nat.le_refl _) rfl ?_
      rintro A15 w16 - hO17 hGw16
      have hO17 := hO17.low (b' := w.heap.size) hB.size
      have hB := ext_trans hB hGw16
      have ho := ho.ext hGw16
      change Own _ _ _ _ _ _ _ (us [((((xa.getD i 0) + 4294967296) - (xb.getD i 0)) - c) % 4294967296]) at hO17
      refine WL.append (i + 1) ((us (ys ++ ([((((xa.getD i 0) + 4294967296) - (xb.getD i 0)) - c) % 4294967296])))) Try.underlying23 Try.el43 rfl rfl ho hO17.rd (us_one _) (by simp only [maxLen]; omega) (by omega) hB.size (by omega) (us_app rfl) rfl ?_
      have hOld21 := ho
      intro A18 cp19 w20 ho hGw20 hblw20
      have hB := ext_own hB hGw20 (fun g hg => (hOld21.bl_ge g hg).1)
      refine WL.assign rfl rfl ?_
      refine WL.done ?_
      refine W.region ?_
      refine WL.move rfl rfl ?_
      refine WL.quo (r := ((((((xa.getD i 0) + 4294967296) - (xb.getD i 0)) - c) / 4294967296 : Nat) : Int)) rfl rfl (by omega) (qu64 (by omega) (by omega) (by omega)) rfl ?_
      refine WL.sub (r := ((1 - (((((xa.getD i 0) + 4294967296) - (xb.getD i 0)) - c) / 4294967296) : Nat) : Int)) rfl rfl (wu64 (by omega) (by omega) (by omega)) rfl ?_
      refine WL.assign rfl rfl ?_
      refine WL.done ?_
      refine W.region ?_
      refine WL.move rfl rfl ?_
      refine WL.add (r := ((i + 1 : Nat) : Int)) rfl rfl (wi64 (by omega) (by omega) (by omega)) rfl ?_
      refine WL.assign rfl rfl ?_
      refine WL.done ?_
      refine ⟨(i + 1, 1 - (xa.getD i 0 + 4294967296 - xb.getD i 0 - c) / 4294967296, ys ++ [(xa.getD i 0 + 4294967296 - xb.getD i 0 - c) % 4294967296], _, _), ⟨rfl, rfl, rfl, iv (by omega), iv (by omega), trivial⟩, by (dsimp only; omega), ?_⟩
      have hst := sub_step (by rw [hly]) heq hc hxb rfl hxa
      exact ⟨hB, hst.2, by omega, hLy.append (Lim.one (by omega)), by simp [hly], by rw [nv_take_succ, nv_take_succ, Nat.pow_succ]; exact hst.1, ho⟩
    · refine WL.done ?_
      refine W.condF rfl ?_
      refine W.exit ?_
      refine W.seq ?_
      refine W.region ?_
      refine WL.move rfl rfl ?_
      refine WL.call Try.func88 rfl Try.nm88 rfl rfl (rTrim_c ho.rd (by omega)) ?_
      rintro _ w22 ⟨A23, m24, cp25, rfl, hGw22, hO26, hm27⟩
      have hO26 := hO26.low (b' := w.heap.size) hB.size
      have hB := ext_trans hB hGw22
      have hO26_l := hO26.rd.ulen
      refine WL.assign rfl rfl ?_
      refine WL.done ?_
      refine W.ret ?_
      refine ⟨_, rfl, ?_⟩
      have hO := hO26
      have hi2 : i = ma := by omega
      subst hi2
      rw [nv_take_all (l := xa) (by omega)] at heq
      rw [digs_trim hLy, sub_end hLy hLb (by rw [hly]; exact heq) hle (by rw [hly, ← ha_l]; exact nv_lt hLa)] at hO
      exact ⟨_, _, _, rfl, hB, hO, by omega⟩

theorem Add32_c {w : World} (x y c : Nat) {X Y Z : Int} (hX : X = x) (hY : Y = y) (hZ : Z = c) (hx : x < 4294967296) (hy : y < 4294967296) (hc : c < 4294967296) :
    Calls Try.prog 78 #[.int .u32 X, .int .u32 Y, .int .u32 Z] w fun e w2 => ∃ v, e = .returned v ∧ (fun v w2 => v = .tuple #[.int .u32 (((x + y + c) % 4294967296 : Nat) : Int), .int .u32 (((x + y + c) / 4294967296 : Nat) : Int)] ∧ w.grownBy w2 none) v w2 := by
  have hB := ext_refl w
  refine calls_of_W (vs := [.int .u32 X, .int .u32 Y, .int .u32 Z]) [6, 7] Try.func78 rfl rfl rfl rfl ?_
  refine W.seq ?_
  refine W.region ?_
  refine WL.assign rfl rfl ?_
  refine WL.assign rfl rfl ?_
  refine WL.done ?_
  refine W.seq ?_
  refine W.region ?_
  refine WL.move rfl rfl ?_
  refine WL.conv (r := X) Try.underlying43 Try.underlying72 rfl (wu64 (by omega) (by omega) (by omega)) rfl ?_
  refine WL.move rfl rfl ?_
  refine WL.conv (r := Y) Try.underlying43 Try.underlying72 rfl (wu64 (by omega) (by omega) (by omega)) rfl ?_
  refine WL.add (r := ((x + y : Nat) : Int)) rfl rfl (wu64 (by omega) (by omega) (by omega)) rfl ?_
  refine WL.move rfl rfl ?_
  refine WL.conv (r := Z) Try.underlying43 Try.underlying72 rfl (wu64 (by omega) (by omega) (by omega)) rfl ?_
  refine WL.add (r := (((x + y) + c : Nat) : Int)) rfl rfl (wu64 (by omega) (by omega) (by omega)) rfl ?_
  refine WL.assign rfl rfl ?_
  refine WL.done ?_
  refine W.seq ?_
  refine W.region ?_
  refine WL.move rfl rfl ?_
  refine WL.conv (r := (((x + y + c) % 4294967296 : Nat) : Int)) Try.underlying72 Try.underlying43 rfl (wu32m (by omega)) rfl ?_
  refine WL.assign rfl rfl ?_
  refine WL.done ?_
  refine W.seq ?_
  refine W.region ?_
  refine WL.move rfl rfl ?_
  refine WL.shr (r := ((((x + y) + c) / 4294967296 : Nat) : Int)) rfl rfl (by omega) (shr_nat (a := (x + y) + c) (s := 32) (by omega) (by omega) 64 (by omega)) rfl ?_
  refine WL.conv (r := ((((x + y) + c) / 4294967296 : Nat) : Int)) Try.underlying72 Try.underlying43 rfl (wu32 (by omega) (by omega) (by omega)) rfl ?_
  refine WL.assign rfl rfl ?_
  refine WL.done ?_
  refine W.ret ?_
  refine ⟨_, rfl, ?_⟩
  exact ⟨rfl, hB⟩

theorem Cmp_c {w : World} {Ba : Nat} {Aa : Option Addr} {ma ca : Nat} {xa : List Nat} (ha : Rd Ba w 1 Aa ma ca (us xa)) {Bb : Nat} {Ab : Option Addr} {mb cb : Nat} {xb : List Nat} (hb : Rd Bb w 1 Ab mb cb (us xb)) (hLa : Lim xa) (hLb : Lim xb) :
    Calls Try.prog 72 #[.slice Aa ma ca, .slice Ab mb cb] w fun e w2 => ∃ v, e = .returned v ∧ (fun v w2 => v = .int .i64 (cmpI (nv xa) (nv xb)) ∧ w.grownBy w2 none) v w2 := by
  have ha := ha.norm
  have ha_l := ha.ulen
  have ha_x := ha.max
  simp only [maxLen] at ha_x
  have ha_c := ha.cap
  have hb := hb.norm
  have hb_l := hb.ulen
  have hb_x := hb.max
  simp only [maxLen] at hb_x
  have hb_c := hb.cap
  have ha0 := ha
  have hb0 := hb
  have hsa := sigL_le xa
  have hsb := sigL_le xb
  have hB := ext_refl w
  refine calls_of_W (vs := [.slice Aa ma ca, .slice Ab mb cb]) [4] Try.func72 rfl rfl rfl rfl ?_
  refine W.seq ?_
  refine W.region ?_
  refine WL.assign rfl rfl ?_
  refine WL.done ?_
  refine W.seq ?_
  refine W.region ?_
  refine WL.move rfl rfl ?_
  refine WL.call Try.func44 rfl Try.nm44 rfl rfl (sig_c ha) ?_
  rintro _ w11 ⟨rfl, hGw11⟩
  have hB := ext_trans hB hGw11
  have ha := ha0.ext hB
  have hb := hb0.ext hB
  refine WL.move rfl rfl ?_
  refine WL.call Try.func44 rfl Try.nm44 rfl rfl (sig_c hb) ?_
  rintro _ w12 ⟨rfl, hGw12⟩
  have hB := ext_trans hB hGw12
  have ha := ha0.ext hB
  have hb := hb0.ext hB
  refine WL.assign rfl rfl ?_
  refine WL.assign rfl rfl ?_
  refine WL.done ?_
  refine W.seq ?_
  refine W.seq ?_
  refine W.region ?_
  refine WL.move rfl rfl ?_
  refine WL.len Try.underlying23 rfl rfl ?_
  refine WL.move rfl rfl ?_
  refine WL.len Try.underlying23 rfl rfl ?_
  refine WL.neq rfl rfl rfl (fun c13 => ?_) (fun c13 => ?_)
  · refine WL.done ?_
    refine W.condT rfl ?_
    refine W.seq ?_
    refine W.region ?_
    refine WL.move rfl rfl ?_
    refine WL.len Try.underlying23 rfl rfl ?_
    refine WL.move rfl rfl ?_
    refine WL.len Try.underlying23 rfl rfl ?_
    refine WL.lss rfl rfl rfl (fun c14 => ?_) (fun c14 => ?_)
    · refine WL.call Try.func93 rfl Try.nm93 rfl rfl (order_c _) ?_
      rintro _ w15 ⟨rfl, hGw15⟩
      have hB := ext_trans hB hGw15
      refine WL.assign rfl rfl ?_
      refine WL.done ?_
      refine W.ret ?_
      refine ⟨_, rfl, ?_⟩
      rw [cmpI_lt (sigL_lt hLa (by omega))]; exact ⟨rfl, hB⟩
    · refine WL.call Try.func93 rfl Try.nm93 rfl rfl (order_c _) ?_
      rintro _ w16 ⟨rfl, hGw16⟩
      have hB := ext_trans hB hGw16
      refine WL.assign rfl rfl ?_
      refine WL.done ?_
      refine W.ret ?_
      refine ⟨_, rfl, ?_⟩
      rw [cmpI_gt (sigL_lt hLb (by omega))]; exact ⟨rfl, hB⟩
  · refine WL.done ?_
    refine W.condF rfl ?_
    refine W.skip ?_
    refine W.seq ?_
    refine W.seq ?_
    refine W.region ?_
    refine WL.move rfl rfl ?_
    refine WL.len Try.underlying23 rfl rfl ?_
    refine WL.sub (r := (((sigL xa : Nat) : Int) - (1 : Int))) rfl rfl (wi64 (by omega) (by omega) (by omega)) rfl ?_
    refine WL.assign rfl rfl ?_
    refine WL.done ?_
    refine W.block ?_
    refine W.loop (σ := Nat) (fun k w1 => w.grownBy w1 none ∧ k ≤ sigL xa ∧ nv (xa.drop k) = nv (xb.drop k)) (fun k => [(0, .slice Aa (sigL xa) ca), (1, .slice Ab (sigL xb) cb), (5, .int .i64 ((k : Int) - 1))]) (fun k => k) (sigL xa) ?_ ?_ ?_
    · exact ⟨hB, Nat.le_refl _, by rw [nv_drop_sig xa (Nat.le_refl _), nv_drop_sig xb (by omega)]⟩
    · exact ⟨rfl, rfl, iv (by omega), trivial⟩
    · rintro k w17 ⟨hB, hk, heq⟩
      have ha := ha0.ext hB
      have hb := hb0.ext hB
      have hta : 0 < k → (trimL xa).getD (k - 1) 0 = xa.getD (k - 1) 0 := fun _ => trimL_getD (by omega)
      have htb : 0 < k → (trimL xb).getD (k - 1) 0 = xb.getD (k - 1) 0 := fun _ => trimL_getD (by omega)
      have hla : (trimL xa).length = sigL xa := rfl
      have hlb : (trimL xb).length = sigL xb := rfl
      refine W.seq ?_
      refine W.seq ?_
      refine W.region ?_
      refine WL.move rfl rfl ?_
      refine WL.geq rfl rfl rfl (fun c18 => ?_) (fun c18 => ?_)
      · refine WL.done ?_
        refine W.condT rfl ?_
        refine W.skip ?_
        refine W.seq ?_
        refine W.block ?_
        refine W.seq ?_
        refine W.draw [⟨[], [0], true⟩, ⟨[], [5], true⟩, ⟨[0, 1], [], true⟩, ⟨[2], [], false⟩, ⟨[], [1], true⟩, ⟨[], [5], true⟩, ⟨[4, 5], [], true⟩, ⟨[6], [], false⟩, ⟨[3, 7], [], true⟩] [[(0, .slice Aa (sigL xa) ca)], [(5, .int .i64 ((k : Int) - 1))], [], [], [(1, .slice Ab (sigL xb) cb)], [(5, .int .i64 ((k : Int) - 1))], [], [], []] (fun iQ => [fun v _ => v = .slice Aa (sigL xa) ca, fun v _ => v = .int .i64 ((k : Int) - 1), fun v _ => v = .pointer (some ((adOf Aa).add (k - 1))), fun v _ => v = .int .u32 (((trimL xa).getD (k - 1) 0 : Nat) : Int), fun v _ => v = .slice Ab (sigL xb) cb, fun v _ => v = .int .i64 ((k : Int) - 1), fun v _ => v = .pointer (some ((adOf Ab).add (k - 1))), fun v _ => v = .int .u32 (((trimL xb).getD (k - 1) 0 : Nat) : Int), fun v _ => v = .bool (decide ((((trimL xa).getD (k - 1) 0 : Nat) : Int) ≠ (((trimL xb).getD (k - 1) 0 : Nat) : Int)))].getD iQ (fun _ _ => True)) (fun _ => True) 9 Try.mixed (by kernel_rfl) ?_ ?_ ?_
        · refine Vs_mono _ ?_
          intro VQ hVQ vQ wQ1 wQ2 hQ1 hQ2
          simp only [List.mem_cons, List.not_mem_nil, or_false] at hVQ
          rcases hVQ with rfl | rfl | rfl | rfl | rfl | rfl | rfl | rfl | rfl <;> exact hQ1
        · refine ⟨⟨rfl, ⟨rfl, trivial⟩, ?_⟩, ⟨rfl, ⟨rfl, trivial⟩, ?_⟩, ⟨rfl, trivial, ?_⟩, ⟨rfl, trivial, ?_⟩, ⟨rfl, ⟨rfl, trivial⟩, ?_⟩, ⟨rfl, ⟨rfl, trivial⟩, ?_⟩, ⟨rfl, trivial, ?_⟩, ⟨rfl, trivial, ?_⟩, ⟨rfl, trivial, ?_⟩, trivial⟩
          · intro w19 hE
            intro R
            refine WL.move rfl rfl ?_
            exact WL.done ⟨_, rfl, rfl, rfl⟩
          · intro w20 hE
            intro R
            refine WL.move rfl rfl ?_
            exact WL.done ⟨_, rfl, rfl, rfl⟩
          · intro w21 hE
            rintro _ rfl
            rintro _ rfl
            intro R
            refine WL.index1 (k - 1) Try.underlying23 Try.el43 rfl rfl (by omega) (by omega) ha.sig rfl ?_
            exact WL.done ⟨_, rfl, rfl, rfl⟩
          · intro w22 hE
            have hE := hE rfl
            have hB := ext_trans hB hE
            have ha := ha0.ext hB
            rintro _ rfl
            intro R
            refine WL.load Try.underlying43 rfl rfl (Rd.at_ ha.sig (us_at (by omega))) rfl ?_
            exact WL.done ⟨_, rfl, ext_refl _, rfl⟩
          · intro w23 hE
            intro R
            refine WL.move rfl rfl ?_
            exact WL.done ⟨_, rfl, rfl, rfl⟩
          · intro w24 hE
            intro R
            refine WL.move rfl rfl ?_
            exact WL.done ⟨_, rfl, rfl, rfl⟩
          · intro w25 hE
            rintro _ rfl
            rintro _ rfl
            intro R
            refine WL.index1 (k - 1) Try.underlying23 Try.el43 rfl rfl (by omega) (by omega) hb.sig rfl ?_
            exact WL.done ⟨_, rfl, rfl, rfl⟩
          · intro w26 hE
            have hE := hE rfl
            have hB := ext_trans hB hE
            have hb := hb0.ext hB
            rintro _ rfl
            intro R
            refine WL.load Try.underlying43 rfl rfl (Rd.at_ hb.sig (us_at (by omega))) rfl ?_
            exact WL.done ⟨_, rfl, ext_refl _, rfl⟩
          · intro w27 hE
            rintro _ rfl
            rintro _ rfl
            intro R
            refine WL.neqD rfl rfl rfl ?_
            exact WL.done ⟨_, rfl, rfl, rfl⟩
        · intro vals w28 hT hVs
          rw [if_neg (by decide)] at hT
          have hB := ext_trans hB hT
          have ha := ha0.ext hB
          have hb := hb0.ext hB
          have hv0 : vals 0 = _ := hVs 0 (by decide) (by decide)
          have hv1 : vals 1 = _ := hVs 1 (by decide) (by decide)
          have hv2 : vals 2 = _ := hVs 2 (by decide) (by decide)
          have hv3 : vals 3 = _ := hVs 3 (by decide) (by decide)
          have hv4 : vals 4 = _ := hVs 4 (by decide) (by decide)
          have hv5 : vals 5 = _ := hVs 5 (by decide) (by decide)
          have hv6 : vals 6 = _ := hVs 6 (by decide) (by decide)
          have hv7 : vals 7 = _ := hVs 7 (by decide) (by decide)
          have hv8 : vals 8 = _ := hVs 8 (by decide) (by decide)
          rw [show (List.filterMap (fun i => Option.map (fun t => (t, vals i)) (dstAt _ i)) (List.range _)) = [(28, .slice Aa (sigL xa) ca), (29, .int .i64 ((k : Int) - 1)), (30, .pointer (some ((adOf Aa).add (k - 1)))), (31, .int .u32 (((trimL xa).getD (k - 1) 0 : Nat) : Int)), (32, .slice Ab (sigL xb) cb), (33, .int .i64 ((k : Int) - 1)), (34, .pointer (some ((adOf Ab).add (k - 1)))), (35, .int .u32 (((trimL xb).getD (k - 1) 0 : Nat) : Int)), (36, .bool (decide ((((trimL xa).getD (k - 1) 0 : Nat) : Int) ≠ (((trimL xb).getD (k - 1) 0 : Nat) : Int))))] from by
            show [(28, vals 0), (29, vals 1), (30, vals 2), (31, vals 3), (32, vals 4), (33, vals 5), (34, vals 6), (35, vals 7), (36, vals 8)] = _
            rw [hv0, hv1, hv2, hv3, hv4, hv5, hv6, hv7, hv8]]
          refine W.cond2 rfl (fun c29 => ?_) (fun c29 => ?_)
          · have c29 := of_decide_eq_true c29
            refine W.seq ?_
            refine W.draw [⟨[], [0], true⟩, ⟨[], [5], true⟩, ⟨[0, 1], [], true⟩, ⟨[2], [], false⟩, ⟨[], [1], true⟩, ⟨[], [5], true⟩, ⟨[4, 5], [], true⟩, ⟨[6], [], false⟩, ⟨[3, 7], [], true⟩, ⟨[8], [], false⟩, ⟨[9], [], true⟩] [[(0, .slice Aa (sigL xa) ca)], [(5, .int .i64 ((k : Int) - 1))], [], [], [(1, .slice Ab (sigL xb) cb)], [(5, .int .i64 ((k : Int) - 1))], [], [], [], [], []] (fun iQ => [fun v _ => v = .slice Aa (sigL xa) ca, fun v _ => v = .int .i64 ((k : Int) - 1), fun v _ => v = .pointer (some ((adOf Aa).add (k - 1))), fun v _ => v = .int .u32 (((trimL xa).getD (k - 1) 0 : Nat) : Int), fun v _ => v = .slice Ab (sigL xb) cb, fun v _ => v = .int .i64 ((k : Int) - 1), fun v _ => v = .pointer (some ((adOf Ab).add (k - 1))), fun v _ => v = .int .u32 (((trimL xb).getD (k - 1) 0 : Nat) : Int), fun v _ => v = .bool (decide ((((trimL xa).getD (k - 1) 0 : Nat) : Int) < (((trimL xb).getD (k - 1) 0 : Nat) : Int))), fun v _ => v = .int .i64 (if (decide ((((trimL xa).getD (k - 1) 0 : Nat) : Int) < (((trimL xb).getD (k - 1) 0 : Nat) : Int))) then -1 else 1), fun v _ => v = .int .i64 (if (decide ((((trimL xa).getD (k - 1) 0 : Nat) : Int) < (((trimL xb).getD (k - 1) 0 : Nat) : Int))) then -1 else 1)].getD iQ (fun _ _ => True)) (fun _ => True) 11 Try.mixed (by kernel_rfl) ?_ ?_ ?_
            · refine Vs_mono _ ?_
              intro VQ hVQ vQ wQ1 wQ2 hQ1 hQ2
              simp only [List.mem_cons, List.not_mem_nil, or_false] at hVQ
              rcases hVQ with rfl | rfl | rfl | rfl | rfl | rfl | rfl | rfl | rfl | rfl | rfl <;> exact hQ1
            · refine ⟨⟨rfl, ⟨rfl, trivial⟩, ?_⟩, ⟨rfl, ⟨rfl, trivial⟩, ?_⟩, ⟨rfl, trivial, ?_⟩, ⟨rfl, trivial, ?_⟩, ⟨rfl, ⟨rfl, trivial⟩, ?_⟩, ⟨rfl, ⟨rfl, trivial⟩, ?_⟩, ⟨rfl, trivial, ?_⟩, ⟨rfl, trivial, ?_⟩, ⟨rfl, trivial, ?_⟩, ⟨rfl, trivial, ?_⟩, ⟨rfl, trivial, ?_⟩, trivial⟩
              · intro w30 hE
                intro R
                refine WL.move rfl rfl ?_
                exact WL.done ⟨_, rfl, rfl, rfl⟩
              · intro w31 hE
                intro R
                refine WL.move rfl rfl ?_
                exact WL.done ⟨_, rfl, rfl, rfl⟩
              · intro w32 hE
                rintro _ rfl
                rintro _ rfl
                intro R
                refine WL.index1 (k - 1) Try.underlying23 Try.el43 rfl rfl (by omega) (by omega) ha.sig rfl ?_
                exact WL.done ⟨_, rfl, rfl, rfl⟩
              · intro w33 hE
                have hE := hE rfl
                have hB := ext_trans hB hE
                have ha := ha0.ext hB
                rintro _ rfl
                intro R
                refine WL.load Try.underlying43 rfl rfl (Rd.at_ ha.sig (us_at (by omega))) rfl ?_
                exact WL.done ⟨_, rfl, ext_refl _, rfl⟩
              · intro w34 hE
                intro R
                refine WL.move rfl rfl ?_
                exact WL.done ⟨_, rfl, rfl, rfl⟩
              · intro w35 hE
                intro R
                refine WL.move rfl rfl ?_
                exact WL.done ⟨_, rfl, rfl, rfl⟩
              · intro w36 hE
                rintro _ rfl
                rintro _ rfl
                intro R
                refine WL.index1 (k - 1) Try.underlying23 Try.el43 rfl rfl (by omega) (by omega) hb.sig rfl ?_
                exact WL.done ⟨_, rfl, rfl, rfl⟩
              · intro w37 hE
                have hE := hE rfl
                have hB := ext_trans hB hE
                have hb := hb0.ext hB
                rintro _ rfl
                intro R
                refine WL.load Try.underlying43 rfl rfl (Rd.at_ hb.sig (us_at (by omega))) rfl ?_
                exact WL.done ⟨_, rfl, ext_refl _, rfl⟩
              · intro w38 hE
                rintro _ rfl
                rintro _ rfl
                intro R
                refine WL.lssD rfl rfl rfl ?_
                exact WL.done ⟨_, rfl, rfl, rfl⟩
              · intro w39 hE
                have hE := hE rfl
                have hB := ext_trans hB hE
                rintro _ rfl
                intro R
                refine WL.call Try.func93 rfl Try.nm93 rfl rfl (order_c _) ?_
                rintro _ w40 ⟨rfl, hGw40⟩
                have hB := ext_trans hB hGw40
                exact WL.done ⟨_, rfl, hGw40, rfl⟩
              · intro w41 hE
                rintro _ rfl
                intro R
                refine WL.assign rfl rfl ?_
                exact WL.done ⟨_, rfl, rfl, rfl⟩
            · intro vals w42 hT hVs
              rw [if_neg (by decide)] at hT
              have hB := ext_trans hB hT
              have hv0 : vals 0 = _ := hVs 0 (by decide) (by decide)
              have hv1 : vals 1 = _ := hVs 1 (by decide) (by decide)
              have hv2 : vals 2 = _ := hVs 2 (by decide) (by decide)
              have hv3 : vals 3 = _ := hVs 3 (by decide) (by decide)
              have hv4 : vals 4 = _ := hVs 4 (by decide) (by decide)
              have hv5 : vals 5 = _ := hVs 5 (by decide) (by decide)
              have hv6 : vals 6 = _ := hVs 6 (by decide) (by decide)
              have hv7 : vals 7 = _ := hVs 7 (by decide) (by decide)
              have hv8 : vals 8 = _ := hVs 8 (by decide) (by decide)
              have hv9 : vals 9 = _ := hVs 9 (by decide) (by decide)
              have hv10 : vals 10 = _ := hVs 10 (by decide) (by decide)
              rw [show (List.filterMap (fun i => Option.map (fun t => (t, vals i)) (dstAt _ i)) (List.range _)) = [(37, .slice Aa (sigL xa) ca), (38, .int .i64 ((k : Int) - 1)), (39, .pointer (some ((adOf Aa).add (k - 1)))), (40, .int .u32 (((trimL xa).getD (k - 1) 0 : Nat) : Int)), (41, .slice Ab (sigL xb) cb), (42, .int .i64 ((k : Int) - 1)), (43, .pointer (some ((adOf Ab).add (k - 1)))), (44, .int .u32 (((trimL xb).getD (k - 1) 0 : Nat) : Int)), (45, .bool (decide ((((trimL xa).getD (k - 1) 0 : Nat) : Int) < (((trimL xb).getD (k - 1) 0 : Nat) : Int)))), (46, .int .i64 (if (decide ((((trimL xa).getD (k - 1) 0 : Nat) : Int) < (((trimL xb).getD (k - 1) 0 : Nat) : Int))) then -1 else 1)), (4, .int .i64 (if (decide ((((trimL xa).getD (k - 1) 0 : Nat) : Int) < (((trimL xb).getD (k - 1) 0 : Nat) : Int))) then -1 else 1))] from by
                show [(37, vals 0), (38, vals 1), (39, vals 2), (40, vals 3), (41, vals 4), (42, vals 5), (43, vals 6), (44, vals 7), (45, vals 8), (46, vals 9), (4, vals 10)] = _
                rw [hv0, hv1, hv2, hv3, hv4, hv5, hv6, hv7, hv8, hv9, hv10]]
              refine W.ret ?_
              refine ⟨_, rfl, ?_⟩
              refine ⟨?_, hB⟩
              have h1 := hta (by omega)
              have h2 := htb (by omega)
              rcases Nat.lt_or_ge (xa.getD (k - 1) 0) (xb.getD (k - 1) 0) with h3 | h3
              · rw [cmpI_lt (nv_lt_at hLa (i := k - 1) (by rw [Nat.sub_add_cancel (by omega)]; exact heq) h3), decide_eq_true (by omega)]; rfl
              · rw [cmpI_gt (nv_lt_at hLb (i := k - 1) (by rw [Nat.sub_add_cancel (by omega)]; exact heq.symm) (by omega)), decide_eq_false (by omega)]; rfl
          · have c29 := of_decide_eq_false c29
            refine W.skip ?_
            refine W.region ?_
            refine WL.move rfl rfl ?_
            refine WL.sub (r := ((k : Int) - 1 - 1)) rfl rfl (wi64 (by omega) (by omega) (by omega)) rfl ?_
            refine WL.assign rfl rfl ?_
            refine WL.done ?_
            refine ⟨k - 1, ⟨rfl, rfl, iv (by omega), trivial⟩, by omega, ?_⟩
            exact ⟨hB, by omega, drop_step (by rw [Nat.sub_add_cancel (by omega)]; exact heq) (by omega)⟩
      · refine WL.done ?_
        refine W.condF rfl ?_
        refine W.exit ?_
        refine W.seq ?_
        refine W.region ?_
        refine WL.assign rfl rfl ?_
        refine WL.done ?_
        refine W.ret ?_
        refine ⟨_, rfl, ?_⟩
        have : k = 0 := by omega
        subst this
        simp only [List.drop_zero] at heq
        rw [cmpI_eq heq]; exact ⟨rfl, hB⟩

theorem rMul_c {w : World} {Ba : Nat} {Aa : Option Addr} {ma ca : Nat} {xa : List Nat} (ha : Rd Ba w 1 Aa ma ca (us xa)) {Bb : Nat} {Ab : Option Addr} {mb cb : Nat} {xb : List Nat} (hb : Rd Bb w 1 Ab mb cb (us xb)) (hLa : Lim xa) (hLb : Lim xb) (hsa : ma ≤ 1099511627776) (hsb : mb ≤ 1099511627776) :
    Calls Try.prog 68 #[.slice Aa ma ca, .slice Ab mb cb] w fun e w2 => ∃ v, e = .returned v ∧ (fun v w2 => ∃ A2 m2 c2, v = .slice A2 m2 c2 ∧ w.grownBy w2 none ∧ Own w.heap.size w2 43 1 A2 m2 c2 (us (digs (nv xa * nv xb))) ∧ m2 ≤ ma + mb) v w2 := by
  have ha := ha.norm
  have ha_l := ha.ulen
  have ha_x := ha.max
  simp only [maxLen] at ha_x
  have ha_c := ha.cap
  have hb := hb.norm
  have hb_l := hb.ulen
  have hb_x := hb.max
  simp only [maxLen] at hb_x
  have hb_c := hb.cap
  have ha0 := ha
  have hb0 := hb
  have hB := ext_refl w
  refine calls_of_W (vs := [.slice Aa ma ca, .slice Ab mb cb]) [4] Try.func68 rfl rfl rfl rfl ?_
  refine W.seq ?_
  refine W.region ?_
  refine WL.assign rfl rfl ?_
  refine WL.done ?_
  refine W.seq ?_
  refine W.region ?_
  refine WL.move rfl rfl ?_
  refine WL.len Try.underlying23 rfl rfl ?_
  refine WL.move rfl rfl ?_
  refine WL.len Try.underlying23 rfl rfl ?_
  refine WL.add (r := ((ma + mb : Nat) : Int)) rfl rfl (wi64 (by omega) (by omega) (by omega)) rfl ?_
  refine WL.make (w.heap.size) (ma + mb) Try.underlying23 Try.el43 rfl rfl (by omega) (by omega) (by simp only [maxLen]; omega) (Nat.le_of_eq rfl) rfl ?_
  rintro A11 w12 - ho hGw12
  rw [made_us] at ho
  have ho := ho.low (b' := w.heap.size) hB.size
  have hB := ext_trans hB hGw12
  have ha := ha0.ext hB
  have hb := hb0.ext hB
  refine WL.assign rfl rfl ?_
  refine WL.done ?_
  refine W.seq ?_
  refine W.seq ?_
  refine W.region ?_
  refine WL.assign rfl rfl ?_
  refine WL.done ?_
  refine W.block ?_
  refine W.loop (σ := Nat × Nat × List Nat × Option Addr × Nat) (fun s w1 => match s with | (i, n, zs, Ao, co) => w.grownBy w1 none ∧ i ≤ ma ∧ n = ma + mb ∧ Lim zs ∧ zs.length = n ∧ (∀ t, i + mb ≤ t → zs.getD t 0 = 0) ∧ nv zs = nv (xa.take i) * nv xb ∧ Own w.heap.size w1 43 1 Ao n co (us zs)) (fun s => match s with | (i, n, zs, Ao, co) => [(0, .slice Aa ma ca), (1, .slice Ab mb cb), (5, .slice Ao n co), (6, .int .i64 ((i : Nat) : Int))]) (fun s => match s with | (i, n, zs, Ao, co) => ma - i) (0, ma + mb, List.replicate (ma + mb) 0, A11, ma + mb) ?_ ?_ ?_
  · exact ⟨hB, by omega, rfl, Lim.zeros _, by simp, fun t _ => zeros_getD _ _, by simp [nv_zeros], ho⟩
  · exact ⟨rfl, rfl, rfl, iv (by omega), trivial⟩
  · rintro ⟨i, n, zs, Ao, co⟩ w13 ⟨hB, hi, hn, hLz, hlz, h0z, heq, ho⟩
    have ha := ha0.ext hB
    have hb := hb0.ext hB
    refine W.seq ?_
    refine W.seq ?_
    refine W.region ?_
    refine WL.move rfl rfl ?_
    refine WL.move rfl rfl ?_
    refine WL.len Try.underlying23 rfl rfl ?_
    refine WL.lss rfl rfl rfl (fun c14 => ?_) (fun c14 => ?_)
    · refine WL.done ?_
      refine W.condT rfl ?_
      refine W.skip ?_
      refine W.seq ?_
      refine W.block ?_
      refine W.seq ?_
      refine W.region ?_
      refine WL.assign rfl rfl ?_
      refine WL.done ?_
      refine W.seq ?_
      refine W.seq ?_
      refine W.region ?_
      refine WL.assign rfl rfl ?_
      refine WL.done ?_
      refine W.block ?_
      refine W.loop (σ := Nat × Nat × List Nat × Option Addr × Nat) (fun s w1 => match s with | (j, c, zs, Ao, co) => w.grownBy w1 none ∧ j ≤ mb ∧ c < 4294967296 ∧ Lim zs ∧ zs.length = n ∧ (∀ t, i + mb ≤ t → zs.getD t 0 = 0) ∧ nv zs + 4294967296 ^ (i + j) * c = nv (xa.take i) * nv xb + 4294967296 ^ i * (xa.getD i 0 * nv (xb.take j)) ∧ Own w.heap.size w1 43 1 Ao n co (us zs)) (fun s => match s with | (j, c, zs, Ao, co) => [(0, .slice Aa ma ca), (1, .slice Ab mb cb), (5, .slice Ao n co), (6, .int .i64 ((i : Nat) : Int)), (7, .int .u64 ((c : Nat) : Int)), (8, .int .i64 ((j : Nat) : Int))]) (fun s => match s with | (j, c, zs, Ao, co) => mb - j) (0, 0, zs, Ao, co) ?_ ?_ ?_
      · exact ⟨hB, by omega, by omega, hLz, hlz, h0z, by simpa [nv] using heq, ho⟩
      · exact ⟨rfl, rfl, rfl, iv (by omega), iv (by omega), iv (by omega), trivial⟩
      · rintro ⟨j, c, zs, Ao, co⟩ w15 ⟨hB, hj, hc, hLz, hlz, h0z, heq, ho⟩
        have ha := ha0.ext hB
        have hb := hb0.ext hB
        have hxa := hLa.getD i
        have hxb := hLb.getD j
        have hz := hLz.getD (i + j)
        have hm1 := mul_lim hxa hxb hz hc
        have hm0 := mul_lim0 hxa hxb
        refine W.seq ?_
        refine W.seq ?_
        refine W.region ?_
        refine WL.move rfl rfl ?_
        refine WL.move rfl rfl ?_
        refine WL.len Try.underlying23 rfl rfl ?_
        refine WL.lss rfl rfl rfl (fun c16 => ?_) (fun c16 => ?_)
        · refine WL.done ?_
          refine W.condT rfl ?_
          refine W.skip ?_
          refine W.seq ?_
          refine W.block ?_
          refine W.seq ?_
          refine W.draw [⟨[], [0], true⟩, ⟨[], [6], true⟩, ⟨[0, 1], [], true⟩, ⟨[2], [], false⟩, ⟨[3], [], true⟩, ⟨[], [1], true⟩, ⟨[], [8], true⟩, ⟨[5, 6], [], true⟩, ⟨[7], [], false⟩, ⟨[8], [], true⟩, ⟨[4, 9], [], true⟩, ⟨[], [5], true⟩, ⟨[], [6], true⟩, ⟨[], [8], true⟩, ⟨[12, 13], [], true⟩, ⟨[11, 14], [], true⟩, ⟨[15], [], false⟩, ⟨[16], [], true⟩, ⟨[10, 17], [], true⟩, ⟨[], [7], true⟩, ⟨[18, 19], [], true⟩, ⟨[20], [], true⟩] [[(0, .slice Aa ma ca)], [(6, .int .i64 ((i : Nat) : Int))], [], [], [], [(1, .slice Ab mb cb)], [(8, .int .i64 ((j : Nat) : Int))], [], [], [], [], [(5, .slice Ao n co)], [(6, .int .i64 ((i : Nat) : Int))], [(8, .int .i64 ((j : Nat) : Int))], [], [], [], [], [], [(7, .int .u64 ((c : Nat) : Int))], [], []] (fun iQ => [fun v _ => v = .slice Aa ma ca, fun v _ => v = .int .i64 ((i : Nat) : Int), fun v _ => v = .pointer (some ((adOf Aa).add i)), fun v _ => v = .int .u32 ((xa.getD i 0 : Nat) : Int), fun v _ => v = .int .u64 ((xa.getD i 0 : Nat) : Int), fun v _ => v = .slice Ab mb cb, fun v _ => v = .int .i64 ((j : Nat) : Int), fun v _ => v = .pointer (some ((adOf Ab).add j)), fun v _ => v = .int .u32 ((xb.getD j 0 : Nat) : Int), fun v _ => v = .int .u64 ((xb.getD j 0 : Nat) : Int), fun v _ => v = .int .u64 (((xa.getD i 0) * (xb.getD j 0) : Nat) : Int), fun v _ => v = .slice Ao n co, fun v _ => v = .int .i64 ((i : Nat) : Int), fun v _ => v = .int .i64 ((j : Nat) : Int), fun v _ => v = .int .i64 ((i + j : Nat) : Int), fun v _ => v = .pointer (some ((adOf Ao).add (i + j))), fun v _ => v = .int .u32 ((zs.getD (i + j) 0 : Nat) : Int), fun v _ => v = .int .u64 ((zs.getD (i + j) 0 : Nat) : Int), fun v _ => v = .int .u64 ((((xa.getD i 0) * (xb.getD j 0)) + (zs.getD (i + j) 0) : Nat) : Int), fun v _ => v = .int .u64 ((c : Nat) : Int), fun v _ => v = .int .u64 (((((xa.getD i 0) * (xb.getD j 0)) + (zs.getD (i + j) 0)) + c : Nat) : Int), fun v _ => v = .int .u64 (((((xa.getD i 0) * (xb.getD j 0)) + (zs.getD (i + j) 0)) + c : Nat) : Int)].getD iQ (fun _ _ => True)) (fun _ => True) 22 Try.mixed (by kernel_rfl) ?_ ?_ ?_
          · refine Vs_mono _ ?_
            intro VQ hVQ vQ wQ1 wQ2 hQ1 hQ2
            simp only [List.mem_cons, List.not_mem_nil, or_false] at hVQ
            rcases hVQ with rfl | rfl | rfl | rfl | rfl | rfl | rfl | rfl | rfl | rfl | rfl | rfl | rfl | rfl | rfl | rfl | rfl | rfl | rfl | rfl | rfl | rfl <;> exact hQ1
          · refine ⟨⟨rfl, ⟨rfl, trivial⟩, ?_⟩, ⟨rfl, ⟨rfl, trivial⟩, ?_⟩, ⟨rfl, trivial, ?_⟩, ⟨rfl, trivial, ?_⟩, ⟨rfl, trivial, ?_⟩, ⟨rfl, ⟨rfl, trivial⟩, ?_⟩, ⟨rfl, ⟨rfl, trivial⟩, ?_⟩, ⟨rfl, trivial, ?_⟩, ⟨rfl, trivial, ?_⟩, ⟨rfl, trivial, ?_⟩, ⟨rfl, trivial, ?_⟩, ⟨rfl, ⟨rfl, trivial⟩, ?_⟩, ⟨rfl, ⟨rfl, trivial⟩, ?_⟩, ⟨rfl, ⟨rfl, trivial⟩, ?_⟩, ⟨rfl, trivial, ?_⟩, ⟨rfl, trivial, ?_⟩, ⟨rfl, trivial, ?_⟩, ⟨rfl, trivial, ?_⟩, ⟨rfl, trivial, ?_⟩, ⟨rfl, ⟨rfl, trivial⟩, ?_⟩, ⟨rfl, trivial, ?_⟩, ⟨rfl, trivial, ?_⟩, trivial⟩
            · intro w17 hE
              intro R
              refine WL.move rfl rfl ?_
              exact WL.done ⟨_, rfl, rfl, rfl⟩
            · intro w18 hE
              intro R
              refine WL.move rfl rfl ?_
              exact WL.done ⟨_, rfl, rfl, rfl⟩
            · intro w19 hE
              rintro _ rfl
              rintro _ rfl
              intro R
              refine WL.index1 (i) Try.underlying23 Try.el43 rfl rfl (by omega) (by omega) ha rfl ?_
              exact WL.done ⟨_, rfl, rfl, rfl⟩
            · intro w20 hE
              have hE := hE rfl
              have hB := ext_trans hB hE
              have ha := ha0.ext hB
              rintro _ rfl
              intro R
              refine WL.load Try.underlying43 rfl rfl (Rd.at_ ha (us_at (by omega))) rfl ?_
              exact WL.done ⟨_, rfl, ext_refl _, rfl⟩
            · intro w21 hE
              rintro _ rfl
              intro R
              refine WL.conv (r := ((xa.getD i 0 : Nat) : Int)) Try.underlying43 Try.underlying72 rfl (wu64 (by omega) (by omega) (by omega)) rfl ?_
              exact WL.done ⟨_, rfl, rfl, rfl⟩
            · intro w22 hE
              intro R
              refine WL.move rfl rfl ?_
              exact WL.done ⟨_, rfl, rfl, rfl⟩
            · intro w23 hE
              intro R
              refine WL.move rfl rfl ?_
              exact WL.done ⟨_, rfl, rfl, rfl⟩
            · intro w24 hE
              rintro _ rfl
              rintro _ rfl
              intro R
              refine WL.index1 (j) Try.underlying23 Try.el43 rfl rfl (by omega) (by omega) hb rfl ?_
              exact WL.done ⟨_, rfl, rfl, rfl⟩
            · intro w25 hE
              have hE := hE rfl
              have hB := ext_trans hB hE
              have hb := hb0.ext hB
              rintro _ rfl
              intro R
              refine WL.load Try.underlying43 rfl rfl (Rd.at_ hb (us_at (by omega))) rfl ?_
              exact WL.done ⟨_, rfl, ext_refl _, rfl⟩
            · intro w26 hE
              rintro _ rfl
              intro R
              refine WL.conv (r := ((xb.getD j 0 : Nat) : Int)) Try.underlying43 Try.underlying72 rfl (wu64 (by omega) (by omega) (by omega)) rfl ?_
              exact WL.done ⟨_, rfl, rfl, rfl⟩
            · intro w27 hE
              rintro _ rfl
              rintro _ rfl
              intro R
              refine WL.mul (r := (((xa.getD i 0) * (xb.getD j 0) : Nat) : Int)) rfl rfl (by rw [← Int.natCast_mul]; exact wu64 (by omega) (by omega) rfl) rfl ?_
              exact WL.done ⟨_, rfl, rfl, rfl⟩
            · intro w28 hE
              intro R
              refine WL.move rfl rfl ?_
              exact WL.done ⟨_, rfl, rfl, rfl⟩
            · intro w29 hE
              intro R
              refine WL.move rfl rfl ?_
              exact WL.done ⟨_, rfl, rfl, rfl⟩
            · intro w30 hE
              intro R
              refine WL.move rfl rfl ?_
              exact WL.done ⟨_, rfl, rfl, rfl⟩
            · intro w31 hE
              rintro _ rfl
              rintro _ rfl
              intro R
              refine WL.add (r := ((i + j : Nat) : Int)) rfl rfl (wi64 (by omega) (by omega) (by omega)) rfl ?_
              exact WL.done ⟨_, rfl, rfl, rfl⟩
            · intro w32 hE
              rintro _ rfl
              rintro _ rfl
              intro R
              refine WL.index1 (i + j) Try.underlying23 Try.el43 rfl rfl (by omega) (by omega) ho.rd rfl ?_
              exact WL.done ⟨_, rfl, rfl, rfl⟩
            · intro w33 hE
              have hE := hE rfl
              have hB := ext_trans hB hE
              have ho := ho.ext hE
              rintro _ rfl
              intro R
              refine WL.load Try.underlying43 rfl rfl (Rd.at_ ho.rd (us_at (by omega))) rfl ?_
              exact WL.done ⟨_, rfl, ext_refl _, rfl⟩
            · intro w34 hE
              rintro _ rfl
              intro R
              refine WL.conv (r := ((zs.getD (i + j) 0 : Nat) : Int)) Try.underlying43 Try.underlying72 rfl (wu64 (by omega) (by omega) (by omega)) rfl ?_
              exact WL.done ⟨_, rfl, rfl, rfl⟩
            · intro w35 hE
              rintro _ rfl
              rintro _ rfl
              intro R
              refine WL.add (r := ((((xa.getD i 0) * (xb.getD j 0)) + (zs.getD (i + j) 0) : Nat) : Int)) rfl rfl (wu64 (by omega) (by omega) (by omega)) rfl ?_
              exact WL.done ⟨_, rfl, rfl, rfl⟩
            · intro w36 hE
              intro R
              refine WL.move rfl rfl ?_
              exact WL.done ⟨_, rfl, rfl, rfl⟩
            · intro w37 hE
              rintro _ rfl
              rintro _ rfl
              intro R
              refine WL.add (r := (((((xa.getD i 0) * (xb.getD j 0)) + (zs.getD (i + j) 0)) + c : Nat) : Int)) rfl rfl (wu64 (by omega) (by omega) (by omega)) rfl ?_
              exact WL.done ⟨_, rfl, rfl, rfl⟩
            · intro w38 hE
              rintro _ rfl
              intro R
              refine WL.assign rfl rfl ?_
              exact WL.done ⟨_, rfl, rfl, rfl⟩
          · intro vals w39 hT hVs
            rw [if_neg (by decide)] at hT
            have hB := ext_trans hB hT
            have ho := ho.ext hT
            have hv0 : vals 0 = _ := hVs 0 (by decide) (by decide)
            have hv1 : vals 1 = _ := hVs 1 (by decide) (by decide)
            have hv2 : vals 2 = _ := hVs 2 (by decide) (by decide)
            have hv3 : vals 3 = _ := hVs 3 (by decide) (by decide)
            have hv4 : vals 4 = _ := hVs 4 (by decide) (by decide)
            have hv5 : vals 5 = _ := hVs 5 (by decide) (by decide)
            have hv6 : vals 6 = _ := hVs 6 (by decide) (by decide)
            have hv7 : vals 7 = _ := hVs 7 (by decide) (by decide)
            have hv8 : vals 8 = _ := hVs 8 (by decide) (by decide)
            have hv9 : vals 9 = _ := hVs 9 (by decide) (by decide)
            have hv10 : vals 10 = _ := hVs 10 (by decide) (by decide)
            have hv11 : vals 11 = _ := hVs 11 (by decide) (by decide)
            have hv12 : vals 12 = _ := hVs 12 (by decide) (by decide)
            have hv13 : vals 13 = _ := hVs 13 (by decide) (by decide)
            have hv14 : vals 14 = _ := hVs 14 (by decide) (by decide)
            have hv15 : vals 15 = _ := hVs 15 (by decide) (by decide)
            have hv16 : vals 16 = _ := hVs 16 (by decide) (by decide)
            have hv17 : vals 17 = _ := hVs 17 (by decide) (by decide)
            have hv18 : vals 18 = _ := hVs 18 (by decide) (by decide)
            have hv19 : vals 19 = _ := hVs 19 (by decide) (by decide)
            have hv20 : vals 20 = _ := hVs 20 (by decide) (by decide)
            have hv21 : vals 21 = _ := hVs 21 (by decide) (by decide)
            rw [show (List.filterMap (fun i => Option.map (fun t => (t, vals i)) (dstAt _ i)) (List.range _)) = [(28, .slice Aa ma ca), (29, .int .i64 ((i : Nat) : Int)), (30, .pointer (some ((adOf Aa).add i))), (31, .int .u32 ((xa.getD i 0 : Nat) : Int)), (32, .int .u64 ((xa.getD i 0 : Nat) : Int)), (33, .slice Ab mb cb), (34, .int .i64 ((j : Nat) : Int)), (35, .pointer (some ((adOf Ab).add j))), (36, .int .u32 ((xb.getD j 0 : Nat) : Int)), (37, .int .u64 ((xb.getD j 0 : Nat) : Int)), (38, .int .u64 (((xa.getD i 0) * (xb.getD j 0) : Nat) : Int)), (39, .slice Ao n co), (40, .int .i64 ((i : Nat) : Int)), (41, .int .i64 ((j : Nat) : Int)), (42, .int .i64 ((i + j : Nat) : Int)), (43, .pointer (some ((adOf Ao).add (i + j)))), (44, .int .u32 ((zs.getD (i + j) 0 : Nat) : Int)), (45, .int .u64 ((zs.getD (i + j) 0 : Nat) : Int)), (46, .int .u64 ((((xa.getD i 0) * (xb.getD j 0)) + (zs.getD (i + j) 0) : Nat) : Int)), (47, .int .u64 ((c : Nat) : Int)), (48, .int .u64 (((((xa.getD i 0) * (xb.getD j 0)) + (zs.getD (i + j) 0)) + c : Nat) : Int)), (9, .int .u64 (((((xa.getD i 0) * (xb.getD j 0)) + (zs.getD (i + j) 0)) + c : Nat) : Int))] from by
              show [(28, vals 0), (29, vals 1), (30, vals 2), (31, vals 3), (32, vals 4), (33, vals 5), (34, vals 6), (35, vals 7), (36, vals 8), (37, vals 9), (38, vals 10), (39, vals 11), (40, vals 12), (41, vals 13), (42, vals 14), (43, vals 15), (44, vals 16), (45, vals 17), (46, vals 18), (47, vals 19), (48, vals 20), (9, vals 21)] = _
              rw [hv0, hv1, hv2, hv3, hv4, hv5, hv6, hv7, hv8, hv9, hv10, hv11, hv12, hv13, hv14, hv15, hv16, hv17, hv18, hv19, hv20, hv21]]
            refine W.seq ?_
            refine W.region ?_
            refine WL.move rfl rfl ?_
            refine WL.move rfl rfl ?_
            refine WL.move rfl rfl ?_
            refine WL.add (r := ((i + j : Nat) : Int)) rfl rfl (wi64 (by omega) (by omega) (by omega)) rfl ?_
            refine WL.move rfl rfl ?_
            refine WL.rem (r := ((((((xa.getD i 0) * (xb.getD j 0)) + (zs.getD (i + j) 0)) + c) % 4294967296 : Nat) : Int)) rfl rfl (by omega) (tmod_nat (by omega) (by omega)) rfl ?_
            refine WL.conv (r := ((((((xa.getD i 0) * (xb.getD j 0)) + (zs.getD (i + j) 0)) + c) % 4294967296 : Nat) : Int)) Try.underlying72 Try.underlying43 rfl (wu32 (by omega) (by omega) (by omega)) rfl ?_
            refine WL.index1 (i + j) Try.underlying23 Try.el43 rfl rfl (by omega) (by omega) ho.rd rfl ?_
            refine WL.store Try.el43 rfl rfl rfl (by omega) ho ?_
            have hOld41 := ho
            intro w40 ho hGw40
            change Own _ _ _ _ _ _ _ ((us zs).set (i + j) (.int .u32 ((((((xa.getD i 0) * (xb.getD j 0)) + (zs.getD (i + j) 0)) + c) % 4294967296 : Nat) : Int))) at ho
            rw [us_set] at ho
            have hB := ext_own hB hGw40 (fun g hg => (hOld41.bl_ge g hg).1)
            have := ho.rd.ulen
            refine WL.done ?_
            refine W.region ?_
            refine WL.move rfl rfl ?_
            refine WL.quo (r := ((((((xa.getD i 0) * (xb.getD j 0)) + (zs.getD (i + j) 0)) + c) / 4294967296 : Nat) : Int)) rfl rfl (by omega) (qu64 (by omega) (by omega) (by omega)) rfl ?_
            refine WL.assign rfl rfl ?_
            refine WL.done ?_
            refine W.region ?_
            refine WL.move rfl rfl ?_
            refine WL.add (r := ((j + 1 : Nat) : Int)) rfl rfl (wi64 (by omega) (by omega) (by omega)) rfl ?_
            refine WL.assign rfl rfl ?_
            refine WL.done ?_
            refine ⟨(j + 1, (xa.getD i 0 * xb.getD j 0 + zs.getD (i + j) 0 + c) / 4294967296, zs.set (i + j) ((xa.getD i 0 * xb.getD j 0 + zs.getD (i + j) 0 + c) % 4294967296), _, _), ⟨rfl, rfl, rfl, iv (by omega), iv (by omega), iv (by omega), trivial⟩, by (dsimp only; omega), ?_⟩
            exact ⟨hB, by omega, by omega, hLz.set _ (by omega), by simp [hlz], fun t ht => by rw [getD_set_ne (by omega)]; exact h0z t (by omega), by rw [nv_take_succ]; exact mul_inner (by omega) heq rfl, ho⟩
        · refine WL.done ?_
          refine W.condF rfl ?_
          refine W.exit ?_
          refine W.region ?_
          refine WL.move rfl rfl ?_
          refine WL.move rfl rfl ?_
          refine WL.move rfl rfl ?_
          refine WL.len Try.underlying23 rfl rfl ?_
          refine WL.add (r := ((i + mb : Nat) : Int)) rfl rfl (wi64 (by omega) (by omega) (by omega)) rfl ?_
          refine WL.move rfl rfl ?_
          refine WL.conv (r := ((c : Nat) : Int)) Try.underlying72 Try.underlying43 rfl (wu32 (by omega) (by omega) (by omega)) rfl ?_
          refine WL.index1 (i + mb) Try.underlying23 Try.el43 rfl rfl (by omega) (by omega) ho.rd rfl ?_
          refine WL.store Try.el43 rfl rfl rfl (by omega) ho ?_
          have hOld43 := ho
          intro w42 ho hGw42
          change Own _ _ _ _ _ _ _ ((us zs).set (i + mb) (.int .u32 ((c : Nat) : Int))) at ho
          rw [us_set] at ho
          have hB := ext_own hB hGw42 (fun g hg => (hOld43.bl_ge g hg).1)
          have := ho.rd.ulen
          refine WL.done ?_
          refine W.region ?_
          refine WL.move rfl rfl ?_
          refine WL.add (r := ((i + 1 : Nat) : Int)) rfl rfl (wi64 (by omega) (by omega) (by omega)) rfl ?_
          refine WL.assign rfl rfl ?_
          refine WL.done ?_
          refine ⟨(i + 1, n, zs.set (i + mb) c, _, _), ⟨rfl, rfl, rfl, iv (by omega), trivial⟩, by (dsimp only; omega), ?_⟩
          exact ⟨hB, by omega, hn, hLz.set _ hc, by simp [hlz], fun t ht => by rw [getD_set_ne (by omega)]; exact h0z t (by omega), by rw [mul_outer (u := nv xb) (base := nv (xa.take i) * nv xb) (x := xa.getD i 0) (by omega) (h0z _ (Nat.le_refl _)) (by rw [← nv_take_all (l := xb) (i := j) (by omega), show i + mb = i + j by omega, nv_take_all (l := xb) (i := j) (by omega)]; rw [nv_take_all (l := xb) (i := j) (by omega)] at heq; exact heq)]; exact take_mul, ho⟩
    · refine WL.done ?_
      refine W.condF rfl ?_
      refine W.exit ?_
      refine W.seq ?_
      refine W.region ?_
      refine WL.move rfl rfl ?_
      refine WL.call Try.func88 rfl Try.nm88 rfl rfl (rTrim_c ho.rd (by omega)) ?_
      rintro _ w44 ⟨A45, m46, cp47, rfl, hGw44, hO48, hm49⟩
      have hO48 := hO48.low (b' := w.heap.size) hB.size
      have hB := ext_trans hB hGw44
      have hO48_l := hO48.rd.ulen
      refine WL.assign rfl rfl ?_
      refine WL.done ?_
      refine W.ret ?_
      refine ⟨_, rfl, ?_⟩
      have hO := hO48
      obtain rfl : i = ma := by omega
      rw [nv_take_all (by omega)] at heq
      rw [digs_trim hLz, heq] at hO
      exact ⟨_, _, _, rfl, hB, hO, by omega⟩
end Go.Proofs.Ythfpcebcfjlkmab
set_option linter.unusedSimpArgs false
set_option linter.unusedVariables false
namespace Go.Proofs.Ythfpcebcfjlkmab
open Go.RowKit
theorem product_c {w : World} {Ba : Nat} {Aa : Option Addr} {ma ca : Nat} {xa : List Nat} (ha : Rd Ba w 1 Aa ma ca (us xa)) {Bb : Nat} {Ab : Option Addr} {mb cb : Nat} {xb : List Nat} (hb : Rd Bb w 1 Ab mb cb (us xb)) (hLa : Lim xa) (hLb : Lim xb) (hsa : ma ≤ 1099511627776) (hsb : mb ≤ 1099511627776) :
    Calls Try.prog 47 #[.slice Aa ma ca, .slice Ab mb cb] w fun e w2 => ∃ v, e = .returned v ∧ (fun v w2 => ∃ A2 m2 c2, v = .slice A2 m2 c2 ∧ w.grownBy w2 none ∧ Own w.heap.size w2 43 1 A2 m2 c2 (us (digs (nv xa * nv xb))) ∧ m2 ≤ ma + mb) v w2 := by
  have ha := ha.norm
  have ha_l := ha.ulen
  have ha_x := ha.max
  simp only [maxLen] at ha_x
  have ha_c := ha.cap
  have hb := hb.norm
  have hb_l := hb.ulen
  have hb_x := hb.max
  simp only [maxLen] at hb_x
  have hb_c := hb.cap
  have ha0 := ha
  have hb0 := hb
  have hB := ext_refl w
  refine calls_of_W (vs := [.slice Aa ma ca, .slice Ab mb cb]) [4] Try.func47 rfl rfl rfl rfl ?_
  refine W.seq ?_
  refine W.region ?_
  refine WL.assign rfl rfl ?_
  refine WL.done ?_
  refine W.seq ?_
  refine W.region ?_
  refine WL.move rfl rfl ?_
  refine WL.len Try.underlying23 rfl rfl ?_
  refine WL.move rfl rfl ?_
  refine WL.len Try.underlying23 rfl rfl ?_
  refine WL.add (r := ((ma + mb : Nat) : Int)) rfl rfl (wi64 (by omega) (by omega) (by omega)) rfl ?_
  refine WL.make (w.heap.size) (ma + mb) Try.underlying23 Try.el43 rfl rfl (by omega) (by omega) (by simp only [maxLen]; omega) (Nat.le_of_eq rfl) rfl ?_
  rintro A11 w12 - ho hGw12
  rw [made_us] at ho
  have ho := ho.low (b' := w.heap.size) hB.size
  have hB := ext_trans hB hGw12
  have ha := ha0.ext hB
  have hb := hb0.ext hB
  refine WL.assign rfl rfl ?_
  refine WL.done ?_
  refine W.seq ?_
  refine W.seq ?_
  refine W.region ?_
  refine WL.move rfl rfl ?_
  refine WL.len Try.underlying23 rfl rfl ?_
  refine WL.move rfl rfl ?_
  refine WL.done ?_
  refine W.block ?_
  refine W.loop (σ := Nat × Nat × List Nat × Option Addr × Nat) (fun s w1 => match s with | (i, n, zs, Ao, co) => w.grownBy w1 none ∧ i ≤ ma ∧ n = ma + mb ∧ Lim zs ∧ zs.length = n ∧ (∀ t, i + mb ≤ t → zs.getD t 0 = 0) ∧ nv zs = nv (xa.take i) * nv xb ∧ Own w.heap.size w1 43 1 Ao n co (us zs)) (fun s => match s with | (i, n, zs, Ao, co) => [(0, .slice Aa ma ca), (1, .slice Ab mb cb), (5, .slice Ao n co), (17, .slice Aa ma ca), (18, .int .i64 ((ma : Nat) : Int)), (19, .int .i64 ((i : Nat) : Int))]) (fun s => match s with | (i, n, zs, Ao, co) => ma - i) (0, ma + mb, List.replicate (ma + mb) 0, A11, ma + mb) ?_ ?_ ?_
  · exact ⟨hB, by omega, rfl, Lim.zeros _, by simp, fun t _ => zeros_getD _ _, by simp [nv_zeros], ho⟩
  · exact ⟨rfl, rfl, rfl, rfl, iv (by omega), iv (by omega), trivial⟩
  · rintro ⟨i, n, zs, Ao, co⟩ w13 ⟨hB, hi, hn, hLz, hlz, h0z, heq, ho⟩
    have ha := ha0.ext hB
    have hb := hb0.ext hB
    have hxa := hLa.getD i
    refine W.seq ?_
    refine W.region ?_
    refine WL.lss rfl rfl rfl (fun c14 => ?_) (fun c14 => ?_)
    · refine WL.done ?_
      refine W.seq ?_
      refine W.condT rfl ?_
      refine W.skip ?_
      refine W.seq ?_
      refine W.block ?_
      refine W.seq ?_
      refine W.region ?_
      refine WL.move rfl rfl ?_
      refine WL.index1 (i) Try.underlying23 Try.el43 rfl rfl (by omega) (by omega) ha rfl ?_
      refine WL.load Try.underlying43 rfl rfl (Rd.at_ ha (us_at (by omega))) rfl ?_
      refine WL.assign rfl rfl ?_
      refine WL.assign rfl rfl ?_
      refine WL.done ?_
      refine W.seq ?_
      refine W.region ?_
      refine WL.assign rfl rfl ?_
      refine WL.done ?_
      refine W.seq ?_
      refine W.seq ?_
      refine W.region ?_
      refine WL.move rfl rfl ?_
      refine WL.len Try.underlying23 rfl rfl ?_
      refine WL.move rfl rfl ?_
      refine WL.done ?_
      refine W.block ?_
      refine W.loop (σ := Nat × Nat × List Nat × Option Addr × Nat) (fun s w1 => match s with | (j, c, zs, Ao, co) => w.grownBy w1 none ∧ j ≤ mb ∧ c < 4294967296 ∧ Lim zs ∧ zs.length = n ∧ (∀ t, i + mb ≤ t → zs.getD t 0 = 0) ∧ nv zs + 4294967296 ^ (i + j) * c = nv (xa.take i) * nv xb + 4294967296 ^ i * (xa.getD i 0 * nv (xb.take j)) ∧ Own w.heap.size w1 43 1 Ao n co (us zs)) (fun s => match s with | (j, c, zs, Ao, co) => [(0, .slice Aa ma ca), (1, .slice Ab mb cb), (5, .slice Ao n co), (6, .int .i64 ((i : Nat) : Int)), (7, .int .u32 ((xa.getD i 0 : Nat) : Int)), (8, .int .u64 ((c : Nat) : Int)), (17, .slice Aa ma ca), (18, .int .i64 ((ma : Nat) : Int)), (19, .int .i64 ((i : Nat) : Int)), (24, .slice Ab mb cb), (25, .int .i64 ((mb : Nat) : Int)), (26, .int .i64 ((j : Nat) : Int))]) (fun s => match s with | (j, c, zs, Ao, co) => mb - j) (0, 0, zs, Ao, co) ?_ ?_ ?_
      · exact ⟨hB, by omega, by omega, hLz, hlz, h0z, by simpa [nv] using heq, ho⟩
      · exact ⟨rfl, rfl, rfl, iv (by omega), iv (by omega), iv (by omega), rfl, iv (by omega), iv (by omega), rfl, iv (by omega), iv (by omega), trivial⟩
      · rintro ⟨j, c, zs, Ao, co⟩ w15 ⟨hB, hj, hc, hLz, hlz, h0z, heq, ho⟩
        have hb := hb0.ext hB
        have hxb := hLb.getD j
        have hz := hLz.getD (i + j)
        have hm1 := mul_lim hxa hxb hz hc
        have hm0 := mul_lim0 hxa hxb
        refine W.seq ?_
        refine W.region ?_
        refine WL.lss rfl rfl rfl (fun c16 => ?_) (fun c16 => ?_)
        · refine WL.done ?_
          refine W.seq ?_
          refine W.condT rfl ?_
          refine W.skip ?_
          refine W.seq ?_
          refine W.block ?_
          refine W.seq ?_
          refine W.region ?_
          refine WL.move rfl rfl ?_
          refine WL.index1 (j) Try.underlying23 Try.el43 rfl rfl (by omega) (by omega) hb rfl ?_
          refine WL.load Try.underlying43 rfl rfl (Rd.at_ hb (us_at (by omega))) rfl ?_
          refine WL.assign rfl rfl ?_
          refine WL.assign rfl rfl ?_
          refine WL.done ?_
          refine W.seq ?_
          refine W.region ?_
          refine WL.move rfl rfl ?_
          refine WL.move rfl rfl ?_
          refine WL.conv (r := ((xa.getD i 0 : Nat) : Int)) Try.underlying43 Try.underlying72 rfl (wu64 (by omega) (by omega) (by omega)) rfl ?_
          refine WL.move rfl rfl ?_
          refine WL.conv (r := ((xb.getD j 0 : Nat) : Int)) Try.underlying43 Try.underlying72 rfl (wu64 (by omega) (by omega) (by omega)) rfl ?_
          refine WL.mul (r := (((xa.getD i 0) * (xb.getD j 0) : Nat) : Int)) rfl rfl (by rw [← Int.natCast_mul]; exact wu64 (by omega) (by omega) rfl) rfl ?_
          refine WL.move rfl rfl ?_
          refine WL.move rfl rfl ?_
          refine WL.move rfl rfl ?_
          refine WL.add (r := ((i + j : Nat) : Int)) rfl rfl (wi64 (by omega) (by omega) (by omega)) rfl ?_
          refine WL.index1 (i + j) Try.underlying23 Try.el43 rfl rfl (by omega) (by omega) ho.rd rfl ?_
          refine WL.load Try.underlying43 rfl rfl (Rd.at_ ho.rd (us_at (by omega))) rfl ?_
          refine WL.conv (r := ((zs.getD (i + j) 0 : Nat) : Int)) Try.underlying43 Try.underlying72 rfl (wu64 (by omega) (by omega) (by omega)) rfl ?_
          refine WL.add (r := ((((xa.getD i 0) * (xb.getD j 0)) + (zs.getD (i + j) 0) : Nat) : Int)) rfl rfl (wu64 (by omega) (by omega) (by omega)) rfl ?_
          refine WL.add (r := ((c + (((xa.getD i 0) * (xb.getD j 0)) + (zs.getD (i + j) 0)) : Nat) : Int)) rfl rfl (wu64 (by omega) (by omega) (by omega)) rfl ?_
          refine WL.assign rfl rfl ?_
          refine WL.done ?_
          refine W.seq ?_
          refine W.region ?_
          refine WL.move rfl rfl ?_
          refine WL.move rfl rfl ?_
          refine WL.move rfl rfl ?_
          refine WL.add (r := ((i + j : Nat) : Int)) rfl rfl (wi64 (by omega) (by omega) (by omega)) rfl ?_
          refine WL.move rfl rfl ?_
          refine WL.conv (r := (((c + (xa.getD i 0 * xb.getD j 0 + zs.getD (i + j) 0)) % 4294967296 : Nat) : Int)) Try.underlying72 Try.underlying43 rfl (wu32m (by omega)) rfl ?_
          refine WL.index1 (i + j) Try.underlying23 Try.el43 rfl rfl (by omega) (by omega) ho.rd rfl ?_
          refine WL.store Try.el43 rfl rfl rfl (by omega) ho ?_
          have hOld18 := ho
          intro w17 ho hGw17
          change Own _ _ _ _ _ _ _ ((us zs).set (i + j) (.int .u32 (((c + (xa.getD i 0 * xb.getD j 0 + zs.getD (i + j) 0)) % 4294967296 : Nat) : Int))) at ho
          rw [us_set] at ho
          have hB := ext_own hB hGw17 (fun g hg => (hOld18.bl_ge g hg).1)
          have := ho.rd.ulen
          refine WL.done ?_
          refine W.region ?_
          refine WL.move rfl rfl ?_
          refine WL.shr (r := (((c + (((xa.getD i 0) * (xb.getD j 0)) + (zs.getD (i + j) 0))) / 4294967296 : Nat) : Int)) rfl rfl (by omega) (shr_nat (a := c + (((xa.getD i 0) * (xb.getD j 0)) + (zs.getD (i + j) 0))) (s := 32) (by omega) (by omega) 64 (by omega)) rfl ?_
          refine WL.assign rfl rfl ?_
          refine WL.done ?_
          refine W.region ?_
          refine WL.add (r := ((j + 1 : Nat) : Int)) rfl rfl (wi64 (by omega) (by omega) (by omega)) rfl ?_
          refine WL.move rfl rfl ?_
          refine WL.done ?_
          refine ⟨(j + 1, (c + (xa.getD i 0 * xb.getD j 0 + zs.getD (i + j) 0)) / 4294967296, zs.set (i + j) ((c + (xa.getD i 0 * xb.getD j 0 + zs.getD (i + j) 0)) % 4294967296), _, _), ⟨rfl, rfl, rfl, iv (by omega), iv (by omega), iv (by omega), rfl, iv (by omega), iv (by omega), rfl, iv (by omega), iv (by omega), trivial⟩, by (dsimp only; omega), ?_⟩
          exact ⟨hB, by omega, by omega, hLz.set _ (by omega), by simp [hlz], fun t ht => by rw [getD_set_ne (by omega)]; exact h0z t (by omega), by rw [nv_take_succ]; exact mul_inner (by omega) heq (by omega), ho⟩
        · refine WL.done ?_
          refine W.seq ?_
          refine W.condF rfl ?_
          refine W.exit ?_
          refine W.region ?_
          refine WL.move rfl rfl ?_
          refine WL.move rfl rfl ?_
          refine WL.move rfl rfl ?_
          refine WL.len Try.underlying23 rfl rfl ?_
          refine WL.add (r := ((i + mb : Nat) : Int)) rfl rfl (wi64 (by omega) (by omega) (by omega)) rfl ?_
          refine WL.move rfl rfl ?_
          refine WL.conv (r := ((c : Nat) : Int)) Try.underlying72 Try.underlying43 rfl (wu32 (by omega) (by omega) (by omega)) rfl ?_
          refine WL.index1 (i + mb) Try.underlying23 Try.el43 rfl rfl (by omega) (by omega) ho.rd rfl ?_
          refine WL.store Try.el43 rfl rfl rfl (by omega) ho ?_
          have hOld20 := ho
          intro w19 ho hGw19
          change Own _ _ _ _ _ _ _ ((us zs).set (i + mb) (.int .u32 ((c : Nat) : Int))) at ho
          rw [us_set] at ho
          have hB := ext_own hB hGw19 (fun g hg => (hOld20.bl_ge g hg).1)
          have := ho.rd.ulen
          refine WL.done ?_
          refine W.region ?_
          refine WL.add (r := ((i + 1 : Nat) : Int)) rfl rfl (wi64 (by omega) (by omega) (by omega)) rfl ?_
          refine WL.move rfl rfl ?_
          refine WL.done ?_
          refine ⟨(i + 1, n, zs.set (i + mb) c, _, _), ⟨rfl, rfl, rfl, rfl, iv (by omega), iv (by omega), trivial⟩, by (dsimp only; omega), ?_⟩
          exact ⟨hB, by omega, hn, hLz.set _ hc, by simp [hlz], fun t ht => by rw [getD_set_ne (by omega)]; exact h0z t (by omega), by rw [mul_outer (u := nv xb) (base := nv (xa.take i) * nv xb) (x := xa.getD i 0) (by omega) (h0z _ (Nat.le_refl _)) (by rw [show i + mb = i + j by omega]; rw [nv_take_all (l := xb) (i := j) (by omega)] at heq; exact heq)]; exact take_mul, ho⟩
    · refine WL.done ?_
      refine W.seq ?_
      refine W.condF rfl ?_
      refine W.exit ?_
      refine W.seq ?_
      refine W.region ?_
      refine WL.move rfl rfl ?_
      refine WL.call Try.func44 rfl Try.nm44 rfl rfl (sig_c ho.rd) ?_
      rintro _ w21 ⟨rfl, hGw21⟩
      have hB := ext_trans hB hGw21
      have ho := ho.ext hGw21
      refine WL.assign rfl rfl ?_
      refine WL.done ?_
      refine W.ret ?_
      refine ⟨_, rfl, ?_⟩
      have hO := ho
      obtain rfl : i = ma := by omega
      rw [nv_take_all (by omega)] at heq
      have hsl := sigL_le zs
      have hO : Own w.heap.size w21 43 1 Ao (sigL zs) co (us (trimL zs)) := hO.sig
      rw [digs_trim hLz, heq] at hO
      exact ⟨_, _, _, rfl, hB, hO, by omega⟩

theorem Mul_step {w : World} {B : Nat} {A : Option Addr} {m c : Nat} {cells : List Value} (hT : Rd B w 1 A m c cells) {B2 : Nat} {xss : List (List Nat)} (hN : NatsR B2 w cells xss) (hL : LimAll xss) {K : Nat} (hK : LenAll K xss) (hKK : xss.length * K + 1 ≤ 1099511627776) (ih : ∀ {w : World} {B : Nat} {A : Option Addr} {m c : Nat} {cells : List Value} (_ : Rd B w 1 A m c cells) {B2 : Nat} {ys : List (List Nat)} (_ : NatsR B2 w cells ys) (_ : LimAll ys) (_ : LenAll K ys) (_ : ys.length * K + 1 ≤ 1099511627776) (_ : ys.length < xss.length), Calls Try.prog 15 #[.slice A m c] w fun e w2 => ∃ v, e = .returned v ∧ (fun v w2 => ∃ A2 m2 c2, v = .slice A2 m2 c2 ∧ w.grownBy w2 none ∧ Own w.heap.size w2 43 1 A2 m2 c2 (us (digs (prodN ys))) ∧ (0 < ys.length → m2 ≤ ys.length * K) ∧ m2 ≤ ys.length * K + 1) v w2) :
    Calls Try.prog 15 #[.slice A m c] w fun e w2 => ∃ v, e = .returned v ∧ (fun v w2 => ∃ A2 m2 c2, v = .slice A2 m2 c2 ∧ w.grownBy w2 none ∧ Own w.heap.size w2 43 1 A2 m2 c2 (us (digs (prodN xss))) ∧ (0 < xss.length → m2 ≤ xss.length * K) ∧ m2 ≤ xss.length * K + 1) v w2 := by
  have hT := hT.norm
  have hN := hN.norm
  have hT0 := hT
  have hN0 := hN
  have hT_l := hT.len
  have hN_l := hN.len
  have hT_x := hT.max
  simp only [maxLen] at hT_x
  have hT_c := hT.cap
  have hml : xss.length = m := by omega
  have hB := ext_refl w
  refine calls_of_W (vs := [.slice A m c]) [2] Try.func15 rfl rfl rfl rfl ?_
  refine W.seq ?_
  refine W.region ?_
  refine WL.assign rfl rfl ?_
  refine WL.done ?_
  refine W.seq ?_
  refine W.seq ?_
  refine W.region ?_
  refine WL.move rfl rfl ?_
  refine WL.len Try.underlying59 rfl rfl ?_
  refine WL.done ?_
  refine W.block ?_
  refine W.seq ?_
  refine W.region ?_
  refine WL.eql rfl rfl rfl (fun c11 => ?_) (fun c11 => ?_)
  · refine WL.assign rfl rfl ?_
    refine WL.done ?_
    refine W.condT rfl ?_
    refine W.seq ?_
    refine W.region ?_
    refine WL.lit1 (b := w.heap.size) Try.underlying23 Try.el43 rfl rfl rfl rfl (by intro v hv; simp only [List.mem_cons, List.not_mem_nil, or_false] at hv; rcases hv with rfl <;> rfl) (Nat.le_refl _) rfl ?_
    rintro A12 w13 - hO14 hGw13
    have hO14 := hO14.low (b' := w.heap.size) hB.size
    have hB := ext_trans hB hGw13
    change Own _ _ _ _ _ _ _ (us [1]) at hO14
    refine WL.assign rfl rfl ?_
    refine WL.done ?_
    refine W.ret ?_
    refine ⟨_, rfl, ?_⟩
    have e : xss = [] := List.eq_nil_of_length_eq_zero (by omega)
    subst e
    exact ⟨_, _, _, rfl, hB, hO14, (fun h => absurd h (by simp)), by simp⟩
  · refine WL.assign rfl rfl ?_
    refine WL.done ?_
    refine W.condF rfl ?_
    refine W.seq ?_
    refine W.region ?_
    refine WL.eql rfl rfl rfl (fun c15 => ?_) (fun c15 => ?_)
    · refine WL.assign rfl rfl ?_
      refine WL.done ?_
      refine W.condT rfl ?_
      refine W.seq ?_
      refine W.region ?_
      refine WL.move rfl rfl ?_
      refine WL.index1 (0) Try.underlying59 Try.el23 rfl rfl (by omega) (by omega) hT rfl ?_
      refine WL.load Try.underlying23 rfl rfl (Rd.at_ hT (hN.cell (0) (by omega))) rfl ?_
      refine WL.call Try.func46 rfl Try.nm46 rfl rfl (Trim_c (hN.at_ (0) (by omega)).2 (by have := hK 0 (by omega); have := (hN.at_ 0 (by omega)).2.ulen; rw [show xss.length = 1 by omega, Nat.one_mul] at hKK; omega)) ?_
      rintro _ w16 ⟨A17, m18, cp19, rfl, hGw16, hO, hm20⟩
      have hO := hO.low (b' := w.heap.size) hB.size
      have hB := ext_trans hB hGw16
      have hN := hN0.ext hB
      have hO_l := hO.rd.ulen
      refine WL.assign rfl rfl ?_
      refine WL.done ?_
      refine W.ret ?_
      refine ⟨_, rfl, ?_⟩
      have h1 : xss.length = 1 := by omega
      rw [trimL_digs _ (hL 0 (by omega)), ← prodN_one h1] at hO
      have := hK 0 (by omega)
      have := (hN.at_ 0 (by omega)).2.ulen
      rw [h1, Nat.one_mul]
      exact ⟨_, _, _, rfl, hB, hO, fun _ => by omega, by omega⟩
    · refine WL.assign rfl rfl ?_
      refine WL.done ?_
      refine W.condF rfl ?_
      refine W.seq ?_
      refine W.region ?_
      refine WL.eql rfl rfl rfl (fun c21 => ?_) (fun c21 => ?_)
      · refine WL.assign rfl rfl ?_
        refine WL.done ?_
        refine W.condT rfl ?_
        refine W.seq ?_
        refine W.draw [⟨[], [0], true⟩, ⟨[0], [], true⟩, ⟨[1], [], false⟩, ⟨[2], [], false⟩, ⟨[], [0], true⟩, ⟨[4], [], true⟩, ⟨[5], [], false⟩, ⟨[6], [], false⟩, ⟨[3, 7], [], false⟩, ⟨[8], [], true⟩] [[(0, .slice A m c)], [], [], [], [(0, .slice A m c)], [], [], [], [], []] (fun iQ => [fun v _ => v = .slice A m c, fun v _ => v = .pointer (some ((adOf A).add 0)), fun v _ => v = .slice (sA (cells.getD 0 undef)) (sM (cells.getD 0 undef)) (sC (cells.getD 0 undef)), fun v _ => v = .slice (sA (cells.getD 0 undef)) (sigL (xss.getD 0 [])) (sC (cells.getD 0 undef)), fun v _ => v = .slice A m c, fun v _ => v = .pointer (some ((adOf A).add 1)), fun v _ => v = .slice (sA (cells.getD 1 undef)) (sM (cells.getD 1 undef)) (sC (cells.getD 1 undef)), fun v _ => v = .slice (sA (cells.getD 1 undef)) (sigL (xss.getD 1 [])) (sC (cells.getD 1 undef)), fun v wq => ∃ A2 m2 c2, v = .slice A2 m2 c2 ∧ Own w.heap.size wq 43 1 A2 m2 c2 (us (digs (prodN xss))) ∧ m2 ≤ xss.length * K, fun v wq => ∃ A2 m2 c2, v = .slice A2 m2 c2 ∧ Own w.heap.size wq 43 1 A2 m2 c2 (us (digs (prodN xss))) ∧ m2 ≤ xss.length * K].getD iQ (fun _ _ => True)) (fun _ => True) 10 Try.mixed (by kernel_rfl) ?_ ?_ ?_
        · refine Vs_mono _ ?_
          intro VQ hVQ vQ wQ1 wQ2 hQ1 hQ2
          simp only [List.mem_cons, List.not_mem_nil, or_false] at hVQ
          rcases hVQ with rfl | rfl | rfl | rfl | rfl | rfl | rfl | rfl | rfl | rfl
          all_goals first
            | exact hQ1
            | (obtain ⟨A2, m2, c2, q1, q2, q3⟩ := hQ1; rcases hQ2 with hQ2 | hQ2; exact ⟨A2, m2, c2, q1, q2.ext hQ2, q3⟩; exact absurd hQ2 (by decide))
        · refine ⟨⟨rfl, ⟨rfl, trivial⟩, ?_⟩, ⟨rfl, trivial, ?_⟩, ⟨rfl, trivial, ?_⟩, ⟨rfl, trivial, ?_⟩, ⟨rfl, ⟨rfl, trivial⟩, ?_⟩, ⟨rfl, trivial, ?_⟩, ⟨rfl, trivial, ?_⟩, ⟨rfl, trivial, ?_⟩, ⟨rfl, trivial, ?_⟩, ⟨rfl, trivial, ?_⟩, trivial⟩
          · intro w22 hE
            intro R
            refine WL.move rfl rfl ?_
            exact WL.done ⟨_, rfl, rfl, rfl⟩
          · intro w23 hE
            rintro _ rfl
            intro R
            refine WL.index1 (0) Try.underlying59 Try.el23 rfl rfl (by omega) (by omega) hT rfl ?_
            exact WL.done ⟨_, rfl, rfl, rfl⟩
          · intro w24 hE
            have hE := hE rfl
            have hB := ext_trans hB hE
            have hT := hT0.ext hB
            have hN := hN0.ext hB
            rintro _ rfl
            intro R
            refine WL.load Try.underlying23 rfl rfl (Rd.at_ hT (hN.cell (0) (by omega))) rfl ?_
            exact WL.done ⟨_, rfl, ext_refl _, rfl⟩
          · intro w25 hE
            have hE := hE rfl
            have hB := ext_trans hB hE
            have hN := hN0.ext hB
            rintro _ rfl
            intro R
            refine WL.call Try.func44 rfl Try.nm44 rfl rfl (sig_c (hN.at_ (0) (by omega)).2) ?_
            rintro _ w26 ⟨rfl, hGw26⟩
            have hB := ext_trans hB hGw26
            exact WL.done ⟨_, rfl, hGw26, rfl⟩
          · intro w27 hE
            intro R
            refine WL.move rfl rfl ?_
            exact WL.done ⟨_, rfl, rfl, rfl⟩
          · intro w28 hE
            rintro _ rfl
            intro R
            refine WL.index1 (1) Try.underlying59 Try.el23 rfl rfl (by omega) (by omega) hT rfl ?_
            exact WL.done ⟨_, rfl, rfl, rfl⟩
          · intro w29 hE
            have hE := hE rfl
            have hB := ext_trans hB hE
            have hT := hT0.ext hB
            have hN := hN0.ext hB
            rintro _ rfl
            intro R
            refine WL.load Try.underlying23 rfl rfl (Rd.at_ hT (hN.cell (1) (by omega))) rfl ?_
            exact WL.done ⟨_, rfl, ext_refl _, rfl⟩
          · intro w30 hE
            have hE := hE rfl
            have hB := ext_trans hB hE
            have hN := hN0.ext hB
            rintro _ rfl
            intro R
            refine WL.call Try.func44 rfl Try.nm44 rfl rfl (sig_c (hN.at_ (1) (by omega)).2) ?_
            rintro _ w31 ⟨rfl, hGw31⟩
            have hB := ext_trans hB hGw31
            exact WL.done ⟨_, rfl, hGw31, rfl⟩
          · intro w32 hE
            have hE := hE rfl
            have hB := ext_trans hB hE
            have hN := hN0.ext hB
            rintro _ rfl
            rintro _ rfl
            have h20 := hK 0 (by omega)
            have h21 := hK 1 (by omega)
            have hs0 := sigL_le (xss.getD 0 [])
            have hs1 := sigL_le (xss.getD 1 [])
            have hl2 : xss.length = 2 := by omega
            rw [hl2] at hKK
            intro R
            refine WL.call Try.func47 rfl Try.nm47 rfl rfl (product_c (Rd.sig (hN.at_ (0) (by omega)).2) (Rd.sig (hN.at_ (1) (by omega)).2) (Lim.trim (hL (0) (by omega))) (Lim.trim (hL (1) (by omega))) (by omega) (by omega)) ?_
            rintro _ w33 ⟨A34, m35, cp36, rfl, hGw33, hO, hm37⟩
            have hO := hO.low (b' := w.heap.size) hB.size
            have hB := ext_trans hB hGw33
            have hO_l := hO.rd.ulen
            rw [nv_trimL, nv_trimL, ← prodN_two (by omega)] at hO
            rw [hl2]
            exact WL.done ⟨_, rfl, hGw33, ⟨_, _, _, rfl, hO, by omega⟩⟩
          · intro w38 hE
            rintro _ ⟨A8, m8, c8, rfl, hO8, hm8⟩
            intro R
            refine WL.assign rfl rfl ?_
            exact WL.done ⟨_, rfl, rfl, ⟨_, _, _, rfl, hO8, hm8⟩⟩
        · intro vals w39 hT hVs
          rw [if_neg (by decide)] at hT
          have hB := ext_trans hB hT
          have hv0 : vals 0 = _ := hVs 0 (by decide) (by decide)
          have hv1 : vals 1 = _ := hVs 1 (by decide) (by decide)
          have hv2 : vals 2 = _ := hVs 2 (by decide) (by decide)
          have hv3 : vals 3 = _ := hVs 3 (by decide) (by decide)
          have hv4 : vals 4 = _ := hVs 4 (by decide) (by decide)
          have hv5 : vals 5 = _ := hVs 5 (by decide) (by decide)
          have hv6 : vals 6 = _ := hVs 6 (by decide) (by decide)
          have hv7 : vals 7 = _ := hVs 7 (by decide) (by decide)
          obtain ⟨A8, m8, c8, hv8, hO8, hm8⟩ := hVs 8 (by decide) (by decide)
          obtain ⟨A9, m9, c9, hv9, hO9, hm9⟩ := hVs 9 (by decide) (by decide)
          rw [show (List.filterMap (fun i => Option.map (fun t => (t, vals i)) (dstAt _ i)) (List.range _)) = [(17, .slice A m c), (18, .pointer (some ((adOf A).add 0))), (19, .slice (sA (cells.getD 0 undef)) (sM (cells.getD 0 undef)) (sC (cells.getD 0 undef))), (20, .slice (sA (cells.getD 0 undef)) (sigL (xss.getD 0 [])) (sC (cells.getD 0 undef))), (21, .slice A m c), (22, .pointer (some ((adOf A).add 1))), (23, .slice (sA (cells.getD 1 undef)) (sM (cells.getD 1 undef)) (sC (cells.getD 1 undef))), (24, .slice (sA (cells.getD 1 undef)) (sigL (xss.getD 1 [])) (sC (cells.getD 1 undef))), (25, .slice A8 m8 c8), (2, .slice A9 m9 c9)] from by
            show [(17, vals 0), (18, vals 1), (19, vals 2), (20, vals 3), (21, vals 4), (22, vals 5), (23, vals 6), (24, vals 7), (25, vals 8), (2, vals 9)] = _
            rw [hv0, hv1, hv2, hv3, hv4, hv5, hv6, hv7, hv8, hv9]]
          refine W.ret ?_
          refine ⟨_, rfl, ?_⟩
          exact ⟨_, _, _, rfl, hB, hO9, fun _ => hm9, by omega⟩
      · refine WL.assign rfl rfl ?_
        refine WL.done ?_
        refine W.condF rfl ?_
        refine W.skip ?_
        refine W.seq ?_
        refine W.region ?_
        refine WL.move rfl rfl ?_
        refine WL.len Try.underlying59 rfl rfl ?_
        refine WL.quo (r := ((xss.length / 2 : Nat) : Int)) rfl rfl (by omega) (qi64 (a := m) (b := 2) (by omega) (by omega) (by omega) |>.trans (by rw [hml])) rfl ?_
        refine WL.assign rfl rfl ?_
        refine WL.done ?_
        refine W.seq ?_
        refine W.draw [⟨[], [0], true⟩, ⟨[], [3], true⟩, ⟨[0, 1], [], true⟩, ⟨[2], [], false⟩, ⟨[], [0], true⟩, ⟨[], [3], true⟩, ⟨[4, 5], [], true⟩, ⟨[6], [], false⟩, ⟨[3, 7], [], false⟩, ⟨[8], [], true⟩] [[(0, .slice A m c)], [(3, .int .i64 ((xss.length / 2 : Nat) : Int))], [], [], [(0, .slice A m c)], [(3, .int .i64 ((xss.length / 2 : Nat) : Int))], [], [], [], []] (fun iQ => [fun v _ => v = .slice A m c, fun v _ => v = .int .i64 ((xss.length / 2 : Nat) : Int), fun v _ => v = .slice A (xss.length / 2) c, fun v wq => ∃ A2 m2 c2, v = .slice A2 m2 c2 ∧ Own w.heap.size wq 43 1 A2 m2 c2 (us (digs (prodN (xss.take (xss.length / 2))))) ∧ m2 ≤ xss.length / 2 * K, fun v _ => v = .slice A m c, fun v _ => v = .int .i64 ((xss.length / 2 : Nat) : Int), fun v _ => v = .slice (if c = xss.length / 2 then A else A.map (·.add (xss.length / 2 * 1))) (m - (xss.length / 2)) (c - (xss.length / 2)), fun v wq => ∃ A2 m2 c2, v = .slice A2 m2 c2 ∧ Own w.heap.size wq 43 1 A2 m2 c2 (us (digs (prodN (xss.drop (xss.length / 2))))) ∧ m2 ≤ (xss.length - xss.length / 2) * K, fun v wq => ∃ A2 m2 c2, v = .slice A2 m2 c2 ∧ Own w.heap.size wq 43 1 A2 m2 c2 (us (digs (prodN xss))) ∧ m2 ≤ xss.length * K, fun v wq => ∃ A2 m2 c2, v = .slice A2 m2 c2 ∧ Own w.heap.size wq 43 1 A2 m2 c2 (us (digs (prodN xss))) ∧ m2 ≤ xss.length * K].getD iQ (fun _ _ => True)) (fun _ => True) 10 Try.mixed (by kernel_rfl) ?_ ?_ ?_
        · refine Vs_mono _ ?_
          intro VQ hVQ vQ wQ1 wQ2 hQ1 hQ2
          simp only [List.mem_cons, List.not_mem_nil, or_false] at hVQ
          rcases hVQ with rfl | rfl | rfl | rfl | rfl | rfl | rfl | rfl | rfl | rfl
          all_goals first
            | exact hQ1
            | (obtain ⟨A2, m2, c2, q1, q2, q3⟩ := hQ1; rcases hQ2 with hQ2 | hQ2; exact ⟨A2, m2, c2, q1, q2.ext hQ2, q3⟩; exact absurd hQ2 (by decide))
        · refine ⟨⟨rfl, ⟨rfl, trivial⟩, ?_⟩, ⟨rfl, ⟨rfl, trivial⟩, ?_⟩, ⟨rfl, trivial, ?_⟩, ⟨rfl, trivial, ?_⟩, ⟨rfl, ⟨rfl, trivial⟩, ?_⟩, ⟨rfl, ⟨rfl, trivial⟩, ?_⟩, ⟨rfl, trivial, ?_⟩, ⟨rfl, trivial, ?_⟩, ⟨rfl, trivial, ?_⟩, ⟨rfl, trivial, ?_⟩, trivial⟩
          · intro w40 hE
            intro R
            refine WL.move rfl rfl ?_
            exact WL.done ⟨_, rfl, rfl, rfl⟩
          · intro w41 hE
            intro R
            refine WL.move rfl rfl ?_
            exact WL.done ⟨_, rfl, rfl, rfl⟩
          · intro w42 hE
            rintro _ rfl
            rintro _ rfl
            intro R
            refine WL.slTo (xss.length / 2) Try.underlying59 Try.el23 rfl rfl (by omega) (by omega) rfl ?_
            exact WL.done ⟨_, rfl, rfl, rfl⟩
          · intro w43 hE
            have hE := hE rfl
            have hB := ext_trans hB hE
            have hT := hT0.ext hB
            have hN := hN0.ext hB
            rintro _ rfl
            have hTt := hT.take (k := xss.length / 2) (by omega)
            rw [Nat.mul_one] at hTt
            have hNt := hN.take (xss.length / 2)
            intro R
            refine WL.call Try.func15 rfl Try.nm15 rfl rfl (ih hTt hNt (hL.take _) (hK.take _) (by have := Nat.mul_le_mul_right K (show (xss.take (xss.length / 2)).length ≤ xss.length by simp; omega); omega) (by simp; omega)) ?_
            rintro _ w44 ⟨A45, m46, cp47, rfl, hGw44, hO, hmq⟩
            have hO := hO.low (b' := w.heap.size) hB.size
            have hB := ext_trans hB hGw44
            have hO_l := hO.rd.ulen
            exact WL.done ⟨_, rfl, hGw44, ⟨_, _, _, rfl, hO, by have h := hmq.1 (by simp; omega); rwa [List.length_take, Nat.min_eq_left (by omega)] at h⟩⟩
          · intro w48 hE
            intro R
            refine WL.move rfl rfl ?_
            exact WL.done ⟨_, rfl, rfl, rfl⟩
          · intro w49 hE
            intro R
            refine WL.move rfl rfl ?_
            exact WL.done ⟨_, rfl, rfl, rfl⟩
          · intro w50 hE
            rintro _ rfl
            rintro _ rfl
            intro R
            refine WL.slFrom (xss.length / 2) Try.underlying59 Try.el23 rfl rfl (by omega) (by omega) rfl ?_
            exact WL.done ⟨_, rfl, rfl, rfl⟩
          · intro w51 hE
            have hE := hE rfl
            have hB := ext_trans hB hE
            have hT := hT0.ext hB
            have hN := hN0.ext hB
            rintro _ rfl
            have hTd := hT.drop (k := xss.length / 2) (by omega)
            rw [Nat.mul_one (xss.length / 2)] at hTd
            rw [Nat.mul_one (xss.length / 2)]
            have hNd := hN.drop (xss.length / 2)
            intro R
            refine WL.call Try.func15 rfl Try.nm15 rfl rfl (ih hTd hNd (hL.drop _) (hK.drop _) (by have := Nat.mul_le_mul_right K (show (xss.drop (xss.length / 2)).length ≤ xss.length by simp); omega) (by simp; omega)) ?_
            rintro _ w52 ⟨A53, m54, cp55, rfl, hGw52, hO, hmq⟩
            have hO := hO.low (b' := w.heap.size) hB.size
            have hB := ext_trans hB hGw52
            have hO_l := hO.rd.ulen
            exact WL.done ⟨_, rfl, hGw52, ⟨_, _, _, rfl, hO, by have h := hmq.1 (by simp; omega); rwa [List.length_drop] at h⟩⟩
          · intro w56 hE
            have hE := hE rfl
            have hB := ext_trans hB hE
            rintro _ ⟨A3, m3, c3, rfl, hO3, hm3⟩
            rintro _ ⟨A7, m7, c7, rfl, hO7, hm7⟩
            have := Nat.mul_le_mul_right K (show xss.length / 2 ≤ xss.length by omega)
            have := Nat.mul_le_mul_right K (show xss.length - xss.length / 2 ≤ xss.length by omega)
            intro R
            refine WL.call Try.func47 rfl Try.nm47 rfl rfl (product_c hO3.rd hO7.rd (digs_lim _) (digs_lim _) (by omega) (by omega)) ?_
            rintro _ w57 ⟨A58, m59, cp60, rfl, hGw57, hO, hm61⟩
            have hO := hO.low (b' := w.heap.size) hB.size
            have hB := ext_trans hB hGw57
            have hO_l := hO.rd.ulen
            rw [nv_digs, nv_digs, prodN_split] at hO
            exact WL.done ⟨_, rfl, hGw57, ⟨_, _, _, rfl, hO, by have := Nat.add_mul (xss.length / 2) (xss.length - xss.length / 2) K; rw [show xss.length / 2 + (xss.length - xss.length / 2) = xss.length by omega] at this; omega⟩⟩
          · intro w62 hE
            rintro _ ⟨A8, m8, c8, rfl, hO8, hm8⟩
            intro R
            refine WL.assign rfl rfl ?_
            exact WL.done ⟨_, rfl, rfl, ⟨_, _, _, rfl, hO8, hm8⟩⟩
        · intro vals w63 hT hVs
          rw [if_neg (by decide)] at hT
          have hB := ext_trans hB hT
          have hv0 : vals 0 = _ := hVs 0 (by decide) (by decide)
          have hv1 : vals 1 = _ := hVs 1 (by decide) (by decide)
          have hv2 : vals 2 = _ := hVs 2 (by decide) (by decide)
          obtain ⟨A3, m3, c3, hv3, hO3, hm3⟩ := hVs 3 (by decide) (by decide)
          have hv4 : vals 4 = _ := hVs 4 (by decide) (by decide)
          have hv5 : vals 5 = _ := hVs 5 (by decide) (by decide)
          have hv6 : vals 6 = _ := hVs 6 (by decide) (by decide)
          obtain ⟨A7, m7, c7, hv7, hO7, hm7⟩ := hVs 7 (by decide) (by decide)
          obtain ⟨A8, m8, c8, hv8, hO8, hm8⟩ := hVs 8 (by decide) (by decide)
          obtain ⟨A9, m9, c9, hv9, hO9, hm9⟩ := hVs 9 (by decide) (by decide)
          rw [show (List.filterMap (fun i => Option.map (fun t => (t, vals i)) (dstAt _ i)) (List.range _)) = [(29, .slice A m c), (30, .int .i64 ((xss.length / 2 : Nat) : Int)), (31, .slice A (xss.length / 2) c), (32, .slice A3 m3 c3), (33, .slice A m c), (34, .int .i64 ((xss.length / 2 : Nat) : Int)), (35, .slice (if c = xss.length / 2 then A else A.map (·.add (xss.length / 2 * 1))) (m - (xss.length / 2)) (c - (xss.length / 2))), (36, .slice A7 m7 c7), (37, .slice A8 m8 c8), (2, .slice A9 m9 c9)] from by
            show [(29, vals 0), (30, vals 1), (31, vals 2), (32, vals 3), (33, vals 4), (34, vals 5), (35, vals 6), (36, vals 7), (37, vals 8), (2, vals 9)] = _
            rw [hv0, hv1, hv2, hv3, hv4, hv5, hv6, hv7, hv8, hv9]]
          refine W.ret ?_
          refine ⟨_, rfl, ?_⟩
          exact ⟨_, _, _, rfl, hB, hO9, fun _ => hm9, by omega⟩

theorem Mul_c {w : World} {B : Nat} {A : Option Addr} {m c : Nat} {cells : List Value} (hT : Rd B w 1 A m c cells) {B2 : Nat} {xss : List (List Nat)} (hN : NatsR B2 w cells xss) (hL : LimAll xss) (K : Nat) (hK : LenAll K xss) (hKK : xss.length * K + 1 ≤ 1099511627776) :
    Calls Try.prog 15 #[.slice A m c] w fun e w2 => ∃ v, e = .returned v ∧ (fun v w2 => ∃ A2 m2 c2, v = .slice A2 m2 c2 ∧ w.grownBy w2 none ∧ Own w.heap.size w2 43 1 A2 m2 c2 (us (digs (prodN xss))) ∧ (0 < xss.length → m2 ≤ xss.length * K) ∧ m2 ≤ xss.length * K + 1) v w2 := by
  induction hn : xss.length using Nat.strongRecOn generalizing w B A m c cells B2 xss with
  | _ n ih => rw [← hn]; exact Mul_step hT hN hL hK hKK (fun {_ _ _ _ _ _} hT {_ _} hN hL hK hKK hl => ih _ (hn ▸ hl) hT hN hL hK hKK rfl)

theorem Sub32_c {w : World} (x y c : Nat) {X Y Z : Int} (hX : X = x) (hY : Y = y) (hZ : Z = c) (hx : x < 4294967296) (hy : y < 4294967296) (hc : c ≤ 1) :
    Calls Try.prog 100 #[.int .u32 X, .int .u32 Y, .int .u32 Z] w fun e w2 => ∃ v, e = .returned v ∧ (fun v w2 => v = .tuple #[.int .u32 (((x + 8589934592 - y - c) % 4294967296 : Nat) : Int), .int .u32 ((if x < y + c then 1 else 0 : Nat) : Int)] ∧ w.grownBy w2 none) v w2 := by
  have hB := ext_refl w
  refine calls_of_W (vs := [.int .u32 X, .int .u32 Y, .int .u32 Z]) [6, 7] Try.func100 rfl rfl rfl rfl ?_
  refine W.seq ?_
  refine W.region ?_
  refine WL.assign rfl rfl ?_
  refine WL.assign rfl rfl ?_
  refine WL.done ?_
  refine W.seq ?_
  refine W.region ?_
  refine WL.move rfl rfl ?_
  refine WL.move rfl rfl ?_
  refine WL.sub (r := (((x + 4294967296 - y) % 4294967296 : Nat) : Int)) rfl rfl (wu32m (by omega)) rfl ?_
  refine WL.move rfl rfl ?_
  refine WL.sub (r := (((x + 8589934592 - y - c) % 4294967296 : Nat) : Int)) rfl rfl (wu32m (by omega)) rfl ?_
  refine WL.assign rfl rfl ?_
  refine WL.done ?_
  refine W.seq ?_
  refine W.region ?_
  refine WL.move rfl rfl ?_
  refine WL.compl32 (hx := rfl) (a := x) (by omega) (by omega) rfl ?_
  refine WL.move rfl rfl ?_
  refine WL.bits (r := (((4294967295 - x) &&& y : Nat) : Int)) rfl rfl (.inl rfl) (and32 (by omega) (by omega) (by omega) (by omega)) rfl ?_
  refine WL.move rfl rfl ?_
  refine WL.move rfl rfl ?_
  refine WL.bits (r := ((x ^^^ y : Nat) : Int)) rfl rfl (.inr (.inr (.inl rfl))) (xor32 (by omega) (by omega) (by omega) (by omega)) rfl ?_
  refine WL.compl32 (hx := rfl) (a := x ^^^ y) (by omega) (Nat.xor_lt_two_pow (n := 32) hx hy) rfl ?_
  refine WL.move rfl rfl ?_
  refine WL.bits (r := (((4294967295 - (x ^^^ y)) &&& ((x + 8589934592 - y - c) % 4294967296) : Nat) : Int)) rfl rfl (.inl rfl) (and32 (by omega) (by omega) (by omega) (by omega)) rfl ?_
  refine WL.bits (r := ((((4294967295 - x) &&& y) ||| ((4294967295 - (x ^^^ y)) &&& ((x + 8589934592 - y - c) % 4294967296)) : Nat) : Int)) rfl rfl (.inr (.inl rfl)) (or32 (by omega) (by omega) (by exact Nat.lt_of_le_of_lt Nat.and_le_right (by omega)) (by exact Nat.lt_of_le_of_lt Nat.and_le_right (by omega))) rfl ?_
  refine WL.shr (r := (((((4294967295 - x) &&& y) ||| ((4294967295 - (x ^^^ y)) &&& ((x + 8589934592 - y - c) % 4294967296))) / 2147483648 : Nat) : Int)) rfl rfl (by omega) (shr_nat (a := ((4294967295 - x) &&& y) ||| ((4294967295 - (x ^^^ y)) &&& ((x + 8589934592 - y - c) % 4294967296))) (s := 31) (by omega) (by omega) 32 (by omega)) rfl ?_
  refine WL.assign rfl rfl ?_
  refine WL.done ?_
  refine W.ret ?_
  refine ⟨_, rfl, ?_⟩
  rw [borrow32 hx hy hc]; exact ⟨rfl, hB⟩
end Go.Proofs.Ythfpcebcfjlkmab
set_option linter.unusedSimpArgs false
set_option linter.unusedVariables false
namespace Go.Proofs.Ythfpcebcfjlkmab
open Go.RowKit
end Go.Proofs.Ythfpcebcfjlkmab
set_option linter.unusedSimpArgs false
set_option linter.unusedVariables false
namespace Go.Proofs.Ythfpcebcfjlkmab
open Go.RowKit
end Go.Proofs.Ythfpcebcfjlkmab
set_option linter.unusedSimpArgs false
set_option linter.unusedVariables false
namespace Go.Proofs.Ythfpcebcfjlkmab
open Go.RowKit
theorem digs_lit {n k : Nat} (h : n = k) (h0 : 0 < k) (hk : k < 4294967296) : digs n = [k] := by
  subst h
  have h1 : trimL [n] = [n] := canon_of_ge (Lim.one hk) (fun _ => by simp; omega)
  have h2 := trimL_digs [n] (Lim.one hk)
  rw [h1, nv_one] at h2
  exact h2.symm
theorem cmpI_cases (a b : Nat) : (a < b ∧ cmpI a b = -1) ∨ (a = b ∧ cmpI a b = 0) ∨ (b < a ∧ cmpI a b = 1) := by
  rcases Nat.lt_trichotomy a b with h | h | h
  · exact .inl ⟨h, cmpI_lt h⟩
  · exact .inr (.inl ⟨h, cmpI_eq h⟩)
  · exact .inr (.inr ⟨h, cmpI_gt h⟩)
theorem Rd.nilU {w : World} : Rd 0 w 1 none 0 0 (us []) := Rd.nil (by simp [maxLen])
theorem NatsR.one {B : Nat} {w : World} {cells : List Value} {xss : List (List Nat)} (h : NatsR B w cells xss) : ∀ u ∈ cells, u.oneCell' = true := fun u hu => by
  obtain ⟨j, hj, rfl⟩ := List.getElem_of_mem hu
  have h1 := (h.all j (by rw [← h.len]; exact hj)).1
  have h2 : cells.getD j undef = cells[j] := by simp [List.getD_eq_getElem?_getD, hj]
  rw [h2] at h1
  rw [h1]; rfl
theorem NatsR.append {B : Nat} {w : World} {c1 c2 : List Value} {x1 x2 : List (List Nat)} (h : NatsR B w c1 x1) (h' : NatsR B w c2 x2) : NatsR B w (c1 ++ c2) (x1 ++ x2) := by
  have hl := h.len
  refine ⟨by simp [h.len, h'.len], fun j hj => ?_⟩
  rcases Nat.lt_or_ge j x1.length with hc | hc
  · have e1 : (c1 ++ c2).getD j undef = c1.getD j undef := by simp only [List.getD_eq_getElem?_getD]; rw [List.getElem?_append_left (by omega)]
    have e2 : (x1 ++ x2).getD j [] = x1.getD j [] := by simp only [List.getD_eq_getElem?_getD]; rw [List.getElem?_append_left hc]
    rw [e1, e2]; exact h.all j hc
  · have e1 : (c1 ++ c2).getD j undef = c2.getD (j - x1.length) undef := by simp only [List.getD_eq_getElem?_getD]; rw [List.getElem?_append_right (by omega), hl]
    have e2 : (x1 ++ x2).getD j [] = x2.getD (j - x1.length) [] := by simp only [List.getD_eq_getElem?_getD]; rw [List.getElem?_append_right hc]
    rw [e1, e2]; exact h'.all _ (by simp at hj; omega)
theorem getD_app_all {p : List Nat → Prop} {a b : List (List Nat)} (ha : ∀ i, i < a.length → p (a.getD i [])) (hb : ∀ i, i < b.length → p (b.getD i [])) (i : Nat) (hi : i < (a ++ b).length) : p ((a ++ b).getD i []) := by
  rcases Nat.lt_or_ge i a.length with hc | hc
  · have e : (a ++ b).getD i [] = a.getD i [] := by simp only [List.getD_eq_getElem?_getD]; rw [List.getElem?_append_left hc]
    rw [e]; exact ha i hc
  · have e : (a ++ b).getD i [] = b.getD (i - a.length) [] := by simp only [List.getD_eq_getElem?_getD]; rw [List.getElem?_append_right hc]
    rw [e]; exact hb _ (by simp at hi; omega)
theorem LimAll.append {a b : List (List Nat)} (ha : LimAll a) (hb : LimAll b) : LimAll (a ++ b) := getD_app_all ha hb
theorem LenAll.append {K : Nat} {a b : List (List Nat)} (ha : LenAll K a) (hb : LenAll K b) : LenAll K (a ++ b) := getD_app_all (p := fun x => x.length ≤ K) ha hb
end Go.Proofs.Ythfpcebcfjlkmab
namespace Go.Proofs.Ythfpcebcfjlkmab
open Go.RowKit
/-- The number of binary digits. -/
def bitn (x : Nat) : Nat := if x = 0 then 0 else Nat.log2 x + 1
theorem bitn_zero : bitn 0 = 0 := rfl
theorem bitn_le {x k : Nat} : bitn x ≤ k ↔ x < 2 ^ k := by
  unfold bitn
  split
  · rename_i h; subst h; simp [Nat.pow_pos]
  · rename_i h
    rw [← Nat.log2_lt h]; omega
theorem bitn_lt {x k : Nat} : k < bitn x ↔ 2 ^ k ≤ x := by
  have := bitn_le (x := x) (k := k); omega
theorem bitn_uniq {x k : Nat} (h1 : 2 ^ k ≤ x) (h2 : x < 2 ^ (k + 1)) : bitn x = k + 1 := by
  have := bitn_lt.2 h1; have := bitn_le.2 h2; omega
theorem bitn_half {x : Nat} (h : 0 < x) : bitn (x / 2) + 1 = bitn x := by
  rcases Nat.lt_or_ge x 2 with h2 | h2
  · have : x = 1 := by omega
    subst this; decide
  · have e : 0 < bitn (x / 2) := bitn_lt.2 (by omega)
    obtain ⟨k, hk⟩ : ∃ k, bitn (x / 2) = k + 1 := ⟨bitn (x / 2) - 1, by omega⟩
    have h3 : 2 ^ k ≤ x / 2 := bitn_lt.1 (by omega)
    have h4 : x / 2 < 2 ^ (k + 1) := bitn_le.1 (by omega)
    rw [hk, bitn_uniq (k := k + 1) (by rw [Nat.pow_succ]; omega) (by rw [Nat.pow_succ]; omega)]
theorem bitn_shift {x s : Nat} (h : 0 < x / 2 ^ s) : bitn (x / 2 ^ s) + s = bitn x := by
  induction s generalizing x with
  | zero => simp
  | succ s ih =>
    have e : x / 2 ^ (s + 1) = x / 2 / 2 ^ s := by rw [Nat.pow_succ, Nat.mul_comm, Nat.div_div_eq_div_mul]
    rw [e] at h ⊢
    have h1 := ih h
    have hx : 0 < x := by
      rcases Nat.eq_zero_or_pos x with h0 | h0
      · subst h0; simp at h
      · exact h0
    have h2 := bitn_half hx
    omega
theorem bitn_s32 {x : Nat} (h : 4294967296 ≤ x) : bitn (x / 4294967296) + 32 = bitn x := bitn_shift (s := 32) (by omega)
theorem bitn_16 {x : Nat} (h : 65536 ≤ x) : bitn (x / 65536) + 16 = bitn x := bitn_shift (s := 16) (by omega)
theorem bitn_8 {x : Nat} (h : 256 ≤ x) : bitn (x / 256) + 8 = bitn x := bitn_shift (s := 8) (by omega)
theorem bitn_8lt {x : Nat} (h : x < 256) : bitn x ≤ 8 := bitn_le.2 h
theorem bitn_32 {x : Nat} (h : x < 4294967296) : bitn x ≤ 32 := bitn_le.2 h
theorem pow32 (n : Nat) : 4294967296 ^ n = 2 ^ (32 * n) := by rw [Nat.pow_mul]
theorem Lim.take_lt {l : List Nat} (h : Lim l) (i : Nat) : nv (l.take i) < 4294967296 ^ i := by
  have h1 := nv_lt (h.take i)
  have h2 : 4294967296 ^ (l.take i).length ≤ 4294967296 ^ i := Nat.pow_le_pow_right (by decide) (by simp; omega)
  omega
/-- The digits of a number and those of its last limb. -/
theorem bitn_nv {l : List Nat} (h : Lim l) (hp : 0 < sigL l) : bitn (nv l) = 32 * (sigL l - 1) + bitn (l.getD (sigL l - 1) 0) := by
  have ht := sigL_last hp
  have hlim := h.getD (sigL l - 1)
  generalize hs : sigL l - 1 = s at *
  generalize hT : l.getD s 0 = t at *
  have e : nv l = nv (l.take s) + 4294967296 ^ s * t := by
    rw [← nv_take_sig (l := l) (i := s + 1) (by omega), nv_take_succ, hT]
  have hr := h.take_lt s
  obtain ⟨k, hk⟩ : ∃ k, bitn t = k + 1 := ⟨bitn t - 1, by have : 0 < bitn t := bitn_lt.2 (by omega); omega⟩
  have h3 : 2 ^ k ≤ t := bitn_lt.1 (by omega)
  have h4 : t < 2 ^ (k + 1) := bitn_le.1 (by omega)
  rw [hk, e]
  refine bitn_uniq (k := 32 * s + k) ?_ ?_
  · rw [Nat.pow_add, ← pow32]
    have := Nat.mul_le_mul_left (4294967296 ^ s) h3
    omega
  · rw [show 32 * s + k + 1 = 32 * s + (k + 1) by omega, Nat.pow_add, ← pow32]
    have := Nat.mul_le_mul_left (4294967296 ^ s) (show t + 1 ≤ 2 ^ (k + 1) by omega)
    rw [Nat.mul_add] at this
    omega
theorem bitn_len {l : List Nat} (h : Lim l) : bitn (nv l) ≤ 32 * l.length := bitn_le.2 (by rw [← pow32]; exact nv_lt h)
theorem nv_two {l : List Nat} (h : sigL l ≤ 2) : nv l = l.getD 0 0 + 4294967296 * l.getD 1 0 := by
  rw [← nv_take_sig h, nv_take_succ, nv_take_succ]
  simp
theorem nv_big {l : List Nat} (_h : Lim l) (hs : 2 < sigL l) : 18446744073709551616 ≤ nv l := by
  have ht := sigL_last (l := l) (by omega)
  have e : nv l = nv (l.take (sigL l - 1)) + 4294967296 ^ (sigL l - 1) * l.getD (sigL l - 1) 0 := by
    rw [← nv_take_sig (l := l) (i := sigL l - 1 + 1) (by omega), nv_take_succ]
  have h1 : 4294967296 ^ 2 ≤ 4294967296 ^ (sigL l - 1) := Nat.pow_le_pow_right (by decide) (by omega)
  have h2 : 4294967296 ^ (sigL l - 1) * 1 ≤ 4294967296 ^ (sigL l - 1) * l.getD (sigL l - 1) 0 := Nat.mul_le_mul_left _ (by omega)
  omega
theorem nv_pair (a b : Nat) : nv [a, b] = a + 4294967296 * b := by simp [nv]
theorem digs_pair {n : Nat} (h : n < 18446744073709551616) : trimL [n % 4294967296, n / 4294967296] = digs n := by
  have hL : Lim [n % 4294967296, n / 4294967296] := Lim.cons (by omega) (Lim.one (by omega))
  rw [digs_trim hL, nv_pair, show n % 4294967296 + 4294967296 * (n / 4294967296) = n by omega]
theorem or64 {P : Program} {w : World} {a b : Nat} {x y : Int} (hx : x = (a * 4294967296 : Nat)) (hy : y = b) (ha : a < 4294967296) (hb : b < 4294967296) : (Op.intBits .or .u64 x y).run P w = .ok (.int .u64 ((b + 4294967296 * a : Nat) : Int)) w := by
  subst hx; subst hy
  have h0 : a * 4294967296 ||| b = b + 4294967296 * a := by
    rw [show a * 4294967296 = 2 ^ 32 * a by omega, ← Nat.two_pow_add_eq_or_of_lt (by omega : b < 2 ^ 32) a]; omega
  have e1 : (BitVec.ofInt 64 ((a * 4294967296 : Nat) : Int) ||| BitVec.ofInt 64 (b : Int)).toNat = b + 4294967296 * a := by
    rw [BitVec.ofInt_natCast, BitVec.ofInt_natCast, BitVec.toNat_or, BitVec.toNat_ofNat, BitVec.toNat_ofNat, Nat.mod_eq_of_lt (by omega), Nat.mod_eq_of_lt (by omega), h0]
  have e2 : IntKind.u64.wrap ((b + 4294967296 * a : Nat) : Int) = ((b + 4294967296 * a : Nat) : Int) := wu64 (by omega) (by omega) rfl
  show Result.ok (Value.int .u64 (IntKind.u64.wrap ((BitVec.ofInt 64 ((a * 4294967296 : Nat) : Int) ||| BitVec.ofInt 64 (b : Int)).toNat : Int))) w = _
  rw [e1, e2]
/-- A constant table. -/
theorem WL.indexTab {P : Program} {n : Nat} {N : Post} {L : Fr} {w : World} {ops : Array Oper} {rest : List Oper} {d : Nat} {ty : TypeId} {pos : String} {af : Array Edge} {x y : Operand} {tx : TypeId} {s : ByteArray} {k : IntKind} {X : Int} {i : Nat} (g : Nat → Nat)
    (ht : P.underlying tx = some .string) (hx : ev L x = some (.string s)) (hy : ev L y = some (.int k X)) (hX : X = i) (hi : i < 256) (hs : ∀ i : Fin 256, (s[i.val]?).map UInt8.toNat = some (g i.val)) (hn : Nat.blt d n = true)
    (h : WL P n ops rest N ((d, .int .u8 (g i : Nat)) :: L) w) : WL P n ops (⟨some d, .index tx x y, ty, pos, af, none⟩ :: rest) N L w := by
  subst hX
  have h1 := hs ⟨i, hi⟩
  simp only [Option.map_eq_some_iff] at h1
  obtain ⟨b, hb1, hb2⟩ := h1
  exact WL.val rfl rfl hn (fun a ha => by simp [execOp, Instr.index, asIntOf, ha.ev hx, ha.ev hy, run_underlying ht, hb1, hb2]) h
end Go.Proofs.Ythfpcebcfjlkmab
