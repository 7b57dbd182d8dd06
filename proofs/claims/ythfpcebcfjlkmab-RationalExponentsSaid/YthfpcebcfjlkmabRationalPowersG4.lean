/- Contracts of functions of the program, and what they lean on: W13, Ld, W14, W15, W16, Lm, Cb. -/
import Derived.Test.YthfpcebcfjlkmabRationalPowersG3
set_option linter.unusedSimpArgs false
set_option linter.unusedVariables false
namespace Go.Proofs.Ythfpcebcfjlkmab
open Go.RowKit
theorem addb_c {w : World} {b0 : Nat} {Ar : Option Addr} {mr cr : Nat} {xr : List Nat} (ho : Own b0 w 43 1 Ar mr cr (us xr)) (hLr : Lim xr) (o n : Nat) {cw : Nat} {Bb : Nat} {Ab : Option Addr} {cb : Nat} {xb : List Nat} (hb : Rd Bb w 1 Ab n cb (us xb)) (hLb : Lim xb) (hrow : ∀ g, bl Ar = some g → Bb ≤ g) (hon : o + n + 1 ≤ mr) (hsz : mr ≤ 1099511627776) :
    Calls Try.prog 107 #[.slice (Ar.map (·.add o)) (n + 1) cw, .slice Ab n cb] w fun e w2 => ∃ v, e = .returned v ∧ (fun _ w2 => ∃ ys e, w.grownBy w2 (bl Ar) ∧ Own b0 w2 43 1 Ar mr cr (us ys) ∧ Lim ys ∧ ys.length = mr ∧ (∀ t, (t < o ∨ o + n + 1 ≤ t) → ys.getD t 0 = xr.getD t 0) ∧ e ≤ 1 ∧ nv ys + 4294967296 ^ (o + (n + 1)) * e = nv xr + 4294967296 ^ o * nv xb) v w2 := by
  have ho_l := ho.rd.ulen
  have hb_l := hb.ulen
  have hb_x := hb.max
  simp only [maxLen] at hb_x
  have hb_c := hb.cap
  have hb0 := hb
  have hB := World.grownBy.refl w (bl Ar)
  refine calls_of_W (vs := [.slice (Ar.map (·.add o)) (n + 1) cw, .slice Ab n cb]) [] Try.func107 rfl rfl rfl rfl ?_
  refine W.seq ?_
  refine W.region ?_
  refine WL.assign rfl rfl ?_
  refine WL.done ?_
  refine W.seq ?_
  refine W.region ?_
  refine WL.move rfl rfl ?_
  refine WL.len Try.underlying23 rfl rfl ?_
  refine WL.move rfl rfl ?_
  refine WL.done ?_
  refine W.block ?_
  refine W.loop (σ := Nat × Nat × List Nat) (fun s w1 => match s with | (i, e, zs) => w.grownBy w1 (bl Ar) ∧ i ≤ n + 1 ∧ e ≤ 1 ∧ Lim zs ∧ zs.length = mr ∧ (∀ t, (t < o ∨ o + i ≤ t) → zs.getD t 0 = xr.getD t 0) ∧ nv zs + 4294967296 ^ (o + i) * e = nv xr + 4294967296 ^ o * nv (xb.take i) ∧ Own b0 w1 43 1 Ar mr cr (us (zs))) (fun s => match s with | (i, e, zs) => [(0, .slice (Ar.map (·.add o)) (n + 1) cw), (1, .slice Ab n cb), (4, .int .u32 ((e : Nat) : Int)), (6, .slice (Ar.map (·.add o)) (n + 1) cw), (7, .int .i64 ((n + 1 : Nat) : Int)), (8, .int .i64 ((i : Nat) : Int))]) (fun s => match s with | (i, e, zs) => n + 1 - i) (0, 0, xr) ?_ ?_ ?_
  · exact ⟨hB, by omega, by omega, hLr, by omega, fun _ _ => rfl, by simp, ho⟩
  · exact ⟨rfl, rfl, iv (by omega), rfl, iv (by omega), iv (by omega), trivial⟩
  · rintro ⟨i, e, zs⟩ w11 ⟨hB, hi, he, hLz, hlz, hsame, heq, ho⟩
    have hb := hb0.grown hB hrow
    have hz := hLz.getD (o + i)
    have hxb := hLb.getD i
    refine W.seq ?_
    refine W.region ?_
    refine WL.lss rfl rfl rfl (fun c12 => ?_) (fun c12 => ?_)
    · refine WL.done ?_
      refine W.seq ?_
      refine W.condT rfl ?_
      refine W.skip ?_
      refine W.seq ?_
      refine W.block ?_
      refine W.seq ?_
      refine W.region ?_
      refine WL.move rfl rfl ?_
      refine WL.assign rfl rfl ?_
      refine WL.done ?_
      refine W.draw [⟨[], [0], true⟩, ⟨[], [5], true⟩, ⟨[], [0], true⟩, ⟨[], [5], true⟩, ⟨[2, 3], [], true⟩, ⟨[4], [], false⟩, ⟨[], [1], true⟩, ⟨[], [5], true⟩, ⟨[6, 7], [], false⟩, ⟨[], [4], true⟩, ⟨[5, 8, 9], [], false⟩, ⟨[10], [], true⟩, ⟨[11], [], true⟩, ⟨[11], [], true⟩, ⟨[0, 1], [], true⟩, ⟨[14, 12], [], false⟩, ⟨[13], [], true⟩] [[(0, .slice (Ar.map (·.add o)) (n + 1) cw)], [(5, .int .i64 ((i : Nat) : Int))], [(0, .slice (Ar.map (·.add o)) (n + 1) cw)], [(5, .int .i64 ((i : Nat) : Int))], [], [], [(1, .slice Ab n cb)], [(5, .int .i64 ((i : Nat) : Int))], [], [(4, .int .u32 ((e : Nat) : Int))], [], [], [], [], [], [], []] (fun iQ => [fun v _ => v = .slice (Ar.map (·.add o)) (n + 1) cw, fun v _ => v = .int .i64 ((i : Nat) : Int), fun v _ => v = .slice (Ar.map (·.add o)) (n + 1) cw, fun v _ => v = .int .i64 ((i : Nat) : Int), fun v _ => v = .pointer (some ((adOf Ar).add (o + i))), fun v _ => v = .int .u32 ((zs.getD (o + i) 0 : Nat) : Int), fun v _ => v = .slice Ab n cb, fun v _ => v = .int .i64 ((i : Nat) : Int), fun v _ => v = .int .u32 ((xb.getD i 0 : Nat) : Int), fun v _ => v = .int .u32 ((e : Nat) : Int), fun v _ => v = .tuple #[.int .u32 (((zs.getD (o + i) 0 + xb.getD i 0 + e) % 4294967296 : Nat) : Int), .int .u32 (((zs.getD (o + i) 0 + xb.getD i 0 + e) / 4294967296 : Nat) : Int)], fun v _ => v = .tuple #[.int .u32 (((zs.getD (o + i) 0 + xb.getD i 0 + e) % 4294967296 : Nat) : Int), .int .u32 (((zs.getD (o + i) 0 + xb.getD i 0 + e) / 4294967296 : Nat) : Int)], fun v _ => v = .int .u32 (((zs.getD (o + i) 0 + xb.getD i 0 + e) % 4294967296 : Nat) : Int), fun v _ => v = .int .u32 (((zs.getD (o + i) 0 + xb.getD i 0 + e) / 4294967296 : Nat) : Int), fun v _ => v = .pointer (some ((adOf Ar).add (o + i))), fun _ _ => True, fun v _ => v = .int .u32 (((zs.getD (o + i) 0 + xb.getD i 0 + e) / 4294967296 : Nat) : Int)].getD iQ (fun _ _ => True)) (fun w1 => w.grownBy w1 (bl Ar) ∧ Own b0 w1 43 1 Ar mr cr (us (zs.set (o + i) ((zs.getD (o + i) 0 + xb.getD i 0 + e) % 4294967296)))) 15 Try.mixed (by kernel_rfl) ?_ ?_ ?_
      · refine Vs_mono _ ?_
        intro VQ hVQ vQ wQ1 wQ2 hQ1 hQ2
        simp only [List.mem_cons, List.not_mem_nil, or_false] at hVQ
        rcases hVQ with rfl | rfl | rfl | rfl | rfl | rfl | rfl | rfl | rfl | rfl | rfl | rfl | rfl | rfl | rfl | rfl | rfl <;> exact hQ1
      · refine ⟨⟨rfl, ⟨rfl, trivial⟩, ?_⟩, ⟨rfl, ⟨rfl, trivial⟩, ?_⟩, ⟨rfl, ⟨rfl, trivial⟩, ?_⟩, ⟨rfl, ⟨rfl, trivial⟩, ?_⟩, ⟨rfl, trivial, ?_⟩, ⟨rfl, trivial, ?_⟩, ⟨rfl, ⟨rfl, trivial⟩, ?_⟩, ⟨rfl, ⟨rfl, trivial⟩, ?_⟩, ⟨rfl, trivial, ?_⟩, ⟨rfl, ⟨rfl, trivial⟩, ?_⟩, ⟨rfl, trivial, ?_⟩, ⟨rfl, trivial, ?_⟩, ⟨rfl, trivial, ?_⟩, ⟨rfl, trivial, ?_⟩, ⟨rfl, trivial, ?_⟩, ⟨rfl, trivial, ?_⟩, ⟨rfl, trivial, ?_⟩, trivial⟩
        · intro w13 hE
          intro R
          refine WL.move rfl rfl ?_
          exact WL.done ⟨_, rfl, rfl, rfl⟩
        · intro w14 hE
          intro R
          refine WL.move rfl rfl ?_
          exact WL.done ⟨_, rfl, rfl, rfl⟩
        · intro w15 hE
          intro R
          refine WL.move rfl rfl ?_
          exact WL.done ⟨_, rfl, rfl, rfl⟩
        · intro w16 hE
          intro R
          refine WL.move rfl rfl ?_
          exact WL.done ⟨_, rfl, rfl, rfl⟩
        · intro w17 hE
          rintro _ rfl
          rintro _ rfl
          intro R
          refine WL.indexW (o) (i) Try.underlying23 Try.el43 rfl rfl (by omega) (by omega) ho.rd (by omega) rfl ?_
          exact WL.done ⟨_, rfl, rfl, rfl⟩
        · intro w18 hE
          have hE := hE rfl
          have hB := row_ext hB hE
          have ho := ho.ext hE
          rintro _ rfl
          intro R
          refine WL.load Try.underlying43 rfl rfl (Rd.at_ ho.rd (us_at (by omega))) rfl ?_
          exact WL.done ⟨_, rfl, ext_refl _, rfl⟩
        · intro w19 hE
          intro R
          refine WL.move rfl rfl ?_
          exact WL.done ⟨_, rfl, rfl, rfl⟩
        · intro w20 hE
          intro R
          refine WL.move rfl rfl ?_
          exact WL.done ⟨_, rfl, rfl, rfl⟩
        · intro w21 hE
          have hE := hE rfl
          have hB := row_ext hB hE
          have hb := hb0.grown hB hrow
          rintro _ rfl
          rintro _ rfl
          intro R
          refine WL.call Try.func79 rfl Try.nm79 rfl rfl (limbAt_c hb (i) (by omega)) ?_
          rintro _ w22 ⟨rfl, hGw22⟩
          have hB := row_ext hB hGw22
          exact WL.done ⟨_, rfl, hGw22, rfl⟩
        · intro w23 hE
          intro R
          refine WL.move rfl rfl ?_
          exact WL.done ⟨_, rfl, rfl, rfl⟩
        · intro w24 hE
          have hE := hE rfl
          have hB := row_ext hB hE
          rintro _ rfl
          rintro _ rfl
          rintro _ rfl
          intro R
          refine WL.call Try.func78 rfl Try.nm78 rfl rfl (Add32_c (zs.getD (o + i) 0) (xb.getD i 0) e (by omega) (by omega) (by omega) (by omega) (by omega) (by omega)) ?_
          rintro _ w25 ⟨rfl, hGw25⟩
          have hB := row_ext hB hGw25
          exact WL.done ⟨_, rfl, hGw25, rfl⟩
        · intro w26 hE
          rintro _ rfl
          intro R
          refine WL.move rfl rfl ?_
          exact WL.done ⟨_, rfl, rfl, rfl⟩
        · intro w27 hE
          rintro _ rfl
          intro R
          refine WL.extract rfl rfl rfl ?_
          exact WL.done ⟨_, rfl, rfl, rfl⟩
        · intro w28 hE
          rintro _ rfl
          intro R
          refine WL.extract rfl rfl rfl ?_
          exact WL.done ⟨_, rfl, rfl, rfl⟩
        · intro w29 hE
          rintro _ rfl
          rintro _ rfl
          intro R
          refine WL.indexW (o) (i) Try.underlying23 Try.el43 rfl rfl (by omega) (by omega) ho.rd (by omega) rfl ?_
          exact WL.done ⟨_, rfl, rfl, rfl⟩
        · intro w30 hE
          have hE := hE rfl
          have hB := row_ext hB hE
          have ho := ho.ext hE
          rintro _ rfl
          rintro _ rfl
          intro R
          refine WL.store Try.el43 rfl rfl rfl (by omega) ho ?_
          have hOld32 := ho
          intro w31 ho hGw31
          change Own _ _ _ _ _ _ _ ((us zs).set (o + i) (.int .u32 (((zs.getD (o + i) 0 + xb.getD i 0 + e) % 4294967296 : Nat) : Int))) at ho
          rw [us_set] at ho
          have hB := row_own hB hGw31
          have := ho.rd.ulen
          exact WL.done ⟨rfl, ⟨hB, ho⟩⟩
        · intro w33 hE
          rintro _ rfl
          intro R
          refine WL.assign rfl rfl ?_
          exact WL.done ⟨_, rfl, rfl, rfl⟩
      · intro vals w34 hT hVs
        rw [if_pos (by decide)] at hT
        obtain ⟨hB, ho⟩ := hT
        have hv0 : vals 0 = _ := hVs 0 (by decide) (by decide)
        have hv1 : vals 1 = _ := hVs 1 (by decide) (by decide)
        have hv2 : vals 2 = _ := hVs 2 (by decide) (by decide)
        have hv3 : vals 3 = _ := hVs 3 (by decide) (by decide)
        have hv4 : vals 4 = _ := hVs 4 (by decide) (by decide)
        have hv5 : vals 5 = _ := hVs 5 (by decide) (by decide)
        have hv6 : vals 6 = _ := hVs 6 (by decide) (by decide)
        have hv7 : vals 7 = _ := hVs 7 (by decide) (by decide)
        have hv8 : vals 8 = _ := hVs 8 (by decide) (by decide)
        have hv9 : vals 9 = _ := hVs 9 (by decide) (by decide)
        have hv10 : vals 10 = _ := hVs 10 (by decide) (by decide)
        have hv11 : vals 11 = _ := hVs 11 (by decide) (by decide)
        have hv12 : vals 12 = _ := hVs 12 (by decide) (by decide)
        have hv13 : vals 13 = _ := hVs 13 (by decide) (by decide)
        have hv14 : vals 14 = _ := hVs 14 (by decide) (by decide)
        have hv16 : vals 16 = _ := hVs 16 (by decide) (by decide)
        rw [show (List.filterMap (fun i => Option.map (fun t => (t, vals i)) (dstAt _ i)) (List.range _)) = [(12, .slice (Ar.map (·.add o)) (n + 1) cw), (13, .int .i64 ((i : Nat) : Int)), (14, .slice (Ar.map (·.add o)) (n + 1) cw), (15, .int .i64 ((i : Nat) : Int)), (16, .pointer (some ((adOf Ar).add (o + i)))), (17, .int .u32 ((zs.getD (o + i) 0 : Nat) : Int)), (18, .slice Ab n cb), (19, .int .i64 ((i : Nat) : Int)), (20, .int .u32 ((xb.getD i 0 : Nat) : Int)), (21, .int .u32 ((e : Nat) : Int)), (22, .tuple #[.int .u32 (((zs.getD (o + i) 0 + xb.getD i 0 + e) % 4294967296 : Nat) : Int), .int .u32 (((zs.getD (o + i) 0 + xb.getD i 0 + e) / 4294967296 : Nat) : Int)]), (11, .tuple #[.int .u32 (((zs.getD (o + i) 0 + xb.getD i 0 + e) % 4294967296 : Nat) : Int), .int .u32 (((zs.getD (o + i) 0 + xb.getD i 0 + e) / 4294967296 : Nat) : Int)]), (23, .int .u32 (((zs.getD (o + i) 0 + xb.getD i 0 + e) % 4294967296 : Nat) : Int)), (24, .int .u32 (((zs.getD (o + i) 0 + xb.getD i 0 + e) / 4294967296 : Nat) : Int)), (25, .pointer (some ((adOf Ar).add (o + i)))), (4, .int .u32 (((zs.getD (o + i) 0 + xb.getD i 0 + e) / 4294967296 : Nat) : Int))] from by
          show [(12, vals 0), (13, vals 1), (14, vals 2), (15, vals 3), (16, vals 4), (17, vals 5), (18, vals 6), (19, vals 7), (20, vals 8), (21, vals 9), (22, vals 10), (11, vals 11), (23, vals 12), (24, vals 13), (25, vals 14), (4, vals 16)] = _
          rw [hv0, hv1, hv2, hv3, hv4, hv5, hv6, hv7, hv8, hv9, hv10, hv11, hv12, hv13, hv14, hv16]]
        refine W.region ?_
        refine WL.add (r := ((i + 1 : Nat) : Int)) rfl rfl (wi64 (by omega) (by omega) (by omega)) rfl ?_
        refine WL.move rfl rfl ?_
        refine WL.done ?_
        refine ⟨(i + 1, (zs.getD (o + i) 0 + xb.getD i 0 + e) / 4294967296, zs.set (o + i) ((zs.getD (o + i) 0 + xb.getD i 0 + e) % 4294967296)), ⟨rfl, rfl, iv (by omega), rfl, iv (by omega), iv (by omega), trivial⟩, by (dsimp only; omega), ?_⟩
        exact ⟨hB, by omega, by omega, hLz.set _ (Nat.mod_lt _ (by decide)), by simp [hlz], fun t ht => by rw [getD_set_ne (by omega)]; exact hsame t (by omega), by rw [nv_take_succ]; exact addb_step (by omega) rfl heq (by omega), ho⟩
    · refine WL.done ?_
      refine W.seq ?_
      refine W.condF rfl ?_
      refine W.exit ?_
      refine ⟨_, rfl, ?_⟩
      obtain rfl : i = n + 1 := by omega
      rw [nv_take_all (by omega)] at heq
      exact ⟨_, _, hB, ho, hLz, hlz, hsame, he, heq⟩

theorem est_c {w : World} {Br : Nat} {Ar : Option Addr} {mr cr : Nat} {xr : List Nat} (hr : Rd Br w 1 Ar mr cr (us xr)) (hLr : Lim xr) (o n : Nat) {cw : Nat} {Bb : Nat} {Ab : Option Addr} {cb : Nat} {xb : List Nat} (hb : Rd Bb w 1 Ab n cb (us xb)) (hLb : Lim xb) (hon : o + n + 1 ≤ mr) (hn2 : 2 ≤ n) (hVv : 2147483648 ≤ xb.getD (n - 1) 0) (hWD : nv ((xr.drop o).take (n + 1)) < 4294967296 * nv xb) :
    Calls Try.prog 105 #[.slice (Ar.map (·.add o)) (n + 1) cw, .slice Ab n cb] w fun e w2 => ∃ v, e = .returned v ∧ (fun v w2 => ∃ dg : Nat, v = .int .u32 (dg : Int) ∧ w.grownBy w2 none ∧ dg < 4294967296 ∧ nv ((xr.drop o).take (n + 1)) / nv xb ≤ dg ∧ dg * nv xb < nv ((xr.drop o).take (n + 1)) + nv xb) v w2 := by
  have hr_l := hr.ulen
  have hb_l := hb.ulen
  have hr_x := hr.max
  simp only [maxLen] at hr_x
  have hr_c := hr.cap
  have hb_x := hb.max
  simp only [maxLen] at hb_x
  have hb_c := hb.cap
  have hb0 := hb
  have hr0 := hr
  have hl1 := hLb.getD (n - 1)
  have hl2 := hLb.getD (n - 2)
  have hr0_ := hLr.getD (o + n)
  have hr1_ := hLr.getD (o + (n - 1))
  have hr2_ := hLr.getD (o + (n - 2))
  have hD := split_two (l := xb) hn2 (by omega)
  have hW := split_win (l := xr) (o := o) hn2
  have hD2 := hLb.take_lt (n - 2)
  have hW2 := (hLr.drop o).take_lt (n - 2)
  have hDp : 0 < nv xb := by omega
  obtain ⟨q, hq⟩ : ∃ q, q = nv ((xr.drop o).take (n + 1)) / nv xb := ⟨_, rfl⟩
  have hqW : q * nv xb ≤ nv ((xr.drop o).take (n + 1)) := by rw [hq]; exact Nat.div_mul_le_self _ _
  have hqB : q < 4294967296 := by rw [hq]; exact (Nat.div_lt_iff_lt_mul hDp).2 hWD
  obtain ⟨top, htop⟩ : ∃ top, top = xr.getD (o + (n - 1)) 0 + 4294967296 * xr.getD (o + n) 0 := ⟨_, rfl⟩
  rw [← htop] at hW
  have hq1 := est_first hD hW hW2 hr2_ (by omega) hqW
  have hdm := Nat.div_add_mod top (xb.getD (n - 1) 0)
  have hml := Nat.mod_lt top (show xb.getD (n - 1) 0 > 0 by omega)
  have hdl : top / (xb.getD (n - 1) 0) < 8589934592 := by rw [Nat.div_lt_iff_lt_mul (by omega)]; have := Nat.mul_le_mul_left 8589934592 hVv; omega
  have hB := ext_refl w
  refine calls_of_W (vs := [.slice (Ar.map (·.add o)) (n + 1) cw, .slice Ab n cb]) [4] Try.func105 rfl rfl rfl rfl ?_
  refine W.seq ?_
  refine W.region ?_
  refine WL.assign rfl rfl ?_
  refine WL.done ?_
  refine W.seq ?_
  refine W.region ?_
  refine WL.move rfl rfl ?_
  refine WL.len Try.underlying23 rfl rfl ?_
  refine WL.assign rfl rfl ?_
  refine WL.done ?_
  refine W.seq ?_
  refine W.region ?_
  refine WL.move rfl rfl ?_
  refine WL.move rfl rfl ?_
  refine WL.sub (r := ((n - 1 : Nat) : Int)) rfl rfl (wi64 (by omega) (by omega) (by omega)) rfl ?_
  refine WL.index1 (n - 1) Try.underlying23 Try.el43 rfl rfl (by omega) (by omega) hb rfl ?_
  refine WL.load Try.underlying43 rfl rfl (Rd.at_ hb (us_at (by omega))) rfl ?_
  refine WL.conv (r := ((xb.getD (n - 1) 0 : Nat) : Int)) Try.underlying43 Try.underlying72 rfl (wu64 (by omega) (by omega) (by omega)) rfl ?_
  refine WL.assign rfl rfl ?_
  refine WL.done ?_
  refine W.seq ?_
  refine W.draw [⟨[], [0], true⟩, ⟨[], [5], true⟩, ⟨[0, 1], [], true⟩, ⟨[2], [], false⟩, ⟨[3], [], true⟩, ⟨[4], [], true⟩, ⟨[], [0], true⟩, ⟨[], [5], true⟩, ⟨[7], [], true⟩, ⟨[6, 8], [], true⟩, ⟨[9], [], false⟩, ⟨[10], [], true⟩, ⟨[5, 11], [], true⟩, ⟨[12], [], true⟩] [[(0, .slice (Ar.map (·.add o)) (n + 1) cw)], [(5, .int .i64 ((n : Nat) : Int))], [], [], [], [], [(0, .slice (Ar.map (·.add o)) (n + 1) cw)], [(5, .int .i64 ((n : Nat) : Int))], [], [], [], [], [], []] (fun iQ => [fun v _ => v = .slice (Ar.map (·.add o)) (n + 1) cw, fun v _ => v = .int .i64 ((n : Nat) : Int), fun v _ => v = .pointer (some ((adOf Ar).add (o + n))), fun v _ => v = .int .u32 ((xr.getD (o + n) 0 : Nat) : Int), fun v _ => v = .int .u64 ((xr.getD (o + n) 0 : Nat) : Int), fun v _ => v = .int .u64 ((xr.getD (o + n) 0 * 4294967296 : Nat) : Int), fun v _ => v = .slice (Ar.map (·.add o)) (n + 1) cw, fun v _ => v = .int .i64 ((n : Nat) : Int), fun v _ => v = .int .i64 ((n - 1 : Nat) : Int), fun v _ => v = .pointer (some ((adOf Ar).add (o + (n - 1)))), fun v _ => v = .int .u32 ((xr.getD (o + (n - 1)) 0 : Nat) : Int), fun v _ => v = .int .u64 ((xr.getD (o + (n - 1)) 0 : Nat) : Int), fun v _ => v = .int .u64 ((top : Nat) : Int), fun v _ => v = .int .u64 ((top : Nat) : Int)].getD iQ (fun _ _ => True)) (fun _ => True) 14 Try.mixed (by kernel_rfl) ?_ ?_ ?_
  · refine Vs_mono _ ?_
    intro VQ hVQ vQ wQ1 wQ2 hQ1 hQ2
    simp only [List.mem_cons, List.not_mem_nil, or_false] at hVQ
    rcases hVQ with rfl | rfl | rfl | rfl | rfl | rfl | rfl | rfl | rfl | rfl | rfl | rfl | rfl | rfl <;> exact hQ1
  · refine ⟨⟨rfl, ⟨rfl, trivial⟩, ?_⟩, ⟨rfl, ⟨rfl, trivial⟩, ?_⟩, ⟨rfl, trivial, ?_⟩, ⟨rfl, trivial, ?_⟩, ⟨rfl, trivial, ?_⟩, ⟨rfl, trivial, ?_⟩, ⟨rfl, ⟨rfl, trivial⟩, ?_⟩, ⟨rfl, ⟨rfl, trivial⟩, ?_⟩, ⟨rfl, trivial, ?_⟩, ⟨rfl, trivial, ?_⟩, ⟨rfl, trivial, ?_⟩, ⟨rfl, trivial, ?_⟩, ⟨rfl, trivial, ?_⟩, ⟨rfl, trivial, ?_⟩, trivial⟩
    · intro w11 hE
      intro R
      refine WL.move rfl rfl ?_
      exact WL.done ⟨_, rfl, rfl, rfl⟩
    · intro w12 hE
      intro R
      refine WL.move rfl rfl ?_
      exact WL.done ⟨_, rfl, rfl, rfl⟩
    · intro w13 hE
      rintro _ rfl
      rintro _ rfl
      intro R
      refine WL.indexW (o) (n) Try.underlying23 Try.el43 rfl rfl (by omega) (by omega) hr (by omega) rfl ?_
      exact WL.done ⟨_, rfl, rfl, rfl⟩
    · intro w14 hE
      have hE := hE rfl
      have hB := ext_trans hB hE
      have hr := hr0.ext hB
      rintro _ rfl
      intro R
      refine WL.load Try.underlying43 rfl rfl (Rd.at_ hr (us_at (by omega))) rfl ?_
      exact WL.done ⟨_, rfl, ext_refl _, rfl⟩
    · intro w15 hE
      rintro _ rfl
      intro R
      refine WL.conv (r := ((xr.getD (o + n) 0 : Nat) : Int)) Try.underlying43 Try.underlying72 rfl (wu64 (by omega) (by omega) (by omega)) rfl ?_
      exact WL.done ⟨_, rfl, rfl, rfl⟩
    · intro w16 hE
      rintro _ rfl
      intro R
      refine WL.shl (r := ((xr.getD (o + n) 0 * 4294967296 : Nat) : Int)) rfl rfl (by omega) (by rw [show IntKind.u64.bits = 64 from rfl, shl_nat (a := xr.getD (o + n) 0) (s := 32) (by omega) (by omega) 64 (by omega)]; exact wu64 (by omega) (by omega) (by omega)) rfl ?_
      exact WL.done ⟨_, rfl, rfl, rfl⟩
    · intro w17 hE
      intro R
      refine WL.move rfl rfl ?_
      exact WL.done ⟨_, rfl, rfl, rfl⟩
    · intro w18 hE
      intro R
      refine WL.move rfl rfl ?_
      exact WL.done ⟨_, rfl, rfl, rfl⟩
    · intro w19 hE
      rintro _ rfl
      intro R
      refine WL.sub (r := ((n - 1 : Nat) : Int)) rfl rfl (wi64 (by omega) (by omega) (by omega)) rfl ?_
      exact WL.done ⟨_, rfl, rfl, rfl⟩
    · intro w20 hE
      rintro _ rfl
      rintro _ rfl
      intro R
      refine WL.indexW (o) (n - 1) Try.underlying23 Try.el43 rfl rfl (by omega) (by omega) hr (by omega) rfl ?_
      exact WL.done ⟨_, rfl, rfl, rfl⟩
    · intro w21 hE
      have hE := hE rfl
      have hB := ext_trans hB hE
      have hr := hr0.ext hB
      rintro _ rfl
      intro R
      refine WL.load Try.underlying43 rfl rfl (Rd.at_ hr (us_at (by omega))) rfl ?_
      exact WL.done ⟨_, rfl, ext_refl _, rfl⟩
    · intro w22 hE
      rintro _ rfl
      intro R
      refine WL.conv (r := ((xr.getD (o + (n - 1)) 0 : Nat) : Int)) Try.underlying43 Try.underlying72 rfl (wu64 (by omega) (by omega) (by omega)) rfl ?_
      exact WL.done ⟨_, rfl, rfl, rfl⟩
    · intro w23 hE
      rintro _ rfl
      rintro _ rfl
      intro R
      refine WL.bits (r := ((top : Nat) : Int)) rfl rfl (.inr (.inl rfl)) (by rw [htop]; exact or64 rfl rfl hr0_ hr1_) rfl ?_
      exact WL.done ⟨_, rfl, rfl, rfl⟩
    · intro w24 hE
      rintro _ rfl
      intro R
      refine WL.assign rfl rfl ?_
      exact WL.done ⟨_, rfl, rfl, rfl⟩
  · intro vals w25 hT hVs
    rw [if_neg (by decide)] at hT
    have hB := ext_trans hB hT
    have hb := hb0.ext hB
    have hr := hr0.ext hB
    have hv0 : vals 0 = _ := hVs 0 (by decide) (by decide)
    have hv1 : vals 1 = _ := hVs 1 (by decide) (by decide)
    have hv2 : vals 2 = _ := hVs 2 (by decide) (by decide)
    have hv3 : vals 3 = _ := hVs 3 (by decide) (by decide)
    have hv4 : vals 4 = _ := hVs 4 (by decide) (by decide)
    have hv5 : vals 5 = _ := hVs 5 (by decide) (by decide)
    have hv6 : vals 6 = _ := hVs 6 (by decide) (by decide)
    have hv7 : vals 7 = _ := hVs 7 (by decide) (by decide)
    have hv8 : vals 8 = _ := hVs 8 (by decide) (by decide)
    have hv9 : vals 9 = _ := hVs 9 (by decide) (by decide)
    have hv10 : vals 10 = _ := hVs 10 (by decide) (by decide)
    have hv11 : vals 11 = _ := hVs 11 (by decide) (by decide)
    have hv12 : vals 12 = _ := hVs 12 (by decide) (by decide)
    have hv13 : vals 13 = _ := hVs 13 (by decide) (by decide)
    rw [show (List.filterMap (fun i => Option.map (fun t => (t, vals i)) (dstAt _ i)) (List.range _)) = [(18, .slice (Ar.map (·.add o)) (n + 1) cw), (19, .int .i64 ((n : Nat) : Int)), (20, .pointer (some ((adOf Ar).add (o + n)))), (21, .int .u32 ((xr.getD (o + n) 0 : Nat) : Int)), (22, .int .u64 ((xr.getD (o + n) 0 : Nat) : Int)), (23, .int .u64 ((xr.getD (o + n) 0 * 4294967296 : Nat) : Int)), (24, .slice (Ar.map (·.add o)) (n + 1) cw), (25, .int .i64 ((n : Nat) : Int)), (26, .int .i64 ((n - 1 : Nat) : Int)), (27, .pointer (some ((adOf Ar).add (o + (n - 1))))), (28, .int .u32 ((xr.getD (o + (n - 1)) 0 : Nat) : Int)), (29, .int .u64 ((xr.getD (o + (n - 1)) 0 : Nat) : Int)), (30, .int .u64 ((top : Nat) : Int)), (7, .int .u64 ((top : Nat) : Int))] from by
      show [(18, vals 0), (19, vals 1), (20, vals 2), (21, vals 3), (22, vals 4), (23, vals 5), (24, vals 6), (25, vals 7), (26, vals 8), (27, vals 9), (28, vals 10), (29, vals 11), (30, vals 12), (7, vals 13)] = _
      rw [hv0, hv1, hv2, hv3, hv4, hv5, hv6, hv7, hv8, hv9, hv10, hv11, hv12, hv13]]
    refine W.seq ?_
    refine W.draw [⟨[], [7], true⟩, ⟨[], [6], true⟩, ⟨[0, 1], [], true⟩, ⟨[], [7], true⟩, ⟨[], [6], true⟩, ⟨[3, 4], [], true⟩, ⟨[2], [], true⟩, ⟨[5], [], true⟩] [[(7, .int .u64 ((top : Nat) : Int))], [(6, .int .u64 ((xb.getD (n - 1) 0 : Nat) : Int))], [], [(7, .int .u64 ((top : Nat) : Int))], [(6, .int .u64 ((xb.getD (n - 1) 0 : Nat) : Int))], [], [], []] (fun iQ => [fun v _ => v = .int .u64 ((top : Nat) : Int), fun v _ => v = .int .u64 ((xb.getD (n - 1) 0 : Nat) : Int), fun v _ => v = .int .u64 ((top / (xb.getD (n - 1) 0) : Nat) : Int), fun v _ => v = .int .u64 ((top : Nat) : Int), fun v _ => v = .int .u64 ((xb.getD (n - 1) 0 : Nat) : Int), fun v _ => v = .int .u64 ((top % (xb.getD (n - 1) 0) : Nat) : Int), fun v _ => v = .int .u64 ((top / (xb.getD (n - 1) 0) : Nat) : Int), fun v _ => v = .int .u64 ((top % (xb.getD (n - 1) 0) : Nat) : Int)].getD iQ (fun _ _ => True)) (fun _ => True) 8 Try.mixed (by kernel_rfl) ?_ ?_ ?_
    · refine Vs_mono _ ?_
      intro VQ hVQ vQ wQ1 wQ2 hQ1 hQ2
      simp only [List.mem_cons, List.not_mem_nil, or_false] at hVQ
      rcases hVQ with rfl | rfl | rfl | rfl | rfl | rfl | rfl | rfl <;> exact hQ1
    · refine ⟨⟨rfl, ⟨rfl, trivial⟩, ?_⟩, ⟨rfl, ⟨rfl, trivial⟩, ?_⟩, ⟨rfl, trivial, ?_⟩, ⟨rfl, ⟨rfl, trivial⟩, ?_⟩, ⟨rfl, ⟨rfl, trivial⟩, ?_⟩, ⟨rfl, trivial, ?_⟩, ⟨rfl, trivial, ?_⟩, ⟨rfl, trivial, ?_⟩, trivial⟩
      · intro w26 hE
        intro R
        refine WL.move rfl rfl ?_
        exact WL.done ⟨_, rfl, rfl, rfl⟩
      · intro w27 hE
        intro R
        refine WL.move rfl rfl ?_
        exact WL.done ⟨_, rfl, rfl, rfl⟩
      · intro w28 hE
        rintro _ rfl
        rintro _ rfl
        intro R
        refine WL.quo (r := ((top / (xb.getD (n - 1) 0) : Nat) : Int)) rfl rfl (by omega) (qu64 (by omega) (by omega) (by omega)) rfl ?_
        exact WL.done ⟨_, rfl, rfl, rfl⟩
      · intro w29 hE
        intro R
        refine WL.move rfl rfl ?_
        exact WL.done ⟨_, rfl, rfl, rfl⟩
      · intro w30 hE
        intro R
        refine WL.move rfl rfl ?_
        exact WL.done ⟨_, rfl, rfl, rfl⟩
      · intro w31 hE
        rintro _ rfl
        rintro _ rfl
        intro R
        refine WL.rem (r := ((top % (xb.getD (n - 1) 0) : Nat) : Int)) rfl rfl (by omega) (tmod_nat (by omega) (by omega)) rfl ?_
        exact WL.done ⟨_, rfl, rfl, rfl⟩
      · intro w32 hE
        rintro _ rfl
        intro R
        refine WL.assign rfl rfl ?_
        exact WL.done ⟨_, rfl, rfl, rfl⟩
      · intro w33 hE
        rintro _ rfl
        intro R
        refine WL.assign rfl rfl ?_
        exact WL.done ⟨_, rfl, rfl, rfl⟩
    · intro vals w34 hT hVs
      rw [if_neg (by decide)] at hT
      have hB := ext_trans hB hT
      have hb := hb0.ext hB
      have hr := hr0.ext hB
      have hv0 : vals 0 = _ := hVs 0 (by decide) (by decide)
      have hv1 : vals 1 = _ := hVs 1 (by decide) (by decide)
      have hv2 : vals 2 = _ := hVs 2 (by decide) (by decide)
      have hv3 : vals 3 = _ := hVs 3 (by decide) (by decide)
      have hv4 : vals 4 = _ := hVs 4 (by decide) (by decide)
      have hv5 : vals 5 = _ := hVs 5 (by decide) (by decide)
      have hv6 : vals 6 = _ := hVs 6 (by decide) (by decide)
      have hv7 : vals 7 = _ := hVs 7 (by decide) (by decide)
      rw [show (List.filterMap (fun i => Option.map (fun t => (t, vals i)) (dstAt _ i)) (List.range _)) = [(31, .int .u64 ((top : Nat) : Int)), (32, .int .u64 ((xb.getD (n - 1) 0 : Nat) : Int)), (33, .int .u64 ((top / (xb.getD (n - 1) 0) : Nat) : Int)), (34, .int .u64 ((top : Nat) : Int)), (35, .int .u64 ((xb.getD (n - 1) 0 : Nat) : Int)), (36, .int .u64 ((top % (xb.getD (n - 1) 0) : Nat) : Int)), (8, .int .u64 ((top / (xb.getD (n - 1) 0) : Nat) : Int)), (9, .int .u64 ((top % (xb.getD (n - 1) 0) : Nat) : Int))] from by
        show [(31, vals 0), (32, vals 1), (33, vals 2), (34, vals 3), (35, vals 4), (36, vals 5), (8, vals 6), (9, vals 7)] = _
        rw [hv0, hv1, hv2, hv3, hv4, hv5, hv6, hv7]]
      refine W.seq ?_
      refine W.block ?_
      refine W.loop (σ := Nat × Nat) (fun s w1 => match s with | (dg, left) => w.grownBy w1 none ∧ dg * (xb.getD (n - 1) 0) + left = top ∧ q ≤ dg ∧ left < 4294967296 ∧ dg < 8589934592) (fun s => match s with | (dg, left) => [(0, .slice (Ar.map (·.add o)) (n + 1) cw), (1, .slice Ab n cb), (5, .int .i64 ((n : Nat) : Int)), (6, .int .u64 ((xb.getD (n - 1) 0 : Nat) : Int)), (8, .int .u64 ((dg : Nat) : Int)), (9, .int .u64 ((left : Nat) : Int))]) (fun s => match s with | (dg, left) => dg) (top / (xb.getD (n - 1) 0), top % (xb.getD (n - 1) 0)) ?_ ?_ ?_
      · exact ⟨hB, by rw [Nat.mul_comm]; exact hdm, by rw [hq]; rwa [hq] at hq1, by omega, hdl⟩
      · exact ⟨rfl, rfl, iv (by omega), iv (by omega), iv (by omega), iv (by omega), trivial⟩
      · rintro ⟨dg, left⟩ w35 ⟨hB, hinv, hqd, hleft, hdgl⟩
        have hb := hb0.ext hB
        have hr := hr0.ext hB
        refine W.seq ?_
        refine W.seq ?_
        rcases Nat.lt_or_ge dg 4294967296 with hd | hd
        · refine W.draw [⟨[], [8], true⟩, ⟨[0], [], true⟩, ⟨[1], [], true⟩, ⟨[2], [8], true⟩, ⟨[2], [1], true⟩, ⟨[2], [5], true⟩, ⟨[5, 2], [], true⟩, ⟨[4, 6, 2], [], true⟩, ⟨[7, 2], [], false⟩, ⟨[8, 2], [], true⟩, ⟨[3, 9, 2], [], true⟩, ⟨[2], [9], true⟩, ⟨[11, 2], [], true⟩, ⟨[2], [0], true⟩, ⟨[2], [5], true⟩, ⟨[14, 2], [], true⟩, ⟨[13, 15, 2], [], true⟩, ⟨[16, 2], [], false⟩, ⟨[17, 2], [], true⟩, ⟨[12, 18, 2], [], true⟩, ⟨[10, 19, 2], [], true⟩, ⟨[2, 20], [], true⟩] [[(8, .int .u64 ((dg : Nat) : Int))], [], [], [(8, .int .u64 ((dg : Nat) : Int))], [(1, .slice Ab n cb)], [(5, .int .i64 ((n : Nat) : Int))], [], [], [], [], [], [(9, .int .u64 ((left : Nat) : Int))], [], [(0, .slice (Ar.map (·.add o)) (n + 1) cw)], [(5, .int .i64 ((n : Nat) : Int))], [], [], [], [], [], [], []] (fun iQ => [fun v _ => v = .int .u64 ((dg : Nat) : Int), fun v _ => v = .bool false, fun v _ => v = .bool false, fun v _ => v = .int .u64 ((dg : Nat) : Int), fun v _ => v = .slice Ab n cb, fun v _ => v = .int .i64 ((n : Nat) : Int), fun v _ => v = .int .i64 ((n - 2 : Nat) : Int), fun v _ => v = .pointer (some ((adOf Ab).add (n - 2))), fun v _ => v = .int .u32 ((xb.getD (n - 2) 0 : Nat) : Int), fun v _ => v = .int .u64 ((xb.getD (n - 2) 0 : Nat) : Int), fun v _ => v = .int .u64 ((dg * (xb.getD (n - 2) 0) : Nat) : Int), fun v _ => v = .int .u64 ((left : Nat) : Int), fun v _ => v = .int .u64 ((left * 4294967296 : Nat) : Int), fun v _ => v = .slice (Ar.map (·.add o)) (n + 1) cw, fun v _ => v = .int .i64 ((n : Nat) : Int), fun v _ => v = .int .i64 ((n - 2 : Nat) : Int), fun v _ => v = .pointer (some ((adOf Ar).add (o + (n - 2)))), fun v _ => v = .int .u32 ((xr.getD (o + (n - 2)) 0 : Nat) : Int), fun v _ => v = .int .u64 ((xr.getD (o + (n - 2)) 0 : Nat) : Int), fun v _ => v = .int .u64 ((xr.getD (o + (n - 2)) 0 + 4294967296 * left : Nat) : Int), fun v _ => v = .bool (decide (((xr.getD (o + (n - 2)) 0 + 4294967296 * left : Nat) : Int) < ((dg * (xb.getD (n - 2) 0) : Nat) : Int))), fun v _ => v = .bool (decide (((xr.getD (o + (n - 2)) 0 + 4294967296 * left : Nat) : Int) < ((dg * (xb.getD (n - 2) 0) : Nat) : Int)))].getD iQ (fun _ _ => True)) (fun _ => True) 22 Try.mixed (by kernel_rfl) ?_ ?_ ?_
          · refine Vs_mono _ ?_
            intro VQ hVQ vQ wQ1 wQ2 hQ1 hQ2
            simp only [List.mem_cons, List.not_mem_nil, or_false] at hVQ
            rcases hVQ with rfl | rfl | rfl | rfl | rfl | rfl | rfl | rfl | rfl | rfl | rfl | rfl | rfl | rfl | rfl | rfl | rfl | rfl | rfl | rfl | rfl | rfl <;> exact hQ1
          · refine ⟨⟨rfl, ⟨rfl, trivial⟩, ?_⟩, ⟨rfl, trivial, ?_⟩, ⟨rfl, trivial, ?_⟩, ⟨rfl, ⟨rfl, trivial⟩, ?_⟩, ⟨rfl, ⟨rfl, trivial⟩, ?_⟩, ⟨rfl, ⟨rfl, trivial⟩, ?_⟩, ⟨rfl, trivial, ?_⟩, ⟨rfl, trivial, ?_⟩, ⟨rfl, trivial, ?_⟩, ⟨rfl, trivial, ?_⟩, ⟨rfl, trivial, ?_⟩, ⟨rfl, ⟨rfl, trivial⟩, ?_⟩, ⟨rfl, trivial, ?_⟩, ⟨rfl, ⟨rfl, trivial⟩, ?_⟩, ⟨rfl, ⟨rfl, trivial⟩, ?_⟩, ⟨rfl, trivial, ?_⟩, ⟨rfl, trivial, ?_⟩, ⟨rfl, trivial, ?_⟩, ⟨rfl, trivial, ?_⟩, ⟨rfl, trivial, ?_⟩, ⟨rfl, trivial, ?_⟩, ⟨rfl, trivial, ?_⟩, trivial⟩
            · intro w36 hE
              intro R
              refine WL.move rfl rfl ?_
              exact WL.done ⟨_, rfl, rfl, rfl⟩
            · intro w37 hE
              rintro _ rfl
              intro R
              refine WL.gtrD rfl rfl rfl ?_
              exact WL.done ⟨_, rfl, rfl, (show Value.bool (decide ((4294967295 : Int) < ((dg : Nat) : Int))) = Value.bool false from congrArg Value.bool (decide_eq_false (by omega)))⟩
            · intro w38 hE
              rintro _ rfl
              intro R
              refine WL.move rfl rfl ?_
              exact WL.done ⟨_, rfl, rfl, rfl⟩
            · intro w39 hE
              rintro _ rfl
              intro R
              refine WL.take rfl ?_
              refine WL.move rfl rfl ?_
              exact WL.done ⟨_, rfl, rfl, rfl⟩
            · intro w40 hE
              rintro _ rfl
              intro R
              refine WL.take rfl ?_
              refine WL.move rfl rfl ?_
              exact WL.done ⟨_, rfl, rfl, rfl⟩
            · intro w41 hE
              rintro _ rfl
              intro R
              refine WL.take rfl ?_
              refine WL.move rfl rfl ?_
              exact WL.done ⟨_, rfl, rfl, rfl⟩
            · intro w42 hE
              rintro _ rfl
              rintro _ rfl
              intro R
              refine WL.take rfl ?_
              refine WL.sub (r := ((n - 2 : Nat) : Int)) rfl rfl (wi64 (by omega) (by omega) (by omega)) rfl ?_
              exact WL.done ⟨_, rfl, rfl, rfl⟩
            · intro w43 hE
              rintro _ rfl
              rintro _ rfl
              rintro _ rfl
              intro R
              refine WL.take rfl ?_
              refine WL.index1 (n - 2) Try.underlying23 Try.el43 rfl rfl (by omega) (by omega) hb rfl ?_
              exact WL.done ⟨_, rfl, rfl, rfl⟩
            · intro w44 hE
              have hE := hE rfl
              have hB := ext_trans hB hE
              have hb := hb0.ext hB
              rintro _ rfl
              rintro _ rfl
              intro R
              refine WL.take rfl ?_
              refine WL.load Try.underlying43 rfl rfl (Rd.at_ hb (us_at (by omega))) rfl ?_
              exact WL.done ⟨_, rfl, ext_refl _, rfl⟩
            · intro w45 hE
              rintro _ rfl
              rintro _ rfl
              intro R
              refine WL.take rfl ?_
              refine WL.conv (r := ((xb.getD (n - 2) 0 : Nat) : Int)) Try.underlying43 Try.underlying72 rfl (wu64 (by omega) (by omega) (by omega)) rfl ?_
              exact WL.done ⟨_, rfl, rfl, rfl⟩
            · intro w46 hE
              rintro _ rfl
              rintro _ rfl
              rintro _ rfl
              intro R
              refine WL.take rfl ?_
              have hm0 := mul_lim0 hd hl2
              refine WL.mul (r := ((dg * (xb.getD (n - 2) 0) : Nat) : Int)) rfl rfl (by rw [← Int.natCast_mul]; exact wu64 (by omega) (by omega) rfl) rfl ?_
              exact WL.done ⟨_, rfl, rfl, rfl⟩
            · intro w47 hE
              rintro _ rfl
              intro R
              refine WL.take rfl ?_
              refine WL.move rfl rfl ?_
              exact WL.done ⟨_, rfl, rfl, rfl⟩
            · intro w48 hE
              rintro _ rfl
              rintro _ rfl
              intro R
              refine WL.take rfl ?_
              refine WL.shl (r := ((left * 4294967296 : Nat) : Int)) rfl rfl (by omega) (by rw [show IntKind.u64.bits = 64 from rfl, shl_nat (a := left) (s := 32) (by omega) (by omega) 64 (by omega)]; exact wu64 (by omega) (by omega) (by omega)) rfl ?_
              exact WL.done ⟨_, rfl, rfl, rfl⟩
            · intro w49 hE
              rintro _ rfl
              intro R
              refine WL.take rfl ?_
              refine WL.move rfl rfl ?_
              exact WL.done ⟨_, rfl, rfl, rfl⟩
            · intro w50 hE
              rintro _ rfl
              intro R
              refine WL.take rfl ?_
              refine WL.move rfl rfl ?_
              exact WL.done ⟨_, rfl, rfl, rfl⟩
            · intro w51 hE
              rintro _ rfl
              rintro _ rfl
              intro R
              refine WL.take rfl ?_
              refine WL.sub (r := ((n - 2 : Nat) : Int)) rfl rfl (wi64 (by omega) (by omega) (by omega)) rfl ?_
              exact WL.done ⟨_, rfl, rfl, rfl⟩
            · intro w52 hE
              rintro _ rfl
              rintro _ rfl
              rintro _ rfl
              intro R
              refine WL.take rfl ?_
              refine WL.indexW (o) (n - 2) Try.underlying23 Try.el43 rfl rfl (by omega) (by omega) hr (by omega) rfl ?_
              exact WL.done ⟨_, rfl, rfl, rfl⟩
            · intro w53 hE
              have hE := hE rfl
              have hB := ext_trans hB hE
              have hr := hr0.ext hB
              rintro _ rfl
              rintro _ rfl
              intro R
              refine WL.take rfl ?_
              refine WL.load Try.underlying43 rfl rfl (Rd.at_ hr (us_at (by omega))) rfl ?_
              exact WL.done ⟨_, rfl, ext_refl _, rfl⟩
            · intro w54 hE
              rintro _ rfl
              rintro _ rfl
              intro R
              refine WL.take rfl ?_
              refine WL.conv (r := ((xr.getD (o + (n - 2)) 0 : Nat) : Int)) Try.underlying43 Try.underlying72 rfl (wu64 (by omega) (by omega) (by omega)) rfl ?_
              exact WL.done ⟨_, rfl, rfl, rfl⟩
            · intro w55 hE
              rintro _ rfl
              rintro _ rfl
              rintro _ rfl
              intro R
              refine WL.take rfl ?_
              refine WL.bits (r := ((xr.getD (o + (n - 2)) 0 + 4294967296 * left : Nat) : Int)) rfl rfl (.inr (.inl rfl)) (or64 rfl rfl hleft hr2_) rfl ?_
              exact WL.done ⟨_, rfl, rfl, rfl⟩
            · intro w56 hE
              rintro _ rfl
              rintro _ rfl
              rintro _ rfl
              intro R
              refine WL.take rfl ?_
              refine WL.gtrD rfl rfl rfl ?_
              exact WL.done ⟨_, rfl, rfl, rfl⟩
            · intro w57 hE
              rintro _ rfl
              rintro _ rfl
              intro R
              refine WL.pick rfl rfl rfl ?_
              exact WL.done ⟨_, rfl, rfl, rfl⟩
          · intro vals w58 hT hVs
            rw [if_neg (by decide)] at hT
            have hB := ext_trans hB hT
            have hv0 : vals 0 = _ := hVs 0 (by decide) (by decide)
            have hv1 : vals 1 = _ := hVs 1 (by decide) (by decide)
            have hv2 : vals 2 = _ := hVs 2 (by decide) (by decide)
            have hv3 : vals 3 = _ := hVs 3 (by decide) (by decide)
            have hv4 : vals 4 = _ := hVs 4 (by decide) (by decide)
            have hv5 : vals 5 = _ := hVs 5 (by decide) (by decide)
            have hv6 : vals 6 = _ := hVs 6 (by decide) (by decide)
            have hv7 : vals 7 = _ := hVs 7 (by decide) (by decide)
            have hv8 : vals 8 = _ := hVs 8 (by decide) (by decide)
            have hv9 : vals 9 = _ := hVs 9 (by decide) (by decide)
            have hv10 : vals 10 = _ := hVs 10 (by decide) (by decide)
            have hv11 : vals 11 = _ := hVs 11 (by decide) (by decide)
            have hv12 : vals 12 = _ := hVs 12 (by decide) (by decide)
            have hv13 : vals 13 = _ := hVs 13 (by decide) (by decide)
            have hv14 : vals 14 = _ := hVs 14 (by decide) (by decide)
            have hv15 : vals 15 = _ := hVs 15 (by decide) (by decide)
            have hv16 : vals 16 = _ := hVs 16 (by decide) (by decide)
            have hv17 : vals 17 = _ := hVs 17 (by decide) (by decide)
            have hv18 : vals 18 = _ := hVs 18 (by decide) (by decide)
            have hv19 : vals 19 = _ := hVs 19 (by decide) (by decide)
            have hv20 : vals 20 = _ := hVs 20 (by decide) (by decide)
            have hv21 : vals 21 = _ := hVs 21 (by decide) (by decide)
            rw [show (List.filterMap (fun i => Option.map (fun t => (t, vals i)) (dstAt _ i)) (List.range _)) = [(37, .int .u64 ((dg : Nat) : Int)), (38, .bool false), (39, .bool false), (40, .int .u64 ((dg : Nat) : Int)), (41, .slice Ab n cb), (42, .int .i64 ((n : Nat) : Int)), (43, .int .i64 ((n - 2 : Nat) : Int)), (44, .pointer (some ((adOf Ab).add (n - 2)))), (45, .int .u32 ((xb.getD (n - 2) 0 : Nat) : Int)), (46, .int .u64 ((xb.getD (n - 2) 0 : Nat) : Int)), (47, .int .u64 ((dg * (xb.getD (n - 2) 0) : Nat) : Int)), (48, .int .u64 ((left : Nat) : Int)), (49, .int .u64 ((left * 4294967296 : Nat) : Int)), (50, .slice (Ar.map (·.add o)) (n + 1) cw), (51, .int .i64 ((n : Nat) : Int)), (52, .int .i64 ((n - 2 : Nat) : Int)), (53, .pointer (some ((adOf Ar).add (o + (n - 2))))), (54, .int .u32 ((xr.getD (o + (n - 2)) 0 : Nat) : Int)), (55, .int .u64 ((xr.getD (o + (n - 2)) 0 : Nat) : Int)), (56, .int .u64 ((xr.getD (o + (n - 2)) 0 + 4294967296 * left : Nat) : Int)), (57, .bool (decide (((xr.getD (o + (n - 2)) 0 + 4294967296 * left : Nat) : Int) < ((dg * (xb.getD (n - 2) 0) : Nat) : Int)))), (58, .bool (decide (((xr.getD (o + (n - 2)) 0 + 4294967296 * left : Nat) : Int) < ((dg * (xb.getD (n - 2) 0) : Nat) : Int))))] from by
              show [(37, vals 0), (38, vals 1), (39, vals 2), (40, vals 3), (41, vals 4), (42, vals 5), (43, vals 6), (44, vals 7), (45, vals 8), (46, vals 9), (47, vals 10), (48, vals 11), (49, vals 12), (50, vals 13), (51, vals 14), (52, vals 15), (53, vals 16), (54, vals 17), (55, vals 18), (56, vals 19), (57, vals 20), (58, vals 21)] = _
              rw [hv0, hv1, hv2, hv3, hv4, hv5, hv6, hv7, hv8, hv9, hv10, hv11, hv12, hv13, hv14, hv15, hv16, hv17, hv18, hv19, hv20, hv21]]
            refine W.cond2 rfl (fun c59 => ?_) (fun c59 => ?_)
            · have c59 := of_decide_eq_true c59
              refine W.skip ?_
              refine W.block ?_
              refine W.seq ?_
              refine W.region ?_
              refine WL.move rfl rfl ?_
              have hql : q < dg := by first | omega | exact est_low hD hW hW2 hqW hinv (by omega)
              refine WL.sub (r := ((dg - 1 : Nat) : Int)) rfl rfl (wu64 (by omega) (by omega) (by omega)) rfl ?_
              refine WL.assign rfl rfl ?_
              refine WL.done ?_
              refine W.seq ?_
              refine W.region ?_
              refine WL.move rfl rfl ?_
              refine WL.move rfl rfl ?_
              refine WL.add (r := ((left + (xb.getD (n - 1) 0) : Nat) : Int)) rfl rfl (wu64 (by omega) (by omega) (by omega)) rfl ?_
              refine WL.assign rfl rfl ?_
              refine WL.done ?_
              refine W.seq ?_
              refine W.region ?_
              refine WL.move rfl rfl ?_
              refine WL.gtr rfl rfl rfl (fun c60 => ?_) (fun c60 => ?_)
              · refine WL.done ?_
                refine W.condT rfl ?_
                refine W.exit ?_
                refine W.seq ?_
                refine W.region ?_
                refine WL.move rfl rfl ?_
                have hst := est_stop (dg := dg - 1) (left := left + xb.getD (n - 1) 0) hD hW hD2 hl2 hWD (by rw [dec_mul (by omega)]; exact hinv) (by omega)
                refine WL.conv (r := ((dg - 1 : Nat) : Int)) Try.underlying72 Try.underlying43 rfl (wu32n hst.1) rfl ?_
                refine WL.assign rfl rfl ?_
                refine WL.done ?_
                refine W.ret ?_
                refine ⟨_, rfl, ?_⟩
                first
                | exact ⟨_, rfl, hB, hst.1, by rw [← hq]; omega, est_high hD hW hD2 hVv (by rw [dec_mul (by omega)]; exact hinv) hst.1 hst.2⟩
                | exact ⟨_, rfl, hB, by omega, by rw [← hq]; exact hqd, est_high hD hW hD2 hVv hinv (by omega) (by omega)⟩
              · refine WL.done ?_
                refine W.condF rfl ?_
                refine W.skip ?_
                refine ⟨(dg - 1, left + xb.getD (n - 1) 0), ⟨rfl, rfl, iv (by omega), iv (by omega), iv (by omega), iv (by omega), trivial⟩, by (dsimp only; omega), ?_⟩
                exact ⟨hB, by rw [dec_mul (by omega)]; exact hinv, by omega, by omega, by omega⟩
            · have c59 := of_decide_eq_false c59
              refine W.exit ?_
              refine W.seq ?_
              refine W.region ?_
              refine WL.move rfl rfl ?_
              refine WL.conv (r := ((dg : Nat) : Int)) Try.underlying72 Try.underlying43 rfl (wu32n (by omega)) rfl ?_
              refine WL.assign rfl rfl ?_
              refine WL.done ?_
              refine W.ret ?_
              refine ⟨_, rfl, ?_⟩
              first
              | exact ⟨_, rfl, hB, hst.1, by rw [← hq]; omega, est_high hD hW hD2 hVv (by rw [dec_mul (by omega)]; exact hinv) hst.1 hst.2⟩
              | exact ⟨_, rfl, hB, by omega, by rw [← hq]; exact hqd, est_high hD hW hD2 hVv hinv (by omega) (by omega)⟩
        · refine W.draw [⟨[], [8], true⟩, ⟨[0], [], true⟩, ⟨[1], [], true⟩, ⟨[2], [8], true⟩, ⟨[2], [1], true⟩, ⟨[2], [5], true⟩, ⟨[5, 2], [], true⟩, ⟨[4, 6, 2], [], true⟩, ⟨[7, 2], [], false⟩, ⟨[8, 2], [], true⟩, ⟨[3, 9, 2], [], true⟩, ⟨[2], [9], true⟩, ⟨[11, 2], [], true⟩, ⟨[2], [0], true⟩, ⟨[2], [5], true⟩, ⟨[14, 2], [], true⟩, ⟨[13, 15, 2], [], true⟩, ⟨[16, 2], [], false⟩, ⟨[17, 2], [], true⟩, ⟨[12, 18, 2], [], true⟩, ⟨[10, 19, 2], [], true⟩, ⟨[2, 20], [], true⟩] [[(8, .int .u64 ((dg : Nat) : Int))], [], [], [(8, .int .u64 ((dg : Nat) : Int))], [(1, .slice Ab n cb)], [(5, .int .i64 ((n : Nat) : Int))], [], [], [], [], [], [(9, .int .u64 ((left : Nat) : Int))], [], [(0, .slice (Ar.map (·.add o)) (n + 1) cw)], [(5, .int .i64 ((n : Nat) : Int))], [], [], [], [], [], [], []] (fun iQ => [fun v _ => v = .int .u64 ((dg : Nat) : Int), fun v _ => v = .bool true, fun v _ => v = .bool true, fun v _ => v = undef, fun v _ => v = undef, fun v _ => v = undef, fun v _ => v = undef, fun v _ => v = undef, fun v _ => v = undef, fun v _ => v = undef, fun v _ => v = undef, fun v _ => v = undef, fun v _ => v = undef, fun v _ => v = undef, fun v _ => v = undef, fun v _ => v = undef, fun v _ => v = undef, fun v _ => v = undef, fun v _ => v = undef, fun v _ => v = undef, fun v _ => v = undef, fun v _ => v = .bool true].getD iQ (fun _ _ => True)) (fun _ => True) 22 Try.mixed (by kernel_rfl) ?_ ?_ ?_
          · refine Vs_mono _ ?_
            intro VQ hVQ vQ wQ1 wQ2 hQ1 hQ2
            simp only [List.mem_cons, List.not_mem_nil, or_false] at hVQ
            rcases hVQ with rfl | rfl | rfl | rfl | rfl | rfl | rfl | rfl | rfl | rfl | rfl | rfl | rfl | rfl | rfl | rfl | rfl | rfl | rfl | rfl | rfl | rfl <;> exact hQ1
          · refine ⟨⟨rfl, ⟨rfl, trivial⟩, ?_⟩, ⟨rfl, trivial, ?_⟩, ⟨rfl, trivial, ?_⟩, ⟨rfl, ⟨rfl, trivial⟩, ?_⟩, ⟨rfl, ⟨rfl, trivial⟩, ?_⟩, ⟨rfl, ⟨rfl, trivial⟩, ?_⟩, ⟨rfl, trivial, ?_⟩, ⟨rfl, trivial, ?_⟩, ⟨rfl, trivial, ?_⟩, ⟨rfl, trivial, ?_⟩, ⟨rfl, trivial, ?_⟩, ⟨rfl, ⟨rfl, trivial⟩, ?_⟩, ⟨rfl, trivial, ?_⟩, ⟨rfl, ⟨rfl, trivial⟩, ?_⟩, ⟨rfl, ⟨rfl, trivial⟩, ?_⟩, ⟨rfl, trivial, ?_⟩, ⟨rfl, trivial, ?_⟩, ⟨rfl, trivial, ?_⟩, ⟨rfl, trivial, ?_⟩, ⟨rfl, trivial, ?_⟩, ⟨rfl, trivial, ?_⟩, ⟨rfl, trivial, ?_⟩, trivial⟩
            · intro w61 hE
              intro R
              refine WL.move rfl rfl ?_
              exact WL.done ⟨_, rfl, rfl, rfl⟩
            · intro w62 hE
              rintro _ rfl
              intro R
              refine WL.gtrD rfl rfl rfl ?_
              exact WL.done ⟨_, rfl, rfl, (show Value.bool (decide ((4294967295 : Int) < ((dg : Nat) : Int))) = Value.bool true from congrArg Value.bool (decide_eq_true (by omega)))⟩
            · intro w63 hE
              rintro _ rfl
              intro R
              refine WL.move rfl rfl ?_
              exact WL.done ⟨_, rfl, rfl, rfl⟩
            · intro w64 hE
              rintro _ rfl
              intro R
              refine WL.pass rfl rfl rfl ?_
              exact WL.done ⟨_, rfl, rfl, rfl⟩
            · intro w65 hE
              rintro _ rfl
              intro R
              refine WL.pass rfl rfl rfl ?_
              exact WL.done ⟨_, rfl, rfl, rfl⟩
            · intro w66 hE
              rintro _ rfl
              intro R
              refine WL.pass rfl rfl rfl ?_
              exact WL.done ⟨_, rfl, rfl, rfl⟩
            · intro w67 hE
              rintro _ rfl
              rintro _ rfl
              intro R
              refine WL.pass rfl rfl rfl ?_
              exact WL.done ⟨_, rfl, rfl, rfl⟩
            · intro w68 hE
              rintro _ rfl
              rintro _ rfl
              rintro _ rfl
              intro R
              refine WL.pass rfl rfl rfl ?_
              exact WL.done ⟨_, rfl, rfl, rfl⟩
            · intro w69 hE
              have hE := hE rfl
              have hB := ext_trans hB hE
              rintro _ rfl
              rintro _ rfl
              intro R
              refine WL.pass rfl rfl rfl ?_
              exact WL.done ⟨_, rfl, ext_refl _, rfl⟩
            · intro w70 hE
              rintro _ rfl
              rintro _ rfl
              intro R
              refine WL.pass rfl rfl rfl ?_
              exact WL.done ⟨_, rfl, rfl, rfl⟩
            · intro w71 hE
              rintro _ rfl
              rintro _ rfl
              rintro _ rfl
              intro R
              refine WL.pass rfl rfl rfl ?_
              exact WL.done ⟨_, rfl, rfl, rfl⟩
            · intro w72 hE
              rintro _ rfl
              intro R
              refine WL.pass rfl rfl rfl ?_
              exact WL.done ⟨_, rfl, rfl, rfl⟩
            · intro w73 hE
              rintro _ rfl
              rintro _ rfl
              intro R
              refine WL.pass rfl rfl rfl ?_
              exact WL.done ⟨_, rfl, rfl, rfl⟩
            · intro w74 hE
              rintro _ rfl
              intro R
              refine WL.pass rfl rfl rfl ?_
              exact WL.done ⟨_, rfl, rfl, rfl⟩
            · intro w75 hE
              rintro _ rfl
              intro R
              refine WL.pass rfl rfl rfl ?_
              exact WL.done ⟨_, rfl, rfl, rfl⟩
            · intro w76 hE
              rintro _ rfl
              rintro _ rfl
              intro R
              refine WL.pass rfl rfl rfl ?_
              exact WL.done ⟨_, rfl, rfl, rfl⟩
            · intro w77 hE
              rintro _ rfl
              rintro _ rfl
              rintro _ rfl
              intro R
              refine WL.pass rfl rfl rfl ?_
              exact WL.done ⟨_, rfl, rfl, rfl⟩
            · intro w78 hE
              have hE := hE rfl
              have hB := ext_trans hB hE
              rintro _ rfl
              rintro _ rfl
              intro R
              refine WL.pass rfl rfl rfl ?_
              exact WL.done ⟨_, rfl, ext_refl _, rfl⟩
            · intro w79 hE
              rintro _ rfl
              rintro _ rfl
              intro R
              refine WL.pass rfl rfl rfl ?_
              exact WL.done ⟨_, rfl, rfl, rfl⟩
            · intro w80 hE
              rintro _ rfl
              rintro _ rfl
              rintro _ rfl
              intro R
              refine WL.pass rfl rfl rfl ?_
              exact WL.done ⟨_, rfl, rfl, rfl⟩
            · intro w81 hE
              rintro _ rfl
              rintro _ rfl
              rintro _ rfl
              intro R
              refine WL.pass rfl rfl rfl ?_
              exact WL.done ⟨_, rfl, rfl, rfl⟩
            · intro w82 hE
              rintro _ rfl
              rintro _ rfl
              intro R
              refine WL.pick rfl rfl rfl ?_
              exact WL.done ⟨_, rfl, rfl, rfl⟩
          · intro vals w83 hT hVs
            rw [if_neg (by decide)] at hT
            have hB := ext_trans hB hT
            have hv0 : vals 0 = _ := hVs 0 (by decide) (by decide)
            have hv1 : vals 1 = _ := hVs 1 (by decide) (by decide)
            have hv2 : vals 2 = _ := hVs 2 (by decide) (by decide)
            have hv3 : vals 3 = _ := hVs 3 (by decide) (by decide)
            have hv4 : vals 4 = _ := hVs 4 (by decide) (by decide)
            have hv5 : vals 5 = _ := hVs 5 (by decide) (by decide)
            have hv6 : vals 6 = _ := hVs 6 (by decide) (by decide)
            have hv7 : vals 7 = _ := hVs 7 (by decide) (by decide)
            have hv8 : vals 8 = _ := hVs 8 (by decide) (by decide)
            have hv9 : vals 9 = _ := hVs 9 (by decide) (by decide)
            have hv10 : vals 10 = _ := hVs 10 (by decide) (by decide)
            have hv11 : vals 11 = _ := hVs 11 (by decide) (by decide)
            have hv12 : vals 12 = _ := hVs 12 (by decide) (by decide)
            have hv13 : vals 13 = _ := hVs 13 (by decide) (by decide)
            have hv14 : vals 14 = _ := hVs 14 (by decide) (by decide)
            have hv15 : vals 15 = _ := hVs 15 (by decide) (by decide)
            have hv16 : vals 16 = _ := hVs 16 (by decide) (by decide)
            have hv17 : vals 17 = _ := hVs 17 (by decide) (by decide)
            have hv18 : vals 18 = _ := hVs 18 (by decide) (by decide)
            have hv19 : vals 19 = _ := hVs 19 (by decide) (by decide)
            have hv20 : vals 20 = _ := hVs 20 (by decide) (by decide)
            have hv21 : vals 21 = _ := hVs 21 (by decide) (by decide)
            rw [show (List.filterMap (fun i => Option.map (fun t => (t, vals i)) (dstAt _ i)) (List.range _)) = [(37, .int .u64 ((dg : Nat) : Int)), (38, .bool true), (39, .bool true), (40, undef), (41, undef), (42, undef), (43, undef), (44, undef), (45, undef), (46, undef), (47, undef), (48, undef), (49, undef), (50, undef), (51, undef), (52, undef), (53, undef), (54, undef), (55, undef), (56, undef), (57, undef), (58, .bool true)] from by
              show [(37, vals 0), (38, vals 1), (39, vals 2), (40, vals 3), (41, vals 4), (42, vals 5), (43, vals 6), (44, vals 7), (45, vals 8), (46, vals 9), (47, vals 10), (48, vals 11), (49, vals 12), (50, vals 13), (51, vals 14), (52, vals 15), (53, vals 16), (54, vals 17), (55, vals 18), (56, vals 19), (57, vals 20), (58, vals 21)] = _
              rw [hv0, hv1, hv2, hv3, hv4, hv5, hv6, hv7, hv8, hv9, hv10, hv11, hv12, hv13, hv14, hv15, hv16, hv17, hv18, hv19, hv20, hv21]]
            refine W.condT rfl ?_
            refine W.skip ?_
            refine W.block ?_
            refine W.seq ?_
            refine W.region ?_
            refine WL.move rfl rfl ?_
            have hql : q < dg := by first | omega | exact est_low hD hW hW2 hqW hinv (by omega)
            refine WL.sub (r := ((dg - 1 : Nat) : Int)) rfl rfl (wu64 (by omega) (by omega) (by omega)) rfl ?_
            refine WL.assign rfl rfl ?_
            refine WL.done ?_
            refine W.seq ?_
            refine W.region ?_
            refine WL.move rfl rfl ?_
            refine WL.move rfl rfl ?_
            refine WL.add (r := ((left + (xb.getD (n - 1) 0) : Nat) : Int)) rfl rfl (wu64 (by omega) (by omega) (by omega)) rfl ?_
            refine WL.assign rfl rfl ?_
            refine WL.done ?_
            refine W.seq ?_
            refine W.region ?_
            refine WL.move rfl rfl ?_
            refine WL.gtr rfl rfl rfl (fun c84 => ?_) (fun c84 => ?_)
            · refine WL.done ?_
              refine W.condT rfl ?_
              refine W.exit ?_
              refine W.seq ?_
              refine W.region ?_
              refine WL.move rfl rfl ?_
              have hst := est_stop (dg := dg - 1) (left := left + xb.getD (n - 1) 0) hD hW hD2 hl2 hWD (by rw [dec_mul (by omega)]; exact hinv) (by omega)
              refine WL.conv (r := ((dg - 1 : Nat) : Int)) Try.underlying72 Try.underlying43 rfl (wu32n hst.1) rfl ?_
              refine WL.assign rfl rfl ?_
              refine WL.done ?_
              refine W.ret ?_
              refine ⟨_, rfl, ?_⟩
              first
              | exact ⟨_, rfl, hB, hst.1, by rw [← hq]; omega, est_high hD hW hD2 hVv (by rw [dec_mul (by omega)]; exact hinv) hst.1 hst.2⟩
              | exact ⟨_, rfl, hB, by omega, by rw [← hq]; exact hqd, est_high hD hW hD2 hVv hinv (by omega) (by omega)⟩
            · refine WL.done ?_
              refine W.condF rfl ?_
              refine W.skip ?_
              refine ⟨(dg - 1, left + xb.getD (n - 1) 0), ⟨rfl, rfl, iv (by omega), iv (by omega), iv (by omega), iv (by omega), trivial⟩, by (dsimp only; omega), ?_⟩
              exact ⟨hB, by rw [dec_mul (by omega)]; exact hinv, by omega, by omega, by omega⟩
end Go.Proofs.Ythfpcebcfjlkmab
namespace Go.Proofs.Ythfpcebcfjlkmab
open Go.RowKit
theorem getD_zero {l : List Nat} {k t : Nat} (h : nv l < 4294967296 ^ k) (ht : k ≤ t) : l.getD t 0 = 0 := by
  rcases Nat.eq_zero_or_pos (l.getD t 0) with h0 | h0
  · exact h0
  · exfalso
    have h1 := nv_split l t
    have h2 := nv_drop l t
    have h3 : 4294967296 ^ k ≤ 4294967296 ^ t := Nat.pow_le_pow_right (by decide) ht
    have h4 : 4294967296 ^ t * 1 ≤ 4294967296 ^ t * nv (l.drop t) := Nat.mul_le_mul_left _ (by omega)
    omega
theorem nv_take_zero {l : List Nat} {k : Nat} (h : ∀ t, k ≤ t → l.getD t 0 = 0) : nv (l.take k) = nv l := by
  have h1 := trimL_zeros l k h
  have h2 := nv_trimL l
  have h3 := nv_trimL (l.take k)
  rw [← h1] at h3
  omega
theorem nv_take_lt {l : List Nat} {k : Nat} (h : nv l < 4294967296 ^ k) : nv (l.take k) = nv l := nv_take_zero fun _ ht => getD_zero h ht
theorem nv_lt_zero {l : List Nat} (hL : Lim l) {k : Nat} (h : ∀ t, k ≤ t → l.getD t 0 = 0) : nv l < 4294967296 ^ k := by
  rw [← nv_take_zero h]; exact hL.take_lt k
/-- What a window reads. -/
theorem win_val {l : List Nat} {o k : Nat} (h : nv l < 4294967296 ^ (o + k)) : nv l = nv (l.take o) + 4294967296 ^ o * nv ((l.drop o).take k) := by
  have h1 := nv_split l o
  have h2 : nv (l.drop o) < 4294967296 ^ k := by
    rcases Nat.lt_or_ge (nv (l.drop o)) (4294967296 ^ k) with h3 | h3
    · exact h3
    · exfalso
      have h4 := Nat.mul_le_mul_left (4294967296 ^ o) h3
      rw [← Nat.pow_add] at h4
      omega
  rw [nv_take_lt h2]
  exact h1
theorem own_ne {b e m c : Nat} {w : World} {A A2 : Option Addr} {cs : List Value} (h : Own b w e 1 A m c cs) (hm : 0 < m) (h2 : ∀ g, bl A2 = some g → g < b) : bl A ≠ bl A2 := by
  intro he
  rcases h.form with ⟨_, h0, _⟩ | ⟨g, rfl, h3, _⟩
  · omega
  · have := h2 g he.symm; omega
/-- The divisor, shifted. -/
theorem norm_div {xb yd : List Nat} {n u : Nat} (hLb : Lim xb) (hLy : Lim yd) (hn : 0 < n) (hl : xb.length = n) (hl2 : yd.length = n + 1) (ht : xb.getD (n - 1) 0 ≠ 0) (hu : u = 32 - bitn (xb.getD (n - 1) 0)) (hv : nv yd = nv xb * 2 ^ u) :
    nv (yd.take n) = nv xb * 2 ^ u ∧ 2147483648 ≤ (yd.take n).getD (n - 1) 0 ∧ u ≤ 31 := by
  have hb := bitn_32 (hLb.getD (n - 1))
  have hb1 : 0 < bitn (xb.getD (n - 1) 0) := bitn_lt.2 (by omega)
  have hs : sigL xb = n := by
    rcases Nat.lt_or_ge (n - 1) (sigL xb) with h | h
    · have := sigL_le xb; omega
    · exact absurd (sigL_zero h) ht
  have hbn := bitn_nv hLb (by omega)
  rw [hs] at hbn
  have h1 : nv xb < 2 ^ bitn (nv xb) := bitn_le.1 (Nat.le_refl _)
  have h2 : 2 ^ (bitn (nv xb) - 1) ≤ nv xb := bitn_lt.1 (by omega)
  have h3 : nv yd < 4294967296 ^ n := by
    rw [hv, pow32, show 32 * n = bitn (nv xb) + u by omega, Nat.pow_add]
    exact (Nat.mul_lt_mul_right (Nat.pow_pos (by decide))).2 h1
  have h4 : 2 ^ (32 * n - 1) ≤ nv yd := by
    rw [hv, show 32 * n - 1 = bitn (nv xb) - 1 + u by omega, Nat.pow_add]
    exact Nat.mul_le_mul_right _ h2
  have h5 := nv_take_lt h3
  refine ⟨by rw [h5, hv], ?_, by omega⟩
  rcases Nat.lt_or_ge ((yd.take n).getD (n - 1) 0) 2147483648 with h6 | h6
  · exfalso
    have hLt := hLy.take n
    have h7 := nv_take_succ (yd.take n) (n - 1)
    rw [show n - 1 + 1 = n by omega, nv_take_all (l := yd.take n) (by rw [List.length_take]; omega)] at h7
    have h8 := hLt.take_lt (n - 1)
    have h9 : 4294967296 ^ (n - 1) * ((yd.take n).getD (n - 1) 0 + 1) ≤ 4294967296 ^ (n - 1) * 2 ^ 31 := Nat.mul_le_mul_left _ (by omega)
    have h10 : 4294967296 ^ (n - 1) * 2 ^ 31 = 2 ^ (32 * n - 1) := by rw [pow32, ← Nat.pow_add]; congr 1; omega
    rw [Nat.mul_add, h10] at h9
    omega
  · exact h6
/-- One digit of the quotient, and what is left. -/
theorem ld_step {N Q Z Z' D o dg : Nat} (heq : N = Q * (4294967296 ^ (o + 1) * D) + Z) (hz : Z' + 4294967296 ^ o * (dg * D) = Z) : N = (dg + 4294967296 * Q) * (4294967296 ^ o * D) + Z' := by
  rw [heq, ← hz, Nat.add_mul, Nat.pow_succ]
  have e1 : Q * (4294967296 ^ o * 4294967296 * D) = 4294967296 * Q * (4294967296 ^ o * D) := by ac_rfl
  have e2 : 4294967296 ^ o * (dg * D) = dg * (4294967296 ^ o * D) := by ac_rfl
  omega
theorem ld_less {Z Z' D o lw W q : Nat} (hD : 0 < D) (hZ : Z = lw + 4294967296 ^ o * W) (hlw : lw < 4294967296 ^ o) (hq : q = W / D) (hz : Z' + 4294967296 ^ o * (q * D) = Z) : Z' < 4294967296 ^ o * D := by
  have h1 := Nat.div_add_mod W D
  have h2 := Nat.mod_lt W hD
  rw [← hq, Nat.mul_comm] at h1
  have h3 : 4294967296 ^ o * W = 4294967296 ^ o * (q * D) + 4294967296 ^ o * (W % D) := by rw [← Nat.mul_add, h1]
  have h4 : 4294967296 ^ o * (W % D + 1) ≤ 4294967296 ^ o * D := Nat.mul_le_mul_left _ h2
  rw [Nat.mul_add] at h4
  omega
theorem ld_none {Z ys D o lw W q dg M : Nat} (hD : 0 < D) (hZ : Z = lw + 4294967296 ^ o * W) (hlw : lw < 4294967296 ^ o) (hq : q = W / D) (hdg : dg = q ∨ dg = q + 1) (h : ys + 4294967296 ^ o * (dg * D) = Z + M * 0) : dg = q := by
  rcases hdg with h1 | h1
  · exact h1
  · exfalso
    subst h1
    have h2 := Nat.mod_lt W hD
    have h3 := Nat.div_add_mod W D
    rw [← hq, Nat.mul_comm] at h3
    have h4 : 4294967296 ^ o * (W + 1) ≤ 4294967296 ^ o * ((q + 1) * D) := Nat.mul_le_mul_left _ (by rw [Nat.add_mul]; omega)
    rw [Nat.mul_add] at h4
    omega
theorem ld_over {Z ys D o lw W q dg M : Nat} (hZ : Z = lw + 4294967296 ^ o * W) (hq : q = W / D) (hdg : dg = q ∨ dg = q + 1) (hy : ys < M) (h : ys + 4294967296 ^ o * (dg * D) = Z + M * 1) : dg = q + 1 := by
  rcases hdg with h1 | h1
  · exfalso
    subst h1
    have h2 : dg * D ≤ W := by rw [hq]; exact Nat.div_mul_le_self _ _
    have h3 := Nat.mul_le_mul_left (4294967296 ^ o) h2
    omega
  · exact h1
theorem ld_back {Z ys ys2 D o lw W q dg M e : Nat} (hZ : Z = lw + 4294967296 ^ o * W) (hq : q = W / D) (hdg : dg = q + 1) (hy2 : ys2 < M) (he : e ≤ 1) (h : ys + 4294967296 ^ o * (dg * D) = Z + M * 1) (h2 : ys2 + M * e = ys + 4294967296 ^ o * D) :
    ys2 + 4294967296 ^ o * (q * D) = Z := by
  subst hdg
  rw [Nat.add_mul, Nat.one_mul, Nat.mul_add] at h
  have h3 : q * D ≤ W := by rw [hq]; exact Nat.div_mul_le_self _ _
  have h4 := Nat.mul_le_mul_left (4294967296 ^ o) h3
  rcases (by omega : e = 0 ∨ e = 1) with rfl | rfl
  · exfalso; omega
  · omega
theorem ld_end {a b q Z u : Nat} (h : a * 2 ^ u = q * (b * 2 ^ u) + Z) (hZ : Z < b * 2 ^ u) : q = a / b ∧ Z / 2 ^ u = a % b := by
  have hp : 0 < 2 ^ u := Nat.pow_pos (by decide)
  have hb : 0 < b := by
    rcases Nat.eq_zero_or_pos b with h0 | h0
    · subst h0; omega
    · exact h0
  rw [← Nat.mul_assoc] at h
  have h1 : Z = (a - q * b) * 2 ^ u := by rw [Nat.sub_mul]; omega
  have h2 : q * b ≤ a := by
    rcases Nat.lt_or_ge a (q * b) with h3 | h3
    · have := (Nat.mul_lt_mul_right hp).2 h3; omega
    · exact h3
  have h3 : a - q * b < b := by
    rw [h1] at hZ
    exact (Nat.mul_lt_mul_right hp).1 hZ
  obtain ⟨e1, e2⟩ := div_end (a := a) (q := q) (d := b) (r := a - q * b) (by omega) h3
  exact ⟨e1, by rw [h1, Nat.mul_div_cancel _ hp, e2]⟩
theorem ld_init {xa xd : List Nat} {m n u : Nat} (hLa : Lim xa) (hla : xa.length = m) (hld : xd.length = n) (hn : 0 < n) (hmn : n ≤ m) (hu : u ≤ 31) (hv : 2147483648 ≤ xd.getD (n - 1) 0) : nv xa * 2 ^ u < 4294967296 ^ (m - n + 1) * nv xd := by
  have h1 := nv_lt hLa
  rw [hla] at h1
  have h2 := nv_take_succ xd (n - 1)
  rw [show n - 1 + 1 = n by omega, nv_take_all (l := xd) (by omega)] at h2
  have h3 : 4294967296 ^ (n - 1) * 2147483648 ≤ nv xd := by
    have := Nat.mul_le_mul_left (4294967296 ^ (n - 1)) hv
    omega
  have h4 := Nat.mul_le_mul_left (4294967296 ^ (m - n + 1)) h3
  rw [← Nat.mul_assoc, ← Nat.pow_add, show m - n + 1 + (n - 1) = m by omega] at h4
  have h5 : 2 ^ u ≤ 2147483648 := Nat.pow_le_pow_right (n := 2) (by decide) hu
  have h6 : nv xa * 2 ^ u ≤ nv xa * 2147483648 := Nat.mul_le_mul_left _ h5
  have h7 : nv xa * 2147483648 < 4294967296 ^ m * 2147483648 := (Nat.mul_lt_mul_right (by decide)).2 h1
  omega
theorem ld_room {Z D j n : Nat} (hj : 0 < j) (hZ : Z < 4294967296 ^ j * D) (hD : D < 4294967296 ^ n) : Z < 4294967296 ^ (j - 1 + (n + 1)) := by
  have h1 : 4294967296 ^ j * D ≤ 4294967296 ^ j * 4294967296 ^ n := Nat.mul_le_mul_left _ (by omega)
  rw [← Nat.pow_add, show j + n = j - 1 + (n + 1) by omega] at h1
  omega
theorem ld_win {Z D j lw W : Nat} (hj : 0 < j) (hZ : Z < 4294967296 ^ j * D) (h : Z = lw + 4294967296 ^ (j - 1) * W) : W < 4294967296 * D := by
  rw [show j = (j - 1) + 1 by omega, Nat.pow_succ, Nat.mul_assoc] at hZ
  exact Nat.lt_of_mul_lt_mul_left (a := 4294967296 ^ (j - 1)) (by omega)
end Go.Proofs.Ythfpcebcfjlkmab
set_option linter.unusedSimpArgs false
set_option linter.unusedVariables false
namespace Go.Proofs.Ythfpcebcfjlkmab
open Go.RowKit
theorem longDivide_c {w : World} {Ba : Nat} {Aa : Option Addr} {ma ca : Nat} {xa : List Nat} (ha : Rd Ba w 1 Aa ma ca (us xa)) {Bb : Nat} {Ab : Option Addr} {mb cb : Nat} {xb : List Nat} (hb : Rd Bb w 1 Ab mb cb (us xb)) (hLa : Lim xa) (hLb : Lim xb) (hn2 : 2 ≤ mb) (hmab : mb ≤ ma) (htop : xb.getD (mb - 1) 0 ≠ 0) (hsz : ma ≤ 1073741824) :
    Calls Try.prog 99 #[.slice Aa ma ca, .slice Ab mb cb] w fun e w2 => ∃ v, e = .returned v ∧ (fun v w2 => ∃ A2 m2 c2 A3 m3 c3, v = .tuple #[.slice A2 m2 c2, .slice A3 m3 c3] ∧ w.grownBy w2 none ∧ Own w.heap.size w2 43 1 A2 m2 c2 (us (digs (nv xa / nv xb))) ∧ Own w.heap.size w2 43 1 A3 m3 c3 (us (digs (nv xa % nv xb))) ∧ m2 ≤ ma ∧ m3 ≤ ma + 1) v w2 := by
  have ha := ha.norm
  have ha_l := ha.ulen
  have ha_x := ha.max
  simp only [maxLen] at ha_x
  have ha_c := ha.cap
  have hb := hb.norm
  have hb_l := hb.ulen
  have hb_x := hb.max
  simp only [maxLen] at hb_x
  have hb_c := hb.cap
  have ha0 := ha
  have hb0 := hb
  obtain ⟨u, hu⟩ : ∃ u, u = 32 - bitn (xb.getD (mb - 1) 0) := ⟨_, rfl⟩
  have hxt := hLb.getD (mb - 1)
  have hu31 : u ≤ 31 := by have : 0 < bitn (xb.getD (mb - 1) 0) := bitn_lt.2 (by omega); omega
  have hB := ext_refl w
  refine calls_of_W (vs := [.slice Aa ma ca, .slice Ab mb cb]) [4, 5] Try.func99 rfl rfl rfl rfl ?_
  refine W.seq ?_
  refine W.region ?_
  refine WL.assign rfl rfl ?_
  refine WL.assign rfl rfl ?_
  refine WL.done ?_
  refine W.seq ?_
  refine W.region ?_
  refine WL.move rfl rfl ?_
  refine WL.move rfl rfl ?_
  refine WL.len Try.underlying23 rfl rfl ?_
  refine WL.sub (r := ((mb - 1 : Nat) : Int)) rfl rfl (wi64 (by omega) (by omega) (by omega)) rfl ?_
  refine WL.index1 (mb - 1) Try.underlying23 Try.el43 rfl rfl (by omega) (by omega) hb rfl ?_
  refine WL.load Try.underlying43 rfl rfl (Rd.at_ hb (us_at (by omega))) rfl ?_
  refine WL.call Try.func103 rfl Try.nm103 rfl rfl (LZ_c (xb.getD (mb - 1) 0) (by omega) (by omega)) ?_
  rintro _ w11 ⟨rfl, hGw11⟩
  have hB := ext_trans hB hGw11
  have ha := ha0.ext hB
  have hb := hb0.ext hB
  rw [← hu]
  refine WL.assign rfl rfl ?_
  refine WL.done ?_
  refine W.seq ?_
  refine W.region ?_
  refine WL.move rfl rfl ?_
  refine WL.move rfl rfl ?_
  refine WL.call Try.func104 rfl Try.nm104 rfl rfl (shl_c hb hLb u (by omega) (by omega) (by omega)) ?_
  rintro _ w12 ⟨Ay, my, cy, yd, rfl, hGw12, hy, hLyd, hmy, hvy⟩
  have hy := hy.low (b' := w.heap.size) hB.size
  have hB := ext_trans hB hGw12
  have ha := ha0.ext hB
  have hy_l := hy.rd.ulen
  refine WL.move rfl rfl ?_
  refine WL.len Try.underlying23 rfl rfl ?_
  have hy_c := hy.rd.cap
  refine WL.slTo (mb) Try.underlying23 Try.el43 rfl rfl (by omega) (by omega) rfl ?_
  have hd := hy.rd.take (k := mb) (by omega)
  rw [us_take] at hd
  refine WL.assign rfl rfl ?_
  refine WL.done ?_
  refine W.seq ?_
  refine W.region ?_
  refine WL.move rfl rfl ?_
  refine WL.move rfl rfl ?_
  obtain ⟨Bd, hBd⟩ : ∃ B, B = w12.heap.size := ⟨_, rfl⟩
  have hwB : w.heap.size ≤ Bd := by rw [hBd]; exact hB.size
  rw [← hBd] at hd
  obtain ⟨xd, hxd⟩ : ∃ x, x = yd.take mb := ⟨_, rfl⟩
  have hnd := norm_div hLb hLyd (by omega) hb_l (by omega) htop hu hvy
  rw [← hxd] at hd hnd
  obtain ⟨hvd, hV, hu31⟩ := hnd
  have hLd : Lim xd := by rw [hxd]; exact hLyd.take mb
  have hdl := hd.ulen
  refine WL.call Try.func104 rfl Try.nm104 rfl rfl (shl_c ha hLa u (by omega) (by omega) (by omega)) ?_
  rintro _ w13 ⟨Ar, mr, cr, zr, rfl, hGw13, hr, hLzr, hmr, hvr⟩
  have hB := ext_trans hB hGw13
  have hd := hd.ext hGw13
  have hr_l := hr.rd.ulen
  rw [← hBd] at hr
  have hrow : ∀ g, bl Ar = some g → Bd ≤ g := fun g hg => (hr.bl_ge g hg).1
  have hr := hr.low hwB
  refine WL.assign rfl rfl ?_
  refine WL.done ?_
  refine W.seq ?_
  refine W.region ?_
  refine WL.move rfl rfl ?_
  refine WL.len Try.underlying23 rfl rfl ?_
  refine WL.move rfl rfl ?_
  refine WL.len Try.underlying23 rfl rfl ?_
  refine WL.sub (r := ((ma - mb : Nat) : Int)) rfl rfl (wi64 (by omega) (by omega) (by omega)) rfl ?_
  refine WL.add (r := (((ma - mb) + 1 : Nat) : Int)) rfl rfl (wi64 (by omega) (by omega) (by omega)) rfl ?_
  have hwk : w.heap.size ≤ w13.heap.size := hB.size
  have hrb : ∀ g, bl Ar = some g → g < w13.heap.size := fun g hg => (hr.bl_ge g hg).2
  have hBk : Bd ≤ w13.heap.size := by
    rcases hr.form with ⟨_, h0, _⟩ | ⟨g, hg, _, _⟩
    · omega
    · have h1 := hrow g (by rw [hg]; rfl)
      have h2 := hrb g (by rw [hg]; rfl)
      omega
  refine WL.make (w13.heap.size) (ma - mb + 1) Try.underlying23 Try.el43 rfl rfl (by omega) (by omega) (by simp only [maxLen]; omega) (Nat.le_of_eq rfl) rfl ?_
  rintro Aq w14 - hq hGw14
  rw [made_us] at hq
  have hB := ext_trans hB hGw14
  have hd := hd.ext hGw14
  have hr := hr.ext hGw14
  refine WL.assign rfl rfl ?_
  refine WL.done ?_
  refine W.seq ?_
  refine W.seq ?_
  refine W.region ?_
  have hne := own_ne hq (by omega) hrb
  have hrowq : ∀ g, bl Aq = some g → Bd ≤ g := fun g hg => Nat.le_trans hBk (hq.bl_ge g hg).1
  have hq := hq.low hwk
  have hd_x := hd.max
  simp only [maxLen] at hd_x
  have hd_c := hd.cap
  have hinit := ld_init (n := mb) hLa ha_l hdl (by omega) hmab hu31 hV
  have hDB : nv xd < 4294967296 ^ mb := by have := nv_lt hLd; rwa [hdl] at this
  have hDp : 0 < nv xd := by
    rcases Nat.eq_zero_or_pos (nv xd) with h0 | h0
    · rw [h0] at hinit; omega
    · exact h0
  refine WL.move rfl rfl ?_
  refine WL.len Try.underlying23 rfl rfl ?_
  refine WL.sub (r := ((ma - mb + 1 : Nat) : Int) - 1) rfl rfl (wi64 (by omega) (by omega) (by omega)) rfl ?_
  refine WL.assign rfl rfl ?_
  refine WL.done ?_
  refine W.block ?_
  refine W.loop (σ := Nat × List Nat × List Nat) (fun s w1 => match s with | (j, qs, zs) => w.grownBy w1 none ∧ j ≤ ma - mb + 1 ∧ Lim qs ∧ qs.length = ma - mb + 1 ∧ Lim zs ∧ zs.length = mr ∧ nv xa * 2 ^ u = nv (qs.drop j) * (4294967296 ^ j * nv xd) + nv zs ∧ nv zs < 4294967296 ^ j * nv xd ∧ Own w.heap.size w1 43 1 Aq (ma - mb + 1) (ma - mb + 1) (us (qs)) ∧ Own w.heap.size w1 43 1 Ar mr cr (us (zs)) ∧ Rd Bd w1 1 Ay mb cy (us xd)) (fun s => match s with | (j, qs, zs) => [(1, .slice Ab mb cb), (4, .slice Aq (ma - mb + 1) (ma - mb + 1)), (5, .slice Ar mr cr), (6, .int .i64 ((u : Nat) : Int)), (7, .slice Ay mb cy), (8, .int .i64 (((j : Nat) : Int) - 1))]) (fun s => match s with | (j, qs, zs) => j) (ma - mb + 1, List.replicate (ma - mb + 1) 0, zr) ?_ ?_ ?_
  · exact ⟨hB, by omega, Lim.zeros _, by simp, hLzr, by omega, by rw [List.drop_of_length_le (by simp), nv_nil, Nat.zero_mul, Nat.zero_add]; exact hvr.symm, by rw [hvr]; exact hinit, hq, hr, hd⟩
  · exact ⟨rfl, rfl, rfl, iv (by omega), rfl, iv (by omega), trivial⟩
  · rintro ⟨j, qs, zs⟩ w15 ⟨hB, hj, hLq, hlq, hLz, hlz, heq, hzlt, hq, hr, hd⟩
    have hr_x := hr.rd.max
    simp only [maxLen] at hr_x
    have hr_c := hr.rd.cap
    have hq_c := hq.rd.cap
    refine W.seq ?_
    refine W.seq ?_
    refine W.region ?_
    refine WL.move rfl rfl ?_
    refine WL.geq rfl rfl rfl (fun c16 => ?_) (fun c16 => ?_)
    · refine WL.done ?_
      refine W.condT rfl ?_
      refine W.skip ?_
      refine W.seq ?_
      refine W.block ?_
      refine W.seq ?_
      refine W.region ?_
      refine WL.move rfl rfl ?_
      refine WL.move rfl rfl ?_
      refine WL.move rfl rfl ?_
      refine WL.move rfl rfl ?_
      refine WL.len Try.underlying23 rfl rfl ?_
      refine WL.add (r := ((((j : Nat) : Int) - 1) + ((mb : Nat) : Int))) rfl rfl (wi64 (by omega) (by omega) (by omega)) rfl ?_
      refine WL.add (r := (((((j : Nat) : Int) - 1) + ((mb : Nat) : Int)) + (1 : Int))) rfl rfl (wi64 (by omega) (by omega) (by omega)) rfl ?_
      have hjp : 0 < j := by omega
      have hj1 : j - 1 + 1 = j := by omega
      have hZB := ld_room hjp hzlt hDB
      have hwin := win_val hZB
      have hWD := ld_win hjp hzlt hwin
      have hlw := hLz.take_lt (j - 1)
      refine WL.slMid (j - 1) (j + mb) Try.underlying23 Try.el43 rfl rfl rfl (by omega) (by omega) (by omega) (by omega) (by omega) rfl rfl ?_
      rw [show j + mb - (j - 1) = mb + 1 from by omega]
      refine WL.assign rfl rfl ?_
      refine WL.done ?_
      refine W.seq ?_
      refine W.region ?_
      refine WL.move rfl rfl ?_
      refine WL.move rfl rfl ?_
      refine WL.call Try.func105 rfl Try.nm105 rfl rfl (est_c hr.rd hLz (j - 1) mb hd hLd (by omega) hn2 hV hWD) ?_
      rintro _ w17 ⟨dg, rfl, hGw17, hdg1, hdg2, hdg3⟩
      have hB := ext_trans hB hGw17
      have hq := hq.ext hGw17
      have hr := hr.ext hGw17
      have hd := hd.ext hGw17
      have hde := dig_ends rfl hDp hdg2 hdg3
      refine WL.assign rfl rfl ?_
      refine WL.done ?_
      refine W.seq ?_
      refine W.seq ?_
      refine W.region ?_
      refine WL.move rfl rfl ?_
      refine WL.move rfl rfl ?_
      refine WL.move rfl rfl ?_
      refine WL.call Try.func106 rfl Try.nm106 rfl rfl (subm_c hr hLz (j - 1) mb hd hLd hrow (by omega) (by omega) dg rfl hdg1) ?_
      rintro _ w18 ⟨ys, b, rfl, hGw18, hr2, hLy, hly, hsy, hyq⟩
      have hB := ext_own hB hGw18 (fun g hg => (hr.bl_ge g hg).1)
      have hq := hq.grown hGw18 ((fun g hg e => hne (e.trans hg.symm)))
      have hd := hd.grown hGw18 hrow
      have hr2_l := hr2.rd.ulen
      rcases b with _ | _
      · rw [if_neg (by decide)] at hyq
        have hdq := ld_none hDp hwin hlw rfl hde hyq
        have hfin := hyq
        rw [Nat.mul_zero, Nat.add_zero, hdq] at hfin
        refine WL.done ?_
        refine W.condF rfl ?_
        refine W.skip ?_
        refine W.region ?_
        refine WL.move rfl rfl ?_
        refine WL.move rfl rfl ?_
        refine WL.move rfl rfl ?_
        refine WL.index1 (j - 1) Try.underlying23 Try.el43 rfl rfl (by omega) (by omega) hq.rd rfl ?_
        refine WL.store Try.el43 rfl rfl rfl (by omega) hq ?_
        have hOld20 := hq
        intro w19 hq hGw19
        change Own _ _ _ _ _ _ _ ((us qs).set (j - 1) (.int .u32 ((dg : Nat) : Int))) at hq
        rw [us_set] at hq
        have hB := ext_own hB hGw19 (fun g hg => (hOld20.bl_ge g hg).1)
        have hd := hd.grown hGw19 hrowq
        have hr2 := hr2.grown hGw19 ((fun g hg e => hne (hg.trans e.symm)))
        have := hq.rd.ulen
        refine WL.done ?_
        refine W.region ?_
        refine WL.move rfl rfl ?_
        refine WL.sub (r := ((((j : Nat) : Int) - 1) - (1 : Int))) rfl rfl (wi64 (by omega) (by omega) (by omega)) rfl ?_
        refine WL.assign rfl rfl ?_
        refine WL.done ?_
        refine ⟨(j - 1, qs.set (j - 1) dg, ys), ⟨rfl, rfl, rfl, iv (by omega), rfl, iv (by omega), trivial⟩, by (dsimp only; omega), ?_⟩
        exact ⟨hB, by omega, hLq.set _ (by omega), by simp [hlq], hLy, by omega, by rw [drop_set _ (by omega), hj1, show dg = nv ((zs.drop (j - 1)).take (mb + 1)) / nv xd from by omega]; exact ld_step (o := j - 1) (by rw [hj1]; exact heq) hfin, ld_less hDp hwin hlw rfl hfin, hq, hr2, hd⟩
      · rw [if_pos rfl] at hyq
        have hyl : nv ys < 4294967296 ^ (j - 1 + (mb + 1)) := nv_lt_zero hLy (fun t ht => by rw [hsy t (by omega)]; exact getD_zero hZB (by omega))
        have hdq := ld_over hwin rfl hde hyl hyq
        have hq0 : 1 ≤ dg := by rw [hdq]; exact Nat.le_add_left 1 _
        refine WL.done ?_
        refine W.condT rfl ?_
        refine W.seq ?_
        refine W.region ?_
        refine WL.move rfl rfl ?_
        refine WL.sub (r := ((dg - 1 : Nat) : Int)) rfl rfl (wu32 (by omega) (by omega) (by omega)) rfl ?_
        refine WL.assign rfl rfl ?_
        refine WL.done ?_
        refine W.region ?_
        refine WL.move rfl rfl ?_
        refine WL.move rfl rfl ?_
        refine WL.call Try.func107 rfl Try.nm107 rfl rfl (addb_c hr2 hLy (j - 1) mb hd hLd hrow (by omega) (by omega)) ?_
        rintro _ w21 ⟨ys2, e2, hGw21, hr3, hLy2, hly2, hsy2, he2, hyq2⟩
        have hB := ext_own hB hGw21 (fun g hg => (hr2.bl_ge g hg).1)
        have hq := hq.grown hGw21 ((fun g hg e => hne (e.trans hg.symm)))
        have hd := hd.grown hGw21 hrow
        have hr3_l := hr3.rd.ulen
        have hyl2 : nv ys2 < 4294967296 ^ (j - 1 + (mb + 1)) := nv_lt_zero hLy2 (fun t ht => by rw [hsy2 t (by omega), hsy t (by omega)]; exact getD_zero hZB (by omega))
        have hfin := ld_back hwin rfl hdq hyl2 he2 hyq hyq2
        refine WL.done ?_
        refine W.region ?_
        refine WL.move rfl rfl ?_
        refine WL.move rfl rfl ?_
        refine WL.move rfl rfl ?_
        refine WL.index1 (j - 1) Try.underlying23 Try.el43 rfl rfl (by omega) (by omega) hq.rd rfl ?_
        refine WL.store Try.el43 rfl rfl rfl (by omega) hq ?_
        have hOld23 := hq
        intro w22 hq hGw22
        change Own _ _ _ _ _ _ _ ((us qs).set (j - 1) (.int .u32 ((dg - 1 : Nat) : Int))) at hq
        rw [us_set] at hq
        have hB := ext_own hB hGw22 (fun g hg => (hOld23.bl_ge g hg).1)
        have hd := hd.grown hGw22 hrowq
        have hr3 := hr3.grown hGw22 ((fun g hg e => hne (hg.trans e.symm)))
        have := hq.rd.ulen
        refine WL.done ?_
        refine W.region ?_
        refine WL.move rfl rfl ?_
        refine WL.sub (r := ((((j : Nat) : Int) - 1) - (1 : Int))) rfl rfl (wi64 (by omega) (by omega) (by omega)) rfl ?_
        refine WL.assign rfl rfl ?_
        refine WL.done ?_
        refine ⟨(j - 1, qs.set (j - 1) (dg - 1), ys2), ⟨rfl, rfl, rfl, iv (by omega), rfl, iv (by omega), trivial⟩, by (dsimp only; omega), ?_⟩
        exact ⟨hB, by omega, hLq.set _ (by omega), by simp [hlq], hLy2, by omega, by rw [drop_set _ (by omega), hj1, show dg - 1 = nv ((zs.drop (j - 1)).take (mb + 1)) / nv xd from by omega]; exact ld_step (o := j - 1) (by rw [hj1]; exact heq) hfin, ld_less hDp hwin hlw rfl hfin, hq, hr3, hd⟩
    · refine WL.done ?_
      refine W.condF rfl ?_
      refine W.exit ?_
      refine W.seq ?_
      refine W.region ?_
      refine WL.move rfl rfl ?_
      refine WL.move rfl rfl ?_
      refine WL.call Try.func108 rfl Try.nm108 rfl rfl (shr_c hr hLz (by omega) u rfl hu31) ?_
      rintro _ w24 ⟨ys, hGw24, hr2, hLy, hly, hvs⟩
      have hB := ext_own hB hGw24 (fun g hg => (hr.bl_ge g hg).1)
      have hq := hq.grown hGw24 ((fun g hg e => hne (e.trans hg.symm)))
      have hr2_l := hr2.rd.ulen
      refine WL.done ?_
      refine W.seq ?_
      refine W.region ?_
      refine WL.move rfl rfl ?_
      refine WL.call Try.func44 rfl Try.nm44 rfl rfl (sig_c hq.rd) ?_
      rintro _ w25 ⟨rfl, hGw25⟩
      have hB := ext_trans hB hGw25
      have hq := hq.ext hGw25
      have hr2 := hr2.ext hGw25
      refine WL.move rfl rfl ?_
      refine WL.call Try.func44 rfl Try.nm44 rfl rfl (sig_c hr2.rd) ?_
      rintro _ w26 ⟨rfl, hGw26⟩
      have hB := ext_trans hB hGw26
      have hq := hq.ext hGw26
      have hr2 := hr2.ext hGw26
      refine WL.assign rfl rfl ?_
      refine WL.assign rfl rfl ?_
      refine WL.done ?_
      refine W.ret ?_
      refine ⟨_, rfl, ?_⟩
      obtain rfl : j = 0 := by omega
      rw [List.drop_zero, Nat.pow_zero, Nat.one_mul, hvd] at heq
      rw [Nat.pow_zero, Nat.one_mul, hvd] at hzlt
      obtain ⟨e1, e2⟩ := ld_end heq hzlt
      have h1 := hq.sig
      have h2 := hr2.sig
      rw [digs_trim hLq, e1] at h1
      rw [digs_trim hLy, hvs, e2] at h2
      have h3 := sigL_le qs
      have h4 := sigL_le ys
      exact ⟨_, _, _, _, _, _, rfl, hB, h1, h2, by omega, by omega⟩
end Go.Proofs.Ythfpcebcfjlkmab
set_option linter.unusedSimpArgs false
set_option linter.unusedVariables false
namespace Go.Proofs.Ythfpcebcfjlkmab
open Go.RowKit
theorem sig_pos {l : List Nat} (h : 0 < sigL l) : 0 < nv l := by
  have ht := sigL_last h
  have h1 := nv_take_succ l (sigL l - 1)
  rw [show sigL l - 1 + 1 = sigL l by omega, nv_take_sig (Nat.le_refl _)] at h1
  have h2 : 4294967296 ^ (sigL l - 1) * 1 ≤ 4294967296 ^ (sigL l - 1) * l.getD (sigL l - 1) 0 := Nat.mul_le_mul_left _ (by omega)
  have h3 := Nat.pow_pos (n := sigL l - 1) (show 0 < 4294967296 by decide)
  omega
theorem sig_none {l : List Nat} (h : sigL l = 0) : nv l = 0 := by
  rw [← nv_take_sig (l := l) (i := 0) (by omega)]; rfl
theorem sig_one {l : List Nat} (h : sigL l = 1) : nv l = l.getD 0 0 := by
  rw [← nv_take_sig (l := l) (i := 1) (by omega), nv_take_succ]; simp

theorem DivMod_ok {w : World} {Ba : Nat} {Aa : Option Addr} {ma ca : Nat} {xa : List Nat} (ha : Rd Ba w 1 Aa ma ca (us xa)) {Bb : Nat} {Ab : Option Addr} {mb cb : Nat} {xb : List Nat} (hb : Rd Bb w 1 Ab mb cb (us xb)) (hLa : Lim xa) (hLb : Lim xb) (hpos : 0 < nv xb) (hsz : ma ≤ 536870912) :
    Calls Try.prog 83 #[.slice Aa ma ca, .slice Ab mb cb] w fun e w2 => ∃ v, e = .returned v ∧ (fun v w2 => ∃ A2 m2 c2 A3 m3 c3, v = .tuple #[.slice A2 m2 c2, .slice A3 m3 c3, .int .i64 0] ∧ w.grownBy w2 none ∧ Own w.heap.size w2 43 1 A2 m2 c2 (us (digs (nv xa / nv xb))) ∧ Own w.heap.size w2 43 1 A3 m3 c3 (us (digs (nv xa % nv xb))) ∧ m2 ≤ ma + 1 ∧ m3 ≤ ma + 2) v w2 := by
  have ha := ha.norm
  have ha_l := ha.ulen
  have ha_x := ha.max
  simp only [maxLen] at ha_x
  have ha_c := ha.cap
  have hb := hb.norm
  have hb_l := hb.ulen
  have hb_x := hb.max
  simp only [maxLen] at hb_x
  have hb_c := hb.cap
  have ha0 := ha
  have hb0 := hb
  have hsa := sigL_le xa
  have hsb := sigL_le xb
  have hta := nv_trimL xa
  have htb := nv_trimL xb
  have hla2 : (trimL xa).length = sigL xa := rfl
  have hlb2 : (trimL xb).length = sigL xb := rfl
  have hcc := cmpI_cases (nv (trimL xa)) (nv (trimL xb))
  have hB := ext_refl w
  refine calls_of_W (vs := [.slice Aa ma ca, .slice Ab mb cb]) [4, 5, 6] Try.func83 rfl rfl rfl rfl ?_
  refine W.seq ?_
  refine W.region ?_
  refine WL.assign rfl rfl ?_
  refine WL.assign rfl rfl ?_
  refine WL.assign rfl rfl ?_
  refine WL.done ?_
  refine W.seq ?_
  refine W.region ?_
  refine WL.move rfl rfl ?_
  refine WL.call Try.func44 rfl Try.nm44 rfl rfl (sig_c ha) ?_
  rintro _ w11 ⟨rfl, hGw11⟩
  have hB := ext_trans hB hGw11
  have ha := ha0.ext hB
  have hb := hb0.ext hB
  refine WL.move rfl rfl ?_
  refine WL.call Try.func44 rfl Try.nm44 rfl rfl (sig_c hb) ?_
  rintro _ w12 ⟨rfl, hGw12⟩
  have hB := ext_trans hB hGw12
  have ha := ha0.ext hB
  have hb := hb0.ext hB
  refine WL.assign rfl rfl ?_
  refine WL.assign rfl rfl ?_
  refine WL.done ?_
  refine W.seq ?_
  refine W.seq ?_
  refine W.region ?_
  refine WL.move rfl rfl ?_
  refine WL.len Try.underlying23 rfl rfl ?_
  refine WL.eql rfl rfl rfl (fun c13 => ?_) (fun c13 => ?_)
  · exfalso
    have := sig_none (l := xb) (by omega)
    omega
  · refine WL.done ?_
    refine W.condF rfl ?_
    refine W.skip ?_
    refine W.seq ?_
    refine W.seq ?_
    refine W.region ?_
    refine WL.move rfl rfl ?_
    refine WL.move rfl rfl ?_
    refine WL.call Try.func72 rfl Try.nm72 rfl rfl (Cmp_c (Rd.sig ha) (Rd.sig hb) (Lim.trim hLa) (Lim.trim hLb)) ?_
    rintro _ w14 ⟨rfl, hGw14⟩
    have hB := ext_trans hB hGw14
    have ha := ha0.ext hB
    have hb := hb0.ext hB
    refine WL.lss rfl rfl rfl (fun c15 => ?_) (fun c15 => ?_)
    · refine WL.done ?_
      refine W.condT rfl ?_
      refine W.seq ?_
      refine W.region ?_
      refine WL.move rfl rfl ?_
      refine WL.call Try.func46 rfl Try.nm46 rfl rfl (Trim_c (Rd.sig ha) (by omega)) ?_
      rintro _ w16 ⟨A17, m18, cp19, rfl, hGw16, hr, hm20⟩
      have hr := hr.low (b' := w.heap.size) hB.size
      have hB := ext_trans hB hGw16
      have hr_l := hr.rd.ulen
      refine WL.assign rfl rfl ?_
      refine WL.assign rfl rfl ?_
      refine WL.assign rfl rfl ?_
      refine WL.done ?_
      refine W.ret ?_
      refine ⟨_, rfl, ?_⟩
      rw [digs_trim hLa.trim, nv_trimL] at hr
      rw [Nat.div_eq_of_lt (by omega), Nat.mod_eq_of_lt (by omega)]
      have hrk := hr.rd.ulen
      have hdk := digs_len (nv_lt hLa)
      exact ⟨none, 0, 0, _, _, _, rfl, hB, World.ownsRow_nil _ _ _ _, hr, by omega, by omega⟩
    · refine WL.done ?_
      refine W.condF rfl ?_
      refine W.skip ?_
      refine W.seq ?_
      refine W.seq ?_
      refine W.region ?_
      refine WL.move rfl rfl ?_
      refine WL.len Try.underlying23 rfl rfl ?_
      refine WL.eql rfl rfl rfl (fun c21 => ?_) (fun c21 => ?_)
      · refine WL.done ?_
        refine W.condT rfl ?_
        refine W.seq ?_
        refine W.region ?_
        refine WL.move rfl rfl ?_
        refine WL.call Try.func46 rfl Try.nm46 rfl rfl (Trim_c (Rd.sig ha) (by omega)) ?_
        rintro _ w22 ⟨A23, m24, cp25, rfl, hGw22, hq, hm26⟩
        have hq := hq.low (b' := w.heap.size) hB.size
        have hB := ext_trans hB hGw22
        have hb := hb0.ext hB
        have hq_l := hq.rd.ulen
        have hq_k := hq.rd.ulen
        refine WL.assign rfl rfl ?_
        refine WL.done ?_
        refine W.seq ?_
        refine W.region ?_
        refine WL.move rfl rfl ?_
        refine WL.move rfl rfl ?_
        refine WL.index1 (0) Try.underlying23 Try.el43 rfl rfl (by omega) (by omega) (Rd.sig hb) rfl ?_
        refine WL.load Try.underlying43 rfl rfl (Rd.at_ (Rd.sig hb) (us_at (by omega))) rfl ?_
        have hs1 : sigL xb = 1 := by omega
        have hl0 := sigL_last (l := xb) (by omega)
        rw [hs1] at hl0
        have hl1 := trimL_getD0 xb 0
        have hl2 := hLb.trim.getD 0
        have hv1 := sig_one hs1
        have hqk : (trimL (trimL xa)).length ≤ (trimL xa).length := trimL_len _
        have hmo := Nat.mod_lt (nv (trimL (trimL xa))) (show (trimL xb).getD 0 0 > 0 by omega)
        refine WL.call Try.func43 rfl Try.nm43 rfl rfl (sdiv_c hq hB.size (Lim.trim (Lim.trim hLa)) (by omega) ((trimL xb).getD 0 0) (by omega) (by omega) (by omega)) ?_
        rintro _ w27 ⟨ys28, rfl, hGw27, hq2, hLys28, hlys28, hvhq2⟩
        have hB := ext_bel hB hGw27
        have hq2_l := hq2.rd.ulen
        refine WL.assign rfl rfl ?_
        refine WL.done ?_
        refine W.seq ?_
        refine W.region ?_
        refine WL.move rfl rfl ?_
        refine WL.call Try.func44 rfl Try.nm44 rfl rfl (sig_c hq2.rd) ?_
        rintro _ w29 ⟨rfl, hGw29⟩
        have hB := ext_trans hB hGw29
        have hq2 := hq2.ext hGw29
        refine WL.move rfl rfl ?_
        refine WL.conv (r := ((nv (trimL (trimL xa)) % ((trimL xb).getD 0 0) : Nat) : Int)) Try.underlying43 Try.underlying72 rfl (wu64 (by omega) (by omega) (by omega)) rfl ?_
        refine WL.call Try.func84 rfl Try.nm84 rfl rfl (Of_c (nv (trimL (trimL xa)) % ((trimL xb).getD 0 0)) (by omega) (by omega)) ?_
        rintro _ w30 ⟨A31, m32, cp33, rfl, hGw30, hr, hm34⟩
        have hr := hr.low (b' := w.heap.size) hB.size
        have hB := ext_trans hB hGw30
        have hq2 := hq2.ext hGw30
        have hr_l := hr.rd.ulen
        refine WL.assign rfl rfl ?_
        refine WL.assign rfl rfl ?_
        refine WL.assign rfl rfl ?_
        refine WL.done ?_
        refine W.ret ?_
        refine ⟨_, rfl, ?_⟩
        have h1 := hq2.sig
        rw [digs_trim hLys28, hvhq2, hl1, nv_trimL, nv_trimL, ← hv1] at h1
        rw [hl1, nv_trimL, nv_trimL, ← hv1] at hr
        have h5 := hq2.rd.ulen
        have h3 := h1.rd.ulen
        have h4 := digs_len (n := nv xa / nv xb) (k := ma) (Nat.lt_of_le_of_lt (Nat.div_le_self _ _) (by have := nv_lt hLa; rwa [ha_l] at this))
        have h6 := hr.rd.ulen
        have h7 := digs_len (n := nv xa % nv xb) (k := ma) (Nat.lt_of_le_of_lt (Nat.mod_le _ _) (by have := nv_lt hLa; rwa [ha_l] at this))
        exact ⟨_, _, _, _, _, _, rfl, hB, h1, hr, by omega, by omega⟩
      · refine WL.done ?_
        refine W.condF rfl ?_
        refine W.skip ?_
        refine W.seq ?_
        refine W.region ?_
        refine WL.move rfl rfl ?_
        refine WL.move rfl rfl ?_
        refine WL.call Try.func99 rfl Try.nm99 rfl rfl (longDivide_c (Rd.sig ha) (Rd.sig hb) (Lim.trim hLa) (Lim.trim hLb) (by omega) (sigL_mono hLa hLb (by omega)) (by rw [trimL_getD0]; exact sigL_last (by omega)) (by omega)) ?_
        rintro _ w35 ⟨A2, m2, c2, A3, m3, c3, rfl, hGw35, hq, hr, hmq, hmr⟩
        have hq := hq.low (b' := w.heap.size) hB.size
        have hr := hr.low (b' := w.heap.size) hB.size
        have hB := ext_trans hB hGw35
        have hq_l := hq.rd.ulen
        have hr_l := hr.rd.ulen
        rw [nv_trimL, nv_trimL] at hq hr
        refine WL.move rfl rfl ?_
        refine WL.extract rfl rfl rfl ?_
        refine WL.extract rfl rfl rfl ?_
        refine WL.assign rfl rfl ?_
        refine WL.assign rfl rfl ?_
        refine WL.done ?_
        refine W.seq ?_
        refine W.region ?_
        refine WL.move rfl rfl ?_
        refine WL.move rfl rfl ?_
        refine WL.assign rfl rfl ?_
        refine WL.assign rfl rfl ?_
        refine WL.assign rfl rfl ?_
        refine WL.done ?_
        refine W.ret ?_
        refine ⟨_, rfl, ?_⟩
        exact ⟨_, _, _, _, _, _, rfl, hB, hq, hr, by omega, by omega⟩

end Go.Proofs.Ythfpcebcfjlkmab
set_option linter.unusedSimpArgs false
set_option linter.unusedVariables false
namespace Go.Proofs.Ythfpcebcfjlkmab
open Go.RowKit
theorem wordGcd_c {w : World} (a b : Nat) {X Y : Int} (hX : X = a) (hY : Y = b) (ha : a < 18446744073709551616) (hb : b < 18446744073709551616) :
    Calls Try.prog 85 #[.int .u64 X, .int .u64 Y] w fun e w2 => ∃ v, e = .returned v ∧ (fun v w2 => v = .int .u64 ((Nat.gcd a b : Nat) : Int) ∧ w.grownBy w2 none) v w2 := by
  have hB := ext_refl w
  refine calls_of_W (vs := [.int .u64 X, .int .u64 Y]) [4] Try.func85 rfl rfl rfl rfl ?_
  refine W.seq ?_
  refine W.region ?_
  refine WL.assign rfl rfl ?_
  refine WL.done ?_
  refine W.seq ?_
  refine W.block ?_
  refine W.loop (σ := Nat × Nat) (fun s w1 => match s with | (p, q) => w.grownBy w1 none ∧ p < 18446744073709551616 ∧ q < 18446744073709551616 ∧ Nat.gcd p q = Nat.gcd a b) (fun s => match s with | (p, q) => [(0, .int .u64 ((p : Nat) : Int)), (1, .int .u64 ((q : Nat) : Int))]) (fun s => match s with | (p, q) => q) (a, b) ?_ ?_ ?_
  · exact ⟨hB, ha, hb, rfl⟩
  · exact ⟨iv (by omega), iv (by omega), trivial⟩
  · rintro ⟨p, q⟩ w11 ⟨hB, hp, hq, hg⟩
    have hm : q ≠ 0 → p % q < q := fun h => Nat.mod_lt _ (by omega)
    refine W.seq ?_
    refine W.seq ?_
    refine W.region ?_
    refine WL.move rfl rfl ?_
    refine WL.neq rfl rfl rfl (fun c12 => ?_) (fun c12 => ?_)
    · refine WL.done ?_
      refine W.condT rfl ?_
      refine W.skip ?_
      refine W.block ?_
      refine W.draw [⟨[], [1], true⟩, ⟨[], [0], true⟩, ⟨[], [1], true⟩, ⟨[1, 2], [], true⟩, ⟨[0], [], true⟩, ⟨[3], [], true⟩] [[(1, .int .u64 ((q : Nat) : Int))], [(0, .int .u64 ((p : Nat) : Int))], [(1, .int .u64 ((q : Nat) : Int))], [], [], []] (fun iQ => [fun v _ => v = .int .u64 ((q : Nat) : Int), fun v _ => v = .int .u64 ((p : Nat) : Int), fun v _ => v = .int .u64 ((q : Nat) : Int), fun v _ => v = .int .u64 ((p % q : Nat) : Int), fun v _ => v = .int .u64 ((q : Nat) : Int), fun v _ => v = .int .u64 ((p % q : Nat) : Int)].getD iQ (fun _ _ => True)) (fun _ => True) 6 Try.mixed (by kernel_rfl) ?_ ?_ ?_
      · refine Vs_mono _ ?_
        intro VQ hVQ vQ wQ1 wQ2 hQ1 hQ2
        simp only [List.mem_cons, List.not_mem_nil, or_false] at hVQ
        rcases hVQ with rfl | rfl | rfl | rfl | rfl | rfl <;> exact hQ1
      · refine ⟨⟨rfl, ⟨rfl, trivial⟩, ?_⟩, ⟨rfl, ⟨rfl, trivial⟩, ?_⟩, ⟨rfl, ⟨rfl, trivial⟩, ?_⟩, ⟨rfl, trivial, ?_⟩, ⟨rfl, trivial, ?_⟩, ⟨rfl, trivial, ?_⟩, trivial⟩
        · intro w13 hE
          intro R
          refine WL.move rfl rfl ?_
          exact WL.done ⟨_, rfl, rfl, rfl⟩
        · intro w14 hE
          intro R
          refine WL.move rfl rfl ?_
          exact WL.done ⟨_, rfl, rfl, rfl⟩
        · intro w15 hE
          intro R
          refine WL.move rfl rfl ?_
          exact WL.done ⟨_, rfl, rfl, rfl⟩
        · intro w16 hE
          rintro _ rfl
          rintro _ rfl
          intro R
          refine WL.rem (r := ((p % q : Nat) : Int)) rfl rfl (by omega) (tmod_nat (by omega) (by omega)) rfl ?_
          exact WL.done ⟨_, rfl, rfl, rfl⟩
        · intro w17 hE
          rintro _ rfl
          intro R
          refine WL.assign rfl rfl ?_
          exact WL.done ⟨_, rfl, rfl, rfl⟩
        · intro w18 hE
          rintro _ rfl
          intro R
          refine WL.assign rfl rfl ?_
          exact WL.done ⟨_, rfl, rfl, rfl⟩
      · intro vals w19 hT hVs
        rw [if_neg (by decide)] at hT
        have hB := ext_trans hB hT
        have hv0 : vals 0 = _ := hVs 0 (by decide) (by decide)
        have hv1 : vals 1 = _ := hVs 1 (by decide) (by decide)
        have hv2 : vals 2 = _ := hVs 2 (by decide) (by decide)
        have hv3 : vals 3 = _ := hVs 3 (by decide) (by decide)
        have hv4 : vals 4 = _ := hVs 4 (by decide) (by decide)
        have hv5 : vals 5 = _ := hVs 5 (by decide) (by decide)
        rw [show (List.filterMap (fun i => Option.map (fun t => (t, vals i)) (dstAt _ i)) (List.range _)) = [(7, .int .u64 ((q : Nat) : Int)), (8, .int .u64 ((p : Nat) : Int)), (9, .int .u64 ((q : Nat) : Int)), (10, .int .u64 ((p % q : Nat) : Int)), (0, .int .u64 ((q : Nat) : Int)), (1, .int .u64 ((p % q : Nat) : Int))] from by
          show [(7, vals 0), (8, vals 1), (9, vals 2), (10, vals 3), (0, vals 4), (1, vals 5)] = _
          rw [hv0, hv1, hv2, hv3, hv4, hv5]]
        refine ⟨(q, p % q), ⟨iv (by omega), iv (by omega), trivial⟩, by (dsimp only; exact Nat.mod_lt _ (by omega)), ?_⟩
        exact ⟨hB, hq, Nat.lt_of_le_of_lt (Nat.mod_le _ _) hp, by rw [← hg, Nat.gcd_comm p q, Nat.gcd_rec q p, Nat.gcd_comm]⟩
    · refine WL.done ?_
      refine W.condF rfl ?_
      refine W.exit ?_
      refine W.seq ?_
      refine W.region ?_
      refine WL.move rfl rfl ?_
      refine WL.assign rfl rfl ?_
      refine WL.done ?_
      refine W.ret ?_
      refine ⟨_, rfl, ?_⟩
      obtain rfl : q = 0 := by omega
      rw [Nat.gcd_zero_right] at hg
      exact ⟨by rw [hg], hB⟩

theorem size_c {w : World} {X : Int} (hX : -9223372036854775808 < X ∧ X ≤ 9223372036854775807) :
    Calls Try.prog 102 #[.int .i64 X] w fun e w2 => ∃ v, e = .returned v ∧ (fun v w2 => v = .int .i64 ((X.natAbs : Nat) : Int) ∧ w.grownBy w2 none) v w2 := by
  have hB := ext_refl w
  refine calls_of_W (vs := [.int .i64 X]) [2] Try.func102 rfl rfl rfl rfl ?_
  refine W.seq ?_
  refine W.region ?_
  refine WL.assign rfl rfl ?_
  refine WL.done ?_
  refine W.seq ?_
  refine W.seq ?_
  refine W.region ?_
  refine WL.move rfl rfl ?_
  refine WL.lss rfl rfl rfl (fun c11 => ?_) (fun c11 => ?_)
  · refine WL.done ?_
    refine W.condT rfl ?_
    refine W.seq ?_
    refine W.region ?_
    refine WL.move rfl rfl ?_
    refine WL.neg (r := -X) rfl (wi64 (by omega) (by omega) (by omega)) rfl ?_
    refine WL.assign rfl rfl ?_
    refine WL.done ?_
    refine W.ret ?_
    refine ⟨_, rfl, ?_⟩
    exact ⟨by congr 1; omega, hB⟩
  · refine WL.done ?_
    refine W.condF rfl ?_
    refine W.skip ?_
    refine W.seq ?_
    refine W.region ?_
    refine WL.move rfl rfl ?_
    refine WL.assign rfl rfl ?_
    refine WL.done ?_
    refine W.ret ?_
    refine ⟨_, rfl, ?_⟩
    exact ⟨by congr 1; omega, hB⟩

theorem Zero_t {w : World} {Ba : Nat} {Aa : Option Addr} {ma ca : Nat} {xa : List Nat} (ha : Rd Ba w 1 Aa ma ca (us xa)) (hLa : Lim xa) (h0 : nv xa = 0) (hs : ma ≤ 1099511627776) :
    Calls Try.prog 61 #[.slice Aa ma ca] w fun e w2 => ∃ v, e = .returned v ∧ (fun v w2 => v = .bool true ∧ w.grownBy w2 none) v w2 := by
  have ha := ha.norm
  have ha_l := ha.ulen
  have ha_x := ha.max
  simp only [maxLen] at ha_x
  have ha_c := ha.cap
  have ha0 := ha
  have htl : (trimL xa).length = sigL xa := rfl
  have hsp := @sig_pos xa
  have hsn := @sig_none xa
  have hB := ext_refl w
  refine calls_of_W (vs := [.slice Aa ma ca]) [2] Try.func61 rfl rfl rfl rfl ?_
  refine W.seq ?_
  refine W.region ?_
  refine WL.assign rfl rfl ?_
  refine WL.done ?_
  refine W.seq ?_
  refine W.region ?_
  refine WL.move rfl rfl ?_
  refine WL.call Try.func88 rfl Try.nm88 rfl rfl (rTrim_c ha (by omega)) ?_
  rintro _ w11 ⟨A12, m13, cp14, rfl, hGw11, hO15, hm16⟩
  have hO15 := hO15.low (b' := w.heap.size) hB.size
  have hB := ext_trans hB hGw11
  have hO15_l := hO15.rd.ulen
  refine WL.len Try.underlying23 rfl rfl ?_
  refine WL.eql rfl rfl rfl (fun c17 => ?_) (fun c17 => ?_)
  · refine WL.assign rfl rfl ?_
    refine WL.done ?_
    refine W.ret ?_
    refine ⟨_, rfl, ?_⟩
    exact ⟨rfl, hB⟩
  · exfalso
    omega

theorem Zero_f {w : World} {Ba : Nat} {Aa : Option Addr} {ma ca : Nat} {xa : List Nat} (ha : Rd Ba w 1 Aa ma ca (us xa)) (hLa : Lim xa) (h0 : 0 < nv xa) (hs : ma ≤ 1099511627776) :
    Calls Try.prog 61 #[.slice Aa ma ca] w fun e w2 => ∃ v, e = .returned v ∧ (fun v w2 => v = .bool false ∧ w.grownBy w2 none) v w2 := by
  have ha := ha.norm
  have ha_l := ha.ulen
  have ha_x := ha.max
  simp only [maxLen] at ha_x
  have ha_c := ha.cap
  have ha0 := ha
  have htl : (trimL xa).length = sigL xa := rfl
  have hsp := @sig_pos xa
  have hsn := @sig_none xa
  have hB := ext_refl w
  refine calls_of_W (vs := [.slice Aa ma ca]) [2] Try.func61 rfl rfl rfl rfl ?_
  refine W.seq ?_
  refine W.region ?_
  refine WL.assign rfl rfl ?_
  refine WL.done ?_
  refine W.seq ?_
  refine W.region ?_
  refine WL.move rfl rfl ?_
  refine WL.call Try.func88 rfl Try.nm88 rfl rfl (rTrim_c ha (by omega)) ?_
  rintro _ w11 ⟨A12, m13, cp14, rfl, hGw11, hO15, hm16⟩
  have hO15 := hO15.low (b' := w.heap.size) hB.size
  have hB := ext_trans hB hGw11
  have hO15_l := hO15.rd.ulen
  refine WL.len Try.underlying23 rfl rfl ?_
  refine WL.eql rfl rfl rfl (fun c17 => ?_) (fun c17 => ?_)
  · exfalso
    omega
  · refine WL.assign rfl rfl ?_
    refine WL.done ?_
    refine W.ret ?_
    refine ⟨_, rfl, ?_⟩
    exact ⟨rfl, hB⟩

theorem sh_carry {x r c : Nat} (hx : x < 4294967296) (hc : c < 2 ^ r) : (x * 2 ^ r + c) / 4294967296 < 2 ^ r := by
  rw [Nat.div_lt_iff_lt_mul (by decide)]
  have h1 : (x + 1) * 2 ^ r ≤ 4294967296 * 2 ^ r := Nat.mul_le_mul_right _ hx
  rw [Nat.add_mul, Nat.one_mul] at h1
  rw [Nat.mul_comm (2 ^ r) 4294967296]
  omega
theorem sh_pow (k : Nat) : 2 ^ k = 4294967296 ^ (k / 32) * 2 ^ (k % 32) := by
  rw [pow32, ← Nat.pow_add, Nat.div_add_mod]
theorem sh_step {zs xa : List Nat} {i k c x : Nat} (hl : zs.length = k / 32 + i) (h : nv zs + 4294967296 ^ (k / 32 + i) * c = nv (xa.take i) * 2 ^ k) (hx : xa.getD i 0 = x) :
    nv (zs ++ [(x * 2 ^ (k % 32) + c) % 4294967296]) + 4294967296 ^ (k / 32 + (i + 1)) * ((x * 2 ^ (k % 32) + c) / 4294967296) = nv (xa.take (i + 1)) * 2 ^ k := by
  have h2 := Nat.div_add_mod (x * 2 ^ (k % 32) + c) 4294967296
  rw [nv_append, nv_one, hl, nv_take_succ, hx, Nat.add_mul, ← h]
  have h3 : 4294967296 ^ i * x * 2 ^ k = 4294967296 ^ (k / 32 + i) * (x * 2 ^ (k % 32)) := by rw [sh_pow k, Nat.pow_add]; ac_rfl
  have h4 : 4294967296 ^ (k / 32 + (i + 1)) * ((x * 2 ^ (k % 32) + c) / 4294967296) = 4294967296 ^ (k / 32 + i) * (4294967296 * ((x * 2 ^ (k % 32) + c) / 4294967296)) := by
    rw [show k / 32 + (i + 1) = (k / 32 + i) + 1 by omega, Nat.pow_succ, Nat.mul_assoc]
  have h5 : 4294967296 ^ (k / 32 + i) * (4294967296 * ((x * 2 ^ (k % 32) + c) / 4294967296)) + 4294967296 ^ (k / 32 + i) * ((x * 2 ^ (k % 32) + c) % 4294967296) = 4294967296 ^ (k / 32 + i) * (x * 2 ^ (k % 32)) + 4294967296 ^ (k / 32 + i) * c := by
    rw [← Nat.mul_add, h2, Nat.mul_add]
  rw [h3, h4]
  omega

theorem shift_c {w : World} {Ba : Nat} {Aa : Option Addr} {ma ca : Nat} {xa : List Nat} (ha : Rd Ba w 1 Aa ma ca (us xa)) (hLa : Lim xa) (k : Nat) {X : Int} (hX : X = k) (hk : k ≤ 34359738368) (hs : ma ≤ 1073741824) :
    Calls Try.prog 90 #[.slice Aa ma ca, .int .i64 X] w fun e w2 => ∃ v, e = .returned v ∧ (fun v w2 => ∃ A2 m2 c2, v = .slice A2 m2 c2 ∧ w.grownBy w2 none ∧ Own w.heap.size w2 43 1 A2 m2 c2 (us (digs (nv xa * 2 ^ k))) ∧ 0 ≤ m2) v w2 := by
  have ha := ha.norm
  have ha_l := ha.ulen
  have ha_x := ha.max
  simp only [maxLen] at ha_x
  have ha_c := ha.cap
  have ha0 := ha
  have hr31 : k % 32 ≤ 31 := by omega
  have hps : 2 ^ (k % 32) ≤ 2147483648 := Nat.pow_le_pow_right (n := 2) (by decide) hr31
  have hp0 := Nat.pow_pos (n := k % 32) (show 0 < 2 by decide)
  have hB := ext_refl w
  refine calls_of_W (vs := [.slice Aa ma ca, .int .i64 X]) [4] Try.func90 rfl rfl rfl rfl ?_
  refine W.seq ?_
  refine W.region ?_
  refine WL.assign rfl rfl ?_
  refine WL.done ?_
  refine W.seq ?_
  refine W.region ?_
  refine WL.move rfl rfl ?_
  refine WL.quo (r := ((k / 32 : Nat) : Int)) rfl rfl (by omega) (qi64 (by omega) (by omega) (by omega)) rfl ?_
  refine WL.make (w.heap.size) (k / 32) Try.underlying23 Try.el43 rfl rfl (by omega) (by omega) (by simp only [maxLen]; omega) (Nat.le_of_eq rfl) rfl ?_
  rintro A11 w12 - ho hGw12
  rw [made_us] at ho
  have ho := ho.low (b' := w.heap.size) hB.size
  have hB := ext_trans hB hGw12
  have ha := ha0.ext hB
  refine WL.assign rfl rfl ?_
  refine WL.done ?_
  refine W.seq ?_
  refine W.region ?_
  refine WL.assign rfl rfl ?_
  refine WL.done ?_
  refine W.seq ?_
  refine W.seq ?_
  refine W.region ?_
  refine WL.assign rfl rfl ?_
  refine WL.done ?_
  refine W.block ?_
  refine W.loop (σ := Nat × Nat × List Nat × Option Addr × Nat) (fun s w1 => match s with | (i, c, zs, Ao, co) => w.grownBy w1 none ∧ i ≤ ma ∧ c < 2 ^ (k % 32) ∧ Lim zs ∧ zs.length = k / 32 + i ∧ nv zs + 4294967296 ^ (k / 32 + i) * c = nv (xa.take i) * 2 ^ k ∧ Own w.heap.size w1 43 1 Ao (k / 32 + i) co (us (zs))) (fun s => match s with | (i, c, zs, Ao, co) => [(0, .slice Aa ma ca), (1, .int .i64 X), (5, .slice Ao (k / 32 + i) co), (6, .int .u64 ((c : Nat) : Int)), (7, .int .i64 ((i : Nat) : Int))]) (fun s => match s with | (i, c, zs, Ao, co) => ma - i) (0, 0, List.replicate (k / 32) 0, A11, k / 32) ?_ ?_ ?_
  · exact ⟨hB, by omega, hp0, Lim.zeros _, by simp, by simp [nv_zeros], ho⟩
  · exact ⟨rfl, iv (by omega), rfl, iv (by omega), iv (by omega), trivial⟩
  · rintro ⟨i, c, zs, Ao, co⟩ w13 ⟨hB, hi, hc, hLz, hlz, heq, ho⟩
    have ha := ha0.ext hB
    have hx := hLa.getD i
    have hrm := shl_room hx hr31
    have ho_x := ho.rd.max
    simp only [maxLen] at ho_x
    have ho_c := ho.rd.cap
    refine W.seq ?_
    refine W.seq ?_
    refine W.region ?_
    refine WL.move rfl rfl ?_
    refine WL.move rfl rfl ?_
    refine WL.len Try.underlying23 rfl rfl ?_
    refine WL.lss rfl rfl rfl (fun c14 => ?_) (fun c14 => ?_)
    · refine WL.done ?_
      refine W.condT rfl ?_
      refine W.skip ?_
      refine W.seq ?_
      refine W.block ?_
      refine W.seq ?_
      refine W.region ?_
      refine WL.move rfl rfl ?_
      refine WL.move rfl rfl ?_
      refine WL.index1 (i) Try.underlying23 Try.el43 rfl rfl (by omega) (by omega) ha rfl ?_
      refine WL.load Try.underlying43 rfl rfl (Rd.at_ ha (us_at (by omega))) rfl ?_
      refine WL.conv (r := ((xa.getD i 0 : Nat) : Int)) Try.underlying43 Try.underlying72 rfl (wu64 (by omega) (by omega) (by omega)) rfl ?_
      refine WL.move rfl rfl ?_
      refine WL.rem (r := ((k % 32 : Nat) : Int)) rfl rfl (by omega) (tmod_nat (by omega) (by omega)) rfl ?_
      refine WL.shl (r := ((xa.getD i 0 * 2 ^ (k % 32) : Nat) : Int)) rfl rfl (by omega) (by rw [show IntKind.u64.bits = 64 from rfl, shl_nat (a := xa.getD i 0) (s := k % 32) (by omega) (by omega) 64 (by omega)]; exact wu64 (by omega) (by omega) (by omega)) rfl ?_
      refine WL.move rfl rfl ?_
      refine WL.add (r := (((xa.getD i 0 * 2 ^ (k % 32)) + c : Nat) : Int)) rfl rfl (wu64 (by omega) (by omega) (by omega)) rfl ?_
      refine WL.assign rfl rfl ?_
      refine WL.done ?_
      refine W.seq ?_
      refine W.region ?_
      refine WL.move rfl rfl ?_
      refine WL.move rfl rfl ?_
      refine WL.rem (r := ((((xa.getD i 0 * 2 ^ (k % 32)) + c) % 4294967296 : Nat) : Int)) rfl rfl (by omega) (tmod_nat (by omega) (by omega)) rfl ?_
      refine WL.conv (r := ((((xa.getD i 0 * 2 ^ (k % 32)) + c) % 4294967296 : Nat) : Int)) Try.underlying72 Try.underlying43 rfl (wu32 (by omega) (by omega) (by omega)) rfl ?_
      refine WL.lit1 (b := w13.heap.size) Try.underlying23 Try.el43 rfl rfl rfl rfl (by intro v hv; simp only [List.mem_cons, List.not_mem_nil, or_false] at hv; rcases hv with rfl <;> rfl) (Nat.le_refl _) rfl ?_
      rintro A15 w16 - hO17 hGw16
      have hO17 := hO17.low (b' := w.heap.size) hB.size
      have hB := ext_trans hB hGw16
      have ho := ho.ext hGw16
      change Own _ _ _ _ _ _ _ (us [((xa.getD i 0 * 2 ^ (k % 32)) + c) % 4294967296]) at hO17
      refine WL.append ((k / 32 + i) + 1) ((us (zs ++ ([((xa.getD i 0 * 2 ^ (k % 32)) + c) % 4294967296])))) Try.underlying23 Try.el43 rfl rfl ho hO17.rd (us_one _) (by simp only [maxLen]; omega) (by omega) hB.size (by omega) (us_app rfl) rfl ?_
      have hOld21 := ho
      intro A18 cp19 w20 ho hGw20 hblw20
      have hB := ext_own hB hGw20 (fun g hg => (hOld21.bl_ge g hg).1)
      refine WL.assign rfl rfl ?_
      refine WL.done ?_
      refine W.region ?_
      refine WL.move rfl rfl ?_
      refine WL.quo (r := ((((xa.getD i 0 * 2 ^ (k % 32)) + c) / 4294967296 : Nat) : Int)) rfl rfl (by omega) (qu64 (by omega) (by omega) (by omega)) rfl ?_
      refine WL.assign rfl rfl ?_
      refine WL.done ?_
      refine W.region ?_
      refine WL.move rfl rfl ?_
      refine WL.add (r := ((i + 1 : Nat) : Int)) rfl rfl (wi64 (by omega) (by omega) (by omega)) rfl ?_
      refine WL.assign rfl rfl ?_
      refine WL.done ?_
      refine ⟨(i + 1, (xa.getD i 0 * 2 ^ (k % 32) + c) / 4294967296, zs ++ [(xa.getD i 0 * 2 ^ (k % 32) + c) % 4294967296], _, _), ⟨rfl, iv (by omega), rfl, iv (by omega), iv (by omega), trivial⟩, by (dsimp only; omega), ?_⟩
      exact ⟨hB, by omega, sh_carry hx hc, hLz.append (Lim.one (by omega)), by simp [hlz]; omega, sh_step hlz heq rfl, ho⟩
    · refine WL.done ?_
      refine W.condF rfl ?_
      refine W.exit ?_
      refine W.seq ?_
      refine W.region ?_
      refine WL.move rfl rfl ?_
      refine WL.move rfl rfl ?_
      refine WL.conv (r := ((c : Nat) : Int)) Try.underlying72 Try.underlying43 rfl (wu32 (by omega) (by omega) (by omega)) rfl ?_
      refine WL.lit1 (b := w13.heap.size) Try.underlying23 Try.el43 rfl rfl rfl rfl (by intro v hv; simp only [List.mem_cons, List.not_mem_nil, or_false] at hv; rcases hv with rfl <;> rfl) (Nat.le_refl _) rfl ?_
      rintro A22 w23 - hO24 hGw23
      have hO24 := hO24.low (b' := w.heap.size) hB.size
      have hB := ext_trans hB hGw23
      have ho := ho.ext hGw23
      change Own _ _ _ _ _ _ _ (us [c]) at hO24
      refine WL.append ((k / 32 + i) + 1) ((us (zs ++ ([c])))) Try.underlying23 Try.el43 rfl rfl ho hO24.rd (us_one _) (by simp only [maxLen]; omega) (by omega) hB.size (by omega) (us_app rfl) rfl ?_
      have hOld28 := ho
      intro A25 cp26 w27 ho hGw27 hblw27
      have hB := ext_own hB hGw27 (fun g hg => (hOld28.bl_ge g hg).1)
      refine WL.call Try.func88 rfl Try.nm88 rfl rfl (rTrim_c ho.rd (by omega)) ?_
      rintro _ w29 ⟨A30, m31, cp32, rfl, hGw29, hO, hm33⟩
      have hO := hO.low (b' := w.heap.size) hB.size
      have hB := ext_trans hB hGw29
      have hO_l := hO.rd.ulen
      refine WL.assign rfl rfl ?_
      refine WL.done ?_
      refine W.ret ?_
      refine ⟨_, rfl, ?_⟩
      obtain rfl : i = ma := by omega
      rw [nv_take_all (by omega)] at heq
      rw [digs_trim (hLz.append (Lim.one (by omega))), nv_append, nv_one, hlz, heq] at hO
      exact ⟨_, _, _, rfl, hB, hO, Nat.zero_le _⟩

theorem rd_init {a b j : Nat} (hb : 0 < b) (hj : j = bitn a + 1 - bitn b) : a < b * 2 ^ j := by
  have h1 : a < 2 ^ bitn a := bitn_le.1 (Nat.le_refl _)
  have h0 : 0 < bitn b := bitn_lt.2 (by omega)
  have h2 : 2 ^ (bitn b - 1) ≤ b := bitn_lt.1 (by omega)
  have h3 : 2 ^ (bitn b - 1) * 2 ^ j ≤ b * 2 ^ j := Nat.mul_le_mul_right _ h2
  rw [← Nat.pow_add] at h3
  have h4 : 2 ^ bitn a ≤ 2 ^ (bitn b - 1 + j) := Nat.pow_le_pow_right (by decide) (by omega)
  omega
theorem rd_quo {a b q r : Nat} (hb : 0 < b) (h : a = q * b + r) : q ≤ a := by
  have := Nat.le_mul_of_pos_right q hb
  omega
theorem rd_room {b n k c : Nat} (hb : b < 4294967296 ^ n) (hk : k ≤ 32 * c) : b * 2 ^ k < 4294967296 ^ (n + c) := by
  rw [Nat.pow_add, pow32 c]
  exact Nat.lt_of_le_of_lt (Nat.mul_le_mul_left b (Nat.pow_le_pow_right (by decide) hk)) ((Nat.mul_lt_mul_right (Nat.pow_pos (by decide))).2 hb)
theorem rd_take {a b q r i : Nat} (h : a = q * b + r) (hi : b * 2 ^ i ≤ r) : a = (q + 2 ^ i) * b + (r - b * 2 ^ i) := by
  rw [Nat.add_mul, Nat.mul_comm (2 ^ i) b]
  omega
theorem rd_less {b r j : Nat} (hj : 0 < j) (h : r < b * 2 ^ j) (h2 : b * 2 ^ (j - 1) ≤ r) : r - b * 2 ^ (j - 1) < b * 2 ^ (j - 1) := by
  rw [show j = (j - 1) + 1 by omega, Nat.pow_succ, ← Nat.mul_assoc] at h
  omega

theorem rDivMod_c {w : World} {Ba : Nat} {Aa : Option Addr} {ma ca : Nat} {xa : List Nat} (ha : Rd Ba w 1 Aa ma ca (us xa)) {Bb : Nat} {Ab : Option Addr} {mb cb : Nat} {xb : List Nat} (hb : Rd Bb w 1 Ab mb cb (us xb)) (hLa : Lim xa) (hLb : Lim xb) (hpos : 0 < nv xb) (hsa : ma ≤ 67108864) (hsb : mb ≤ 67108864) :
    Calls Try.prog 63 #[.slice Aa ma ca, .slice Ab mb cb] w fun e w2 => ∃ v, e = .returned v ∧ (fun v w2 => ∃ A2 m2 c2 A3 m3 c3, v = .tuple #[.slice A2 m2 c2, .slice A3 m3 c3] ∧ w.grownBy w2 none ∧ Own w.heap.size w2 43 1 A2 m2 c2 (us (digs (nv xa / nv xb))) ∧ Own w.heap.size w2 43 1 A3 m3 c3 (us (digs (nv xa % nv xb))) ∧ 0 ≤ m2) v w2 := by
  have ha := ha.norm
  have ha_l := ha.ulen
  have ha_x := ha.max
  simp only [maxLen] at ha_x
  have ha_c := ha.cap
  have hb := hb.norm
  have hb_l := hb.ulen
  have hb_x := hb.max
  simp only [maxLen] at hb_x
  have hb_c := hb.cap
  have ha0 := ha
  have hb0 := hb
  have hbx := bitn_len hLa
  have hby := bitn_len hLb
  obtain ⟨j0, hj0⟩ : ∃ j0, j0 = bitn (nv xa) + 1 - bitn (nv xb) := ⟨_, rfl⟩
  have hinit := rd_init hpos hj0
  have hb1 : 0 < bitn (nv xb) := bitn_lt.2 (by omega)
  have hxa := nv_lt hLa
  rw [ha_l] at hxa
  have hxb := nv_lt hLb
  rw [hb_l] at hxb
  have hB := ext_refl w
  refine calls_of_W (vs := [.slice Aa ma ca, .slice Ab mb cb]) [4, 5] Try.func63 rfl rfl rfl rfl ?_
  refine W.seq ?_
  refine W.region ?_
  refine WL.assign rfl rfl ?_
  refine WL.assign rfl rfl ?_
  refine WL.done ?_
  refine W.seq ?_
  refine W.region ?_
  refine WL.move rfl rfl ?_
  refine WL.call Try.func88 rfl Try.nm88 rfl rfl (rTrim_c ha (by omega)) ?_
  rintro _ w11 ⟨A12, m13, cp14, rfl, hGw11, hr, hm15⟩
  have hr := hr.low (b' := w.heap.size) hB.size
  have hB := ext_trans hB hGw11
  have ha := ha0.ext hB
  have hb := hb0.ext hB
  have hr_l := hr.rd.ulen
  refine WL.assign rfl rfl ?_
  refine WL.done ?_
  refine W.seq ?_
  refine W.region ?_
  refine WL.move rfl rfl ?_
  refine WL.call Try.func89 rfl Try.nm89 rfl rfl (rBits_c ha hLa (by omega)) ?_
  rintro _ w16 ⟨rfl, hGw16⟩
  have hB := ext_trans hB hGw16
  have hb := hb0.ext hB
  have hr := hr.ext hGw16
  refine WL.move rfl rfl ?_
  refine WL.call Try.func89 rfl Try.nm89 rfl rfl (rBits_c hb hLb (by omega)) ?_
  rintro _ w17 ⟨rfl, hGw17⟩
  have hB := ext_trans hB hGw17
  have hb := hb0.ext hB
  have hr := hr.ext hGw17
  refine WL.sub (r := (((bitn (nv xa) : Nat) : Int) - ((bitn (nv xb) : Nat) : Int))) rfl rfl (wi64 (by omega) (by omega) (by omega)) rfl ?_
  refine WL.assign rfl rfl ?_
  refine WL.done ?_
  refine W.seq ?_
  refine W.seq ?_
  refine W.region ?_
  refine WL.move rfl rfl ?_
  refine WL.assign rfl rfl ?_
  refine WL.done ?_
  refine W.block ?_
  refine W.loop (σ := Nat × Int × Nat × Nat × Option Addr × Nat × Nat × Option Addr × Nat × Nat) (fun s w1 => match s with | (j, z, qq, rm, Aq, mq, cq, Ar, mr, cr) => w.grownBy w1 none ∧ ((0 ≤ z ∧ z = (j : Int) - 1) ∨ (z < 0 ∧ j = 0)) ∧ j ≤ bitn (nv xa) + 1 ∧ nv xa = qq * nv xb + rm ∧ rm < nv xb * 2 ^ j ∧ Own w.heap.size w1 43 1 Aq mq cq (us (digs qq)) ∧ Own w.heap.size w1 43 1 Ar mr cr (us (digs rm))) (fun s => match s with | (j, z, qq, rm, Aq, mq, cq, Ar, mr, cr) => [(1, .slice Ab mb cb), (4, .slice Aq mq cq), (5, .slice Ar mr cr), (7, .int .i64 z)]) (fun s => match s with | (j, z, qq, rm, Aq, mq, cq, Ar, mr, cr) => j) (j0, ((bitn (nv xa) : Nat) : Int) - ((bitn (nv xb) : Nat) : Int), 0, nv xa, none, 0, 0, A12, m13, cp14) ?_ ?_ ?_
  · exact ⟨hB, by omega, by omega, by omega, hinit, World.ownsRow_nil _ _ _ _, by rw [← digs_trim hLa]; exact hr⟩
  · exact ⟨rfl, rfl, rfl, iv (by omega), trivial⟩
  · rintro ⟨j, z, qq, rm, Aq, mq, cq, Ar, mr, cr⟩ w18 ⟨hB, hz, hj, heq, hlt, hq, hr⟩
    have hb := hb0.ext hB
    have hq_l := hq.rd.ulen
    have hr_l := hr.rd.ulen
    have hqa := rd_quo hpos heq
    have hra : rm ≤ nv xa := by omega
    have hql := digs_len (Nat.lt_of_le_of_lt hqa hxa)
    have hrl := digs_len (Nat.lt_of_le_of_lt hra hxa)
    refine W.seq ?_
    refine W.seq ?_
    refine W.region ?_
    refine WL.move rfl rfl ?_
    refine WL.geq rfl rfl rfl (fun c19 => ?_) (fun c19 => ?_)
    · refine WL.done ?_
      refine W.condT rfl ?_
      refine W.skip ?_
      refine W.seq ?_
      refine W.block ?_
      refine W.seq ?_
      refine W.region ?_
      refine WL.move rfl rfl ?_
      refine WL.move rfl rfl ?_
      have hjp : 0 < j := by omega
      have htl : (digs (nv xb * 2 ^ (j - 1))).length ≤ mb + (ma + 1) := digs_len (rd_room hxb (by omega))
      refine WL.call Try.func90 rfl Try.nm90 rfl rfl (shift_c hb hLb (j - 1) (by omega) (by omega) (by omega)) ?_
      rintro _ w20 ⟨A21, m22, cp23, rfl, hGw20, ht, hm24⟩
      have ht := ht.low (b' := w.heap.size) hB.size
      have hB := ext_trans hB hGw20
      have hq := hq.ext hGw20
      have hr := hr.ext hGw20
      have ht_l := ht.rd.ulen
      refine WL.assign rfl rfl ?_
      refine WL.done ?_
      refine W.seq ?_
      refine W.region ?_
      refine WL.move rfl rfl ?_
      refine WL.move rfl rfl ?_
      refine WL.call Try.func70 rfl Try.nm70 rfl rfl (rCmp_c hr.rd ht.rd (digs_lim _) (digs_lim _)) ?_
      rintro _ w25 ⟨rfl, hGw25⟩
      have hB := ext_trans hB hGw25
      have hq := hq.ext hGw25
      have hr := hr.ext hGw25
      have ht := ht.ext hGw25
      have e1 := nv_digs rm
      have e2 := nv_digs (nv xb * 2 ^ (j - 1))
      have hcc := cmpI_cases (nv (digs rm)) (nv (digs (nv xb * 2 ^ (j - 1))))
      refine WL.geq rfl rfl rfl (fun c26 => ?_) (fun c26 => ?_)
      · refine WL.done ?_
        refine W.condT rfl ?_
        refine W.seq ?_
        refine W.region ?_
        refine WL.move rfl rfl ?_
        refine WL.move rfl rfl ?_
        refine WL.call Try.func71 rfl Try.nm71 rfl rfl (rSub_c hr.rd ht.rd (digs_lim _) (digs_lim _) (by omega) (by omega)) ?_
        rintro _ w27 ⟨A28, m29, cp30, rfl, hGw27, hr2, hm31⟩
        have hr2 := hr2.low (b' := w.heap.size) hB.size
        have hB := ext_trans hB hGw27
        have hq := hq.ext hGw27
        have hr2_l := hr2.rd.ulen
        rw [nv_digs, nv_digs] at hr2
        refine WL.assign rfl rfl ?_
        refine WL.done ?_
        refine W.region ?_
        refine WL.move rfl rfl ?_
        refine WL.lit1 (b := w27.heap.size) Try.underlying23 Try.el43 rfl rfl rfl rfl (by intro v hv; simp only [List.mem_cons, List.not_mem_nil, or_false] at hv; rcases hv with rfl <;> rfl) (Nat.le_refl _) rfl ?_
        rintro A32 w33 - hO34 hGw33
        have hO34 := hO34.low (b' := w.heap.size) hB.size
        have hB := ext_trans hB hGw33
        have hq := hq.ext hGw33
        have hr2 := hr2.ext hGw33
        change Own _ _ _ _ _ _ _ (us [1]) at hO34
        refine WL.move rfl rfl ?_
        refine WL.call Try.func90 rfl Try.nm90 rfl rfl (shift_c hO34.rd (by intro x hx; simp only [List.mem_cons, List.not_mem_nil, or_false] at hx; omega) (j - 1) (by omega) (by omega) (by omega)) ?_
        rintro _ w35 ⟨A36, m37, cp38, rfl, hGw35, h1, hm39⟩
        have h1 := h1.low (b' := w.heap.size) hB.size
        have hB := ext_trans hB hGw35
        have hq := hq.ext hGw35
        have hr2 := hr2.ext hGw35
        have h1_l := h1.rd.ulen
        rw [nv_one, Nat.one_mul] at h1
        have h1_k := h1.rd.ulen
        have h1l : (digs (2 ^ (j - 1))).length ≤ mb + (ma + 1) := digs_len (Nat.lt_of_le_of_lt (Nat.le_mul_of_pos_left _ hpos) (rd_room hxb (by omega)))
        refine WL.call Try.func69 rfl Try.nm69 rfl rfl (rAdd_c hq.rd h1.rd (digs_lim _) (digs_lim _) (by omega) (by omega)) ?_
        rintro _ w40 ⟨A41, m42, cp43, rfl, hGw40, hq2, hm44⟩
        have hq2 := hq2.low (b' := w.heap.size) hB.size
        have hB := ext_trans hB hGw40
        have hr2 := hr2.ext hGw40
        have hq2_l := hq2.rd.ulen
        rw [nv_digs, nv_digs] at hq2
        refine WL.assign rfl rfl ?_
        refine WL.done ?_
        refine W.region ?_
        refine WL.move rfl rfl ?_
        refine WL.sub (r := (z - (1 : Int))) rfl rfl (wi64 (by omega) (by omega) (by omega)) rfl ?_
        refine WL.assign rfl rfl ?_
        refine WL.done ?_
        refine ⟨(j - 1, z - 1, qq + 2 ^ (j - 1), rm - nv xb * 2 ^ (j - 1), _, _, _, _, _, _), ⟨rfl, rfl, rfl, iv (by omega), trivial⟩, by (dsimp only; omega), ?_⟩
        exact ⟨hB, by omega, by omega, rd_take heq (by omega), rd_less (by omega) hlt (by omega), hq2, hr2⟩
      · refine WL.done ?_
        refine W.condF rfl ?_
        refine W.skip ?_
        refine W.region ?_
        refine WL.move rfl rfl ?_
        refine WL.sub (r := (z - (1 : Int))) rfl rfl (wi64 (by omega) (by omega) (by omega)) rfl ?_
        refine WL.assign rfl rfl ?_
        refine WL.done ?_
        refine ⟨(j - 1, z - 1, qq, rm, _, _, _, _, _, _), ⟨rfl, rfl, rfl, iv (by omega), trivial⟩, by (dsimp only; omega), ?_⟩
        exact ⟨hB, by omega, by omega, heq, by omega, hq, hr⟩
    · refine WL.done ?_
      refine W.condF rfl ?_
      refine W.exit ?_
      refine W.seq ?_
      refine W.region ?_
      refine WL.move rfl rfl ?_
      refine WL.call Try.func88 rfl Try.nm88 rfl rfl (rTrim_c hq.rd (by omega)) ?_
      rintro _ w45 ⟨A46, m47, cp48, rfl, hGw45, hQ, hm49⟩
      have hQ := hQ.low (b' := w.heap.size) hB.size
      have hB := ext_trans hB hGw45
      have hr := hr.ext hGw45
      have hQ_l := hQ.rd.ulen
      refine WL.move rfl rfl ?_
      refine WL.assign rfl rfl ?_
      refine WL.assign rfl rfl ?_
      refine WL.done ?_
      refine W.ret ?_
      refine ⟨_, rfl, ?_⟩
      obtain rfl : j = 0 := by omega
      rw [Nat.pow_zero, Nat.mul_one] at hlt
      obtain ⟨d1, d2⟩ := div_end heq hlt
      rw [digs_trim (digs_lim _), nv_digs, d1] at hQ
      rw [d2] at hr
      exact ⟨_, _, _, _, _, _, rfl, hB, hQ, hr, Nat.zero_le _⟩

theorem gcd_step (x y : Nat) : Nat.gcd y (x % y) = Nat.gcd x y := by
  have h1 := Nat.gcd_rec y x
  rw [Nat.gcd_comm x y, h1, Nat.gcd_comm]
theorem Zero_c {w : World} {Ba : Nat} {Aa : Option Addr} {ma ca : Nat} {xa : List Nat} (ha : Rd Ba w 1 Aa ma ca (us xa)) (hLa : Lim xa) (hs : ma ≤ 1099511627776) : Calls Try.prog 61 #[.slice Aa ma ca] w fun e w2 => ∃ v, e = .returned v ∧ (fun v w2 => ∃ b : Bool, v = .bool b ∧ w.grownBy w2 none ∧ (b = true → nv xa = 0) ∧ (b = false → 0 < nv xa)) v w2 := by
  rcases Nat.eq_zero_or_pos (nv xa) with h | h
  · exact (Zero_t ha hLa h hs).mono fun e w2 ⟨v, he, hv, hw⟩ => ⟨v, he, true, hv, hw, (fun _ => h), (fun h => by cases h)⟩
  · exact (Zero_f ha hLa h hs).mono fun e w2 ⟨v, he, hv, hw⟩ => ⟨v, he, false, hv, hw, (fun h => by cases h), (fun _ => h)⟩

theorem rGcd_c {w : World} {Ba : Nat} {Aa : Option Addr} {ma ca : Nat} {xa : List Nat} (ha : Rd Ba w 1 Aa ma ca (us xa)) {Bb : Nat} {Ab : Option Addr} {mb cb : Nat} {xb : List Nat} (hb : Rd Bb w 1 Ab mb cb (us xb)) (hLa : Lim xa) (hLb : Lim xb) (hsa : ma ≤ 67108864) (hsb : mb ≤ 67108864) :
    Calls Try.prog 62 #[.slice Aa ma ca, .slice Ab mb cb] w fun e w2 => ∃ v, e = .returned v ∧ (fun v w2 => ∃ A2 m2 c2, v = .slice A2 m2 c2 ∧ w.grownBy w2 none ∧ Own w.heap.size w2 43 1 A2 m2 c2 (us (digs (Nat.gcd (nv xa) (nv xb)))) ∧ 0 ≤ m2) v w2 := by
  have ha := ha.norm
  have ha_l := ha.ulen
  have ha_x := ha.max
  simp only [maxLen] at ha_x
  have ha_c := ha.cap
  have hb := hb.norm
  have hb_l := hb.ulen
  have hb_x := hb.max
  simp only [maxLen] at hb_x
  have hb_c := hb.cap
  have ha0 := ha
  have hb0 := hb
  have hB := ext_refl w
  refine calls_of_W (vs := [.slice Aa ma ca, .slice Ab mb cb]) [4] Try.func62 rfl rfl rfl rfl ?_
  refine W.seq ?_
  refine W.region ?_
  refine WL.assign rfl rfl ?_
  refine WL.done ?_
  refine W.seq ?_
  refine W.block ?_
  refine W.loop (σ := List Nat × List Nat × Option Addr × Nat × Nat × Option Addr × Nat × Nat) (fun s w1 => match s with | (xs, ys, Ax, mx, cx, Ay, my, cy) => w.grownBy w1 none ∧ Lim xs ∧ Lim ys ∧ Nat.gcd (nv xs) (nv ys) = Nat.gcd (nv xa) (nv xb) ∧ mx ≤ 67108864 ∧ my ≤ 67108864 ∧ Rd w1.heap.size w1 1 Ax mx cx (us xs) ∧ Rd w1.heap.size w1 1 Ay my cy (us ys)) (fun s => match s with | (xs, ys, Ax, mx, cx, Ay, my, cy) => [(0, .slice Ax mx cx), (1, .slice Ay my cy)]) (fun s => match s with | (xs, ys, Ax, mx, cx, Ay, my, cy) => nv ys) (xa, xb, Aa, ma, ca, Ab, mb, cb) ?_ ?_ ?_
  · exact ⟨hB, hLa, hLb, rfl, hsa, hsb, ha.norm, hb.norm⟩
  · exact ⟨rfl, rfl, trivial⟩
  · rintro ⟨xs, ys, Ax, mx, cx, Ay, my, cy⟩ w11 ⟨hB, hLx, hLy, hg, hmx, hmy, hx, hy⟩
    have hx_l := hx.ulen
    have hy_l := hy.ulen
    have hyb := nv_lt hLy
    rw [hy_l] at hyb
    refine W.seq ?_
    refine W.seq ?_
    refine W.region ?_
    refine WL.move rfl rfl ?_
    refine WL.call Try.func61 rfl Try.nm61 rfl rfl (Zero_c hy hLy (by omega)) ?_
    rintro _ w12 ⟨bz, rfl, hGw12, hz1, hz2⟩
    have hB := ext_trans hB hGw12
    have hx := hx.ext hGw12
    have hy := hy.ext hGw12
    rcases bz with _ | _
    · have hzp := hz2 rfl
      refine WL.not rfl rfl ?_
      refine WL.done ?_
      refine W.condT rfl ?_
      refine W.skip ?_
      refine W.block ?_
      refine W.seq ?_
      refine W.region ?_
      refine WL.move rfl rfl ?_
      refine WL.move rfl rfl ?_
      refine WL.call Try.func63 rfl Try.nm63 rfl rfl (rDivMod_c hx hy hLx hLy hzp (by omega) (by omega)) ?_
      rintro _ w13 ⟨A2, m2, c2, A3, m3, c3, rfl, hGw13, hdq, hdr, hm9⟩
      have hdq := hdq.low (b' := w.heap.size) hB.size
      have hdr := hdr.low (b' := w.heap.size) hB.size
      have hB := ext_trans hB hGw13
      have hy := hy.ext hGw13
      have hdq_l := hdq.rd.ulen
      have hdr_l := hdr.rd.ulen
      refine WL.move rfl rfl ?_
      refine WL.extract rfl rfl rfl ?_
      refine WL.extract rfl rfl rfl ?_
      refine WL.assign rfl rfl ?_
      refine WL.assign rfl rfl ?_
      refine WL.done ?_
      refine W.seq ?_
      refine W.region ?_
      refine WL.move rfl rfl ?_
      refine WL.assign rfl rfl ?_
      refine WL.done ?_
      refine W.region ?_
      refine WL.move rfl rfl ?_
      refine WL.assign rfl rfl ?_
      refine WL.done ?_
      refine ⟨(ys, digs (nv xs % nv ys), Ay, my, cy, _, _, _), ⟨rfl, rfl, trivial⟩, by (dsimp only; rw [nv_digs]; exact Nat.mod_lt _ hzp), ?_⟩
      have hk := hdr.rd.ulen
      have hk2 := digs_len (Nat.lt_trans (Nat.mod_lt (nv xs) hzp) hyb)
      exact ⟨hB, hLy, digs_lim _, by rw [nv_digs, gcd_step]; exact hg, hmy, by omega, hy.norm, hdr.rd.norm⟩
    · have hz0 := hz1 rfl
      refine WL.not rfl rfl ?_
      refine WL.done ?_
      refine W.condF rfl ?_
      refine W.exit ?_
      refine W.seq ?_
      refine W.region ?_
      refine WL.move rfl rfl ?_
      refine WL.call Try.func88 rfl Try.nm88 rfl rfl (rTrim_c hx (by omega)) ?_
      rintro _ w14 ⟨A15, m16, cp17, rfl, hGw14, hO, hm18⟩
      have hO := hO.low (b' := w.heap.size) hB.size
      have hB := ext_trans hB hGw14
      have hO_l := hO.rd.ulen
      refine WL.assign rfl rfl ?_
      refine WL.done ?_
      refine W.ret ?_
      refine ⟨_, rfl, ?_⟩
      rw [hz0, Nat.gcd_zero_right] at hg
      rw [digs_trim hLx, hg] at hO
      exact ⟨_, _, _, rfl, hB, hO, Nat.zero_le _⟩
end Go.Proofs.Ythfpcebcfjlkmab
set_option linter.unusedSimpArgs false
set_option linter.unusedVariables false
namespace Go.Proofs.Ythfpcebcfjlkmab
theorem lr1 (e D X Y a b u v : Int) : e * (u * (D * X + a) - v * (D * Y + b)) = D * (e * (u * X - v * Y)) + e * (u * a - v * b) := by grind
theorem lr2 (e p q r s k A B : Int) : e * (p * A - q * B) - k * (e * (s * B - r * A)) = e * ((p + k * r) * A - (q + k * s) * B) := by grind
theorem lr3 (e u v A B : Int) : e * (u * A - v * B) = -e * (v * B - u * A) := by grind
/-- What is known of the cofactors that Euclid's algorithm has led to: e p, -e q and -e r, e s; x and y are the leading digits that are left, R0 and R1 the whole numbers. -/
structure Lh (A B D : Nat) (e : Int) (p q r s x y R0 R1 : Nat) : Prop where
  sg : e = 1 ∨ e = -1
  r0 : (R0 : Int) = e * (p * A - q * B)
  r1 : (R1 : Int) = e * (s * B - r * A)
  x0 : (x : Int) = e * (p * (A / D : Nat) - q * (B / D : Nat))
  y0 : (y : Int) = e * (s * (B / D : Nat) - r * (A / D : Nat))
  hX : A / D = s * x + q * y
  rs : r ≤ s
  s1 : 1 ≤ s
  pq : p ≤ q ∨ (p = 1 ∧ q = 0 ∧ r = 0 ∧ s = 1)
  yx : y ≤ x
  g : Nat.gcd R0 R1 = Nat.gcd A B
  dn : q ≠ 0 → R0 ≤ B ∧ R1 < R0
  q31 : q < 2147483648
  s31 : s < 2147483648

theorem Lh.start {A B D : Nat} (hBA : B ≤ A) : Lh A B D 1 1 0 0 1 (A / D) (B / D) A B :=
  ⟨.inl rfl, by simp, by simp, by simp, by simp, by simp, by omega, by omega, .inr ⟨rfl, rfl, rfl, rfl⟩, Nat.div_le_div_right hBA, rfl, fun h => absurd rfl h, by omega, by omega⟩

section
variable {A B D : Nat} {e : Int} {p q r s x y R0 R1 : Nat}
theorem Lh.p31 (h : Lh A B D e p q r s x y R0 R1) : p < 2147483648 := by
  have := h.pq; have := h.q31; omega
theorem Lh.r31 (h : Lh A B D e p q r s x y R0 R1) : r < 2147483648 := by
  have := h.rs; have := h.s31; omega
/-- What the next step reckons with stays small. -/
theorem Lh.small (h : Lh A B D e p q r s x y R0 R1) (hX : A / D < 4611686018427387904) (hy : y ≠ 0) :
    x / y * s < 4611686018427387904 ∧ x / y * r < 4611686018427387904 ∧ x / y * y ≤ x ∧ x < 4611686018427387904 ∧ 1 ≤ x / y ∧ x / y < 4611686018427387904 ∧ x / y * y + x % y = x := by
  have h1 : x / y * s ≤ x * s := Nat.mul_le_mul_right s (Nat.div_le_self x y)
  have h2 : s * x ≤ A / D := by have := h.hX; omega
  have h3 : x / y * r ≤ x / y * s := Nat.mul_le_mul_left _ h.rs
  have h4 : x / y * y ≤ x := Nat.div_mul_le_self x y
  have h5 : 1 * x ≤ s * x := Nat.mul_le_mul_right x h.s1
  have h6 : x / y ≤ x := Nat.div_le_self x y
  have h7 : 1 ≤ x / y := (Nat.le_div_iff_mul_le (by omega)).2 (by have := h.yx; omega)
  have h8 := Nat.div_add_mod x y
  rw [Nat.mul_comm x s] at h1
  rw [Nat.mul_comm y] at h8
  refine ⟨by omega, by omega, h4, by omega, h7, by omega, h8⟩
theorem Lh.step (h : Lh A B D e p q r s x y R0 R1) (hX : A / D < 4611686018427387904) (hD : 0 < D) (hBA : B ≤ A) (hy : y ≠ 0) (h1 : q + x / y * s ≤ x % y) (h2 : q + x / y * s + s ≤ y - x % y) :
    Lh A B D (-e) r s (p + x / y * r) (q + x / y * s) y (x % y) R1 (R0 - x / y * R1) := by
  obtain ⟨k, hk⟩ : ∃ k, k = x / y := ⟨_, rfl⟩
  obtain ⟨t, ht⟩ : ∃ t, t = x % y := ⟨_, rfl⟩
  obtain ⟨X, hXe⟩ : ∃ X, X = A / D := ⟨_, rfl⟩
  obtain ⟨Y, hYe⟩ : ∃ Y, Y = B / D := ⟨_, rfl⟩
  obtain ⟨hs1, hs2, hs3, hs4, hs5, hs6, hs7⟩ := h.small hX hy
  obtain ⟨sg, r0, r1, x0, y0, hXX, rs, s1, pq, yx, g, dn, q31, s31⟩ := h
  rw [← hXe] at x0 y0 hXX hX
  rw [← hYe] at x0 y0
  rw [← hk, ← ht] at hs7
  rw [← hk] at hs1 hs2 hs3 hs5 hs6 h1 h2 ⊢
  rw [← ht] at h1 h2 ⊢
  have htl : t < y := by rw [ht]; exact Nat.mod_lt _ (by omega)
  obtain ⟨a, ha⟩ : ∃ a, a = A % D := ⟨_, rfl⟩
  obtain ⟨b, hb⟩ : ∃ b, b = B % D := ⟨_, rfl⟩
  have hal : a < D := by rw [ha]; exact Nat.mod_lt _ hD
  have hbl : b < D := by rw [hb]; exact Nat.mod_lt _ hD
  have hA : D * X + a = A := by rw [hXe, ha]; exact Nat.div_add_mod A D
  have hB : D * Y + b = B := by rw [hYe, hb]; exact Nat.div_add_mod B D
  -- the next cofactors
  obtain ⟨na, hna⟩ : ∃ na, na = p + k * r := ⟨_, rfl⟩
  obtain ⟨nb, hnb⟩ : ∃ nb, nb = q + k * s := ⟨_, rfl⟩
  rw [← hnb] at h1 h2 ⊢
  rw [← hna]
  have hkr : k * r ≤ k * s := Nat.mul_le_mul_left k rs
  have hks : 1 * s ≤ k * s := Nat.mul_le_mul_right s hs5
  have hnn : na ≤ nb := by
    rcases pq with h | ⟨h3, h4, h5, h6⟩
    · omega
    · subst h5; subst h6; simp at hkr; rw [hna, hnb]; simp; omega
  -- the next number
  obtain ⟨N, hN⟩ : ∃ N : Int, N = R0 - k * R1 := ⟨_, rfl⟩
  have hN1 : N = e * (na * A - nb * B) := by rw [hN, r0, r1, hna, hnb]; push_cast; exact lr2 ..
  have ht1 : (t : Int) = e * (na * X - nb * Y) := by
    have : (t : Int) = x - k * y := by have : ((k * y + t : Nat) : Int) = x := by rw [hs7]
                                       push_cast at this; omega
    rw [this, x0, y0, hna, hnb]; push_cast; exact lr2 ..
  have hAz : (A : Int) = D * X + a := by rw [← hA]; push_cast; rfl
  have hBz : (B : Int) = D * Y + b := by rw [← hB]; push_cast; rfl
  have hN2 : N = D * t + e * (na * a - nb * b) := by rw [hN1, hAz, hBz, ht1]; exact lr1 ..
  have hR2 : (R1 : Int) = D * y + e * (s * b - r * a) := by rw [r1, hAz, hBz, y0]; exact lr1 e D Y X b a s r
  -- bounds of products
  have m1 : D * nb ≤ D * t := Nat.mul_le_mul_left D h1
  have m2 : nb * b ≤ nb * (D - 1) := Nat.mul_le_mul_left nb (by omega)
  have m3 : na * a ≤ nb * (D - 1) := Nat.mul_le_mul hnn (by omega)
  have m4 : nb * (D - 1) + nb = D * nb := by rw [Nat.mul_comm D nb, ← Nat.mul_succ]; congr 1; omega
  have m5 : D * (nb + s) + D * t ≤ D * y := by rw [← Nat.mul_add]; exact Nat.mul_le_mul_left D (by omega)
  have m6 : s * b ≤ s * (D - 1) := Nat.mul_le_mul_left s (by omega)
  have m7 : r * a ≤ s * (D - 1) := Nat.mul_le_mul rs (by omega)
  have m8 : s * (D - 1) + s = D * s := by rw [Nat.mul_comm D s, ← Nat.mul_succ]; congr 1; omega
  have m9 : D * (nb + s) = D * nb + D * s := Nat.mul_add _ _ _
  have hN0 : 0 ≤ N := by
    rcases sg with e1 | e1 <;> subst e1 <;> rw [hN2] <;> (try simp only [Int.one_mul, Int.neg_mul]) <;> norm_cast <;> omega
  have hNlt : N < R1 := by
    rcases sg with e1 | e1 <;> subst e1 <;> rw [hN2, hR2] <;> (try simp only [Int.one_mul, Int.neg_mul]) <;> norm_cast <;> omega
  have hkR : k * R1 ≤ R0 := by
    have : ((k * R1 : Nat) : Int) ≤ R0 := by push_cast; omega
    omega
  have hNn : ((R0 - k * R1 : Nat) : Int) = N := by rw [Int.ofNat_sub hkR, hN]; push_cast; rfl
  have hX2 : X = nb * y + s * t := by
    rw [hXX, hnb, ← hs7, Nat.mul_add, Nat.add_mul]
    have : s * (k * y) = k * s * y := by ac_rfl
    omega
  refine ⟨by omega, ?_, ?_, ?_, ?_, ?_, hnn, by omega, .inl rs, by omega, ?_, ?_, s31, ?_⟩
  · rw [r1]; exact lr3 e s r B A
  · rw [hNn, hN1]; exact lr3 ..
  · rw [← hXe, ← hYe, y0]; exact lr3 ..
  · rw [← hXe, ← hYe, ht1]; exact lr3 ..
  · rw [← hXe]; exact hX2
  · rw [← g]
    have e1 : R0 = (R0 - k * R1) + k * R1 := by omega
    conv => rhs; rw [e1]
    rw [Nat.gcd_add_mul_right_left, Nat.gcd_comm]
  · intro _
    refine ⟨?_, by omega⟩
    rcases Nat.eq_zero_or_pos q with hq0 | hq0
    · rcases pq with h3 | ⟨h3, h4, h5, h6⟩
      · have hp0 : p = 0 := by omega
        subst hq0; subst hp0; simp at x0; omega
      · subst h3; subst h4; subst h5; subst h6
        simp at r0 r1
        rcases sg with e1 | e1 <;> subst e1 <;> omega
    · have := dn (by omega); omega
  · rcases Nat.lt_or_ge nb 2147483648 with h3 | h3
    · exact h3
    · exfalso
      have h4 : 2147483648 * 2147483648 ≤ nb * y := Nat.mul_le_mul h3 (by omega)
      omega
end
end Go.Proofs.Ythfpcebcfjlkmab
set_option linter.unusedSimpArgs false
set_option linter.unusedVariables false
namespace Go.Proofs.Ythfpcebcfjlkmab
open Go.RowKit
/-! ### the leading digits -/
theorem lead_eq {l : List Nat} (hL : Lim l) {i s : Nat} (hs : s ≤ 31) (h : nv l < 2 ^ (32 * i + s + 62)) :
    (l.getD (i + 1) 0 + 4294967296 * l.getD (i + 2) 0) * 2 ^ (32 - s) + l.getD i 0 / 2 ^ s = nv l / 2 ^ (32 * i + s) ∧ l.getD (i + 1) 0 + 4294967296 * l.getD (i + 2) 0 < 2 ^ (30 + s) := by
  have h1 := nv_split l i
  have h2 := hL.take_lt i
  have hp : 0 < 4294967296 ^ i := Nat.pow_pos (by decide)
  have h3 : nv l / 2 ^ (32 * i + s) = nv (l.drop i) / 2 ^ s := by
    rw [Nat.pow_add, ← pow32, ← Nat.div_div_eq_div_mul]
    congr 1
    rw [h1, Nat.add_mul_div_left _ _ hp, Nat.div_eq_of_lt h2, Nat.zero_add]
  have h4 : nv (l.drop i) < 2 ^ (62 + s) := by
    have h5 : 4294967296 ^ i * nv (l.drop i) < 4294967296 ^ i * 2 ^ (62 + s) := by
      rw [pow32, ← Nat.pow_add, ← pow32, show 32 * i + (62 + s) = 32 * i + s + 62 by omega]
      omega
    exact Nat.lt_of_mul_lt_mul_left h5
  have h6 : 2 ^ (62 + s) ≤ 2 ^ 93 := Nat.pow_le_pow_right (by decide) (by omega)
  have h7 := nv_drop l i
  have h8 : nv (l.drop (i + 1)) = l.getD (i + 1) 0 + 4294967296 * nv (l.drop (i + 2)) := nv_drop l (i + 1)
  have h9 : nv (l.drop (i + 2)) = l.getD (i + 2) 0 + 4294967296 * nv (l.drop (i + 3)) := nv_drop l (i + 2)
  have h10 : nv (l.drop (i + 3)) = 0 := by
    rcases Nat.eq_zero_or_pos (nv (l.drop (i + 3))) with h | h
    · exact h
    · exfalso
      have : 2 ^ 93 = 9903520314283042199192993792 := by decide
      omega
  replace h9 : nv (l.drop (i + 2)) = l.getD (i + 2) 0 := by omega
  rw [h9] at h8
  rw [h8] at h7
  obtain ⟨ab, hab⟩ : ∃ ab, ab = l.getD (i + 1) 0 + 4294967296 * l.getD (i + 2) 0 := ⟨_, rfl⟩
  rw [← hab] at h7 ⊢
  have e1 : 4294967296 = 2 ^ s * 2 ^ (32 - s) := by rw [← Nat.pow_add, show s + (32 - s) = 32 by omega]
  have hps : 0 < 2 ^ s := Nat.pow_pos (by decide)
  refine ⟨?_, ?_⟩
  · rw [h3, h7]
    have e2 : 4294967296 * ab = 2 ^ s * (ab * 2 ^ (32 - s)) := by rw [e1]; ac_rfl
    rw [e2, Nat.add_mul_div_left _ _ hps, Nat.add_comm]
  · have e3 : 2 ^ (62 + s) = 4294967296 * 2 ^ (30 + s) := by rw [show 62 + s = 32 + (30 + s) by omega, Nat.pow_add]
    omega
theorem lead_room {ab s : Nat} (hs : s ≤ 31) (h : ab < 2 ^ (30 + s)) : ab * 2 ^ (32 - s) < 4611686018427387904 := by
  have h1 : ab * 2 ^ (32 - s) < 2 ^ (30 + s) * 2 ^ (32 - s) := (Nat.mul_lt_mul_right (Nat.pow_pos (by decide))).2 h
  rw [← Nat.pow_add, show 30 + s + (32 - s) = 62 by omega] at h1
  exact h1
theorem lead_low {x s : Nat} (hs : s ≤ 31) (hx : x < 4294967296) : x / 2 ^ s < 2 ^ (32 - s) := by
  rw [Nat.div_lt_iff_lt_mul (Nat.pow_pos (by decide)), ← Nat.pow_add, show 32 - s + s = 32 by omega]
  exact hx
/-- Two numbers whose digits do not meet: their bits together are their sum. -/
theorem or_apart {P : Program} {w : World} {a b k : Nat} (hb : b < 2 ^ k) (hm : a * 2 ^ k + b < 18446744073709551616) :
    (Op.intBits .or .u64 ((a * 2 ^ k : Nat) : Int) ((b : Nat) : Int)).run P w = .ok (.int .u64 ((a * 2 ^ k + b : Nat) : Int)) w := by
  have h0 : a * 2 ^ k ||| b = a * 2 ^ k + b := by rw [Nat.mul_comm, ← Nat.two_pow_add_eq_or_of_lt hb]
  generalize a * 2 ^ k = c at *
  have e1 : (BitVec.ofInt 64 ((c : Nat) : Int) ||| BitVec.ofInt 64 (b : Int)).toNat = c + b := by
    rw [BitVec.ofInt_natCast, BitVec.ofInt_natCast, BitVec.toNat_or, BitVec.toNat_ofNat, BitVec.toNat_ofNat, Nat.mod_eq_of_lt (by omega), Nat.mod_eq_of_lt (by omega), h0]
  have e2 : IntKind.u64.wrap ((c + b : Nat) : Int) = ((c + b : Nat) : Int) := wu64 (by omega) (by omega) rfl
  show Result.ok (Value.int .u64 (IntKind.u64.wrap ((BitVec.ofInt 64 ((c : Nat) : Int) ||| BitVec.ofInt 64 (b : Int)).toNat : Int))) w = _
  rw [e1, e2]
/-! ### combine -/
theorem cmb_step {zs : List Nat} {i : Nat} {c s T u : Int} (hi : i < zs.length) (h0 : zs.getD i 0 = 0) (h : (nv zs : Int) + 4294967296 ^ i * c = T) (hs : s = c + u) :
    (nv (zs.set i (s % 4294967296).toNat) : Int) + 4294967296 ^ (i + 1) * (s / 4294967296) = T + 4294967296 ^ i * u := by
  have h1 := nv_set (l := zs) (k := i) (s % 4294967296).toNat hi
  rw [h0, Nat.mul_zero, Nat.add_zero] at h1
  have h2 : (((s % 4294967296).toNat : Nat) : Int) = s % 4294967296 := Int.toNat_of_nonneg (Int.emod_nonneg _ (by decide))
  have h3 := Int.emod_add_mul_ediv s 4294967296
  rw [h1, Int.natCast_add, Int.natCast_mul, Int.natCast_pow, h2, ← h]
  rw [show ((4294967296 : Nat) : Int) = 4294967296 from rfl]
  have h4 : (4294967296 : Int) ^ (i + 1) = 4294967296 ^ i * 4294967296 := Int.pow_succ ..
  rw [h4]
  generalize (4294967296 : Int) ^ i = Q at *
  have h5 : Q * 4294967296 * (s / 4294967296) = Q * (4294967296 * (s / 4294967296)) := Int.mul_assoc ..
  rw [h5, Int.add_assoc, ← Int.mul_add, h3, hs, Int.mul_add]
  omega
/-- Cofactors of unlike signs. -/
def Un (a b : Int) : Prop := (0 ≤ a ∧ a ≤ 2147483647 ∧ b ≤ 0 ∧ -2147483647 ≤ b) ∨ (0 ≤ b ∧ b ≤ 2147483647 ∧ a ≤ 0 ∧ -2147483647 ≤ a)
theorem mul_pos_room {x : Nat} {a : Int} (hx : x < 4294967296) (h0 : 0 ≤ a) (h1 : a ≤ 2147483647) : 0 ≤ (x : Int) * a ∧ (x : Int) * a ≤ 9223372030412324865 := by
  refine ⟨Int.mul_nonneg (by omega) h0, ?_⟩
  have h2 : (x : Int) * a ≤ 4294967295 * a := Int.mul_le_mul_of_nonneg_right (by omega) h0
  omega
theorem mul_neg_room {x : Nat} {a : Int} (hx : x < 4294967296) (h0 : a ≤ 0) (h1 : -2147483647 ≤ a) : (x : Int) * a ≤ 0 ∧ -9223372030412324865 ≤ (x : Int) * a := by
  have := mul_pos_room (x := x) (a := -a) hx (by omega) (by omega)
  rw [Int.mul_neg] at this
  omega
theorem un_room {x y : Nat} {a b : Int} (hx : x < 4294967296) (hy : y < 4294967296) (h : Un a b) :
    (-9223372030412324865 ≤ (x : Int) * a ∧ (x : Int) * a ≤ 9223372030412324865) ∧ (-9223372030412324865 ≤ (y : Int) * b ∧ (y : Int) * b ≤ 9223372030412324865) ∧ (-9223372030412324865 ≤ (x : Int) * a + (y : Int) * b ∧ (x : Int) * a + (y : Int) * b ≤ 9223372030412324865) := by
  rcases h with ⟨h1, h2, h3, h4⟩ | ⟨h1, h2, h3, h4⟩
  · have := mul_pos_room hx h1 h2; have := mul_neg_room hy h3 h4; omega
  · have := mul_pos_room hy h1 h2; have := mul_neg_room hx h3 h4; omega
theorem cmb_end {z M : Nat} {c R : Int} (h : (z : Int) + M * c = R) (hz : z < M) (h0 : 0 ≤ R) (hR : R < M) : (z : Int) = R := by
  have hM : (0 : Int) < M := by omega
  have hc : c = 0 := by
    rcases Int.lt_trichotomy c 0 with h1 | h1 | h1
    · have : (M : Int) * c ≤ M * (-1) := Int.mul_le_mul_of_nonneg_left (by omega) (by omega)
      omega
    · exact h1
    · have : (M : Int) * 1 ≤ M * c := Int.mul_le_mul_of_nonneg_left (by omega) (by omega)
      omega
  subst hc; omega
/-- What the cofactors are. -/
theorem Lh.un0 {A B D : Nat} {e : Int} {p q r s x y R0 R1 : Nat} (h : Lh A B D e p q r s x y R0 R1) : Un (e * p) (-(e * q)) := by
  have h1 := h.p31; have h2 := h.q31
  rcases h.sg with e1 | e1 <;> subst e1 <;> unfold Un <;> omega
theorem Lh.un1 {A B D : Nat} {e : Int} {p q r s x y R0 R1 : Nat} (h : Lh A B D e p q r s x y R0 R1) : Un (-(e * r)) (e * s) := by
  have h1 := h.r31; have h2 := h.s31
  rcases h.sg with e1 | e1 <;> subst e1 <;> unfold Un <;> omega
end Go.Proofs.Ythfpcebcfjlkmab
