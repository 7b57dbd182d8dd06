/- Contracts of functions of the program, and what they lean on. -/
import Derived.Test.YthfpcebcfjlkmabW12
set_option linter.unusedSimpArgs false
set_option linter.unusedVariables false
namespace Go.Proofs.Ythfpcebcfjlkmab
open Go.RowKit
theorem addb_c {w : World} {b0 : Nat} {Ar : Option Addr} {mr cr : Nat} {xr : List Nat} (ho : Own b0 w 43 1 Ar mr cr (us xr)) (hLr : Lim xr) (o n : Nat) {cw : Nat} {Bb : Nat} {Ab : Option Addr} {cb : Nat} {xb : List Nat} (hb : Rd Bb w 1 Ab n cb (us xb)) (hLb : Lim xb) (hrow : ∀ g, bl Ar = some g → Bb ≤ g) (hon : o + n + 1 ≤ mr) (hsz : mr ≤ 1099511627776) :
    Calls Try.prog 107 #[.slice (Ar.map (·.add o)) (n + 1) cw, .slice Ab n cb] w fun e w2 => ∃ v, e = .returned v ∧ (fun _ w2 => ∃ ys e, w.grownBy w2 (bl Ar) ∧ Own b0 w2 43 1 Ar mr cr (us ys) ∧ Lim ys ∧ ys.length = mr ∧ (∀ t, (t < o ∨ o + n + 1 ≤ t) → ys.getD t 0 = xr.getD t 0) ∧ e ≤ 1 ∧ nv ys + 4294967296 ^ (o + (n + 1)) * e = nv xr + 4294967296 ^ o * nv xb) v w2 := by
  have ho_l := ho.rd.ulen
  have hb_l := hb.ulen
  have hb_x := hb.max
  simp only [maxLen] at hb_x
  have hb_c := hb.cap
  have hb0 := hb
  have hB := World.grownBy.refl w (bl Ar)
  refine calls_of_W (vs := [.slice (Ar.map (·.add o)) (n + 1) cw, .slice Ab n cb]) [] Try.func107 rfl rfl rfl rfl ?_
  refine W.seq ?_
  refine W.region ?_
  refine WL.assign rfl rfl ?_
  refine WL.done ?_
  refine W.seq ?_
  refine W.region ?_
  refine WL.move rfl rfl ?_
  refine WL.len Try.underlying23 rfl rfl ?_
  refine WL.move rfl rfl ?_
  refine WL.done ?_
  refine W.block ?_
  refine W.loop (σ := Nat × Nat × List Nat) (fun s w1 => match s with | (i, e, zs) => w.grownBy w1 (bl Ar) ∧ i ≤ n + 1 ∧ e ≤ 1 ∧ Lim zs ∧ zs.length = mr ∧ (∀ t, (t < o ∨ o + i ≤ t) → zs.getD t 0 = xr.getD t 0) ∧ nv zs + 4294967296 ^ (o + i) * e = nv xr + 4294967296 ^ o * nv (xb.take i) ∧ Own b0 w1 43 1 Ar mr cr (us (zs))) (fun s => match s with | (i, e, zs) => [(0, .slice (Ar.map (·.add o)) (n + 1) cw), (1, .slice Ab n cb), (4, .int .u32 ((e : Nat) : Int)), (6, .slice (Ar.map (·.add o)) (n + 1) cw), (7, .int .i64 ((n + 1 : Nat) : Int)), (8, .int .i64 ((i : Nat) : Int))]) (fun s => match s with | (i, e, zs) => n + 1 - i) (0, 0, xr) ?_ ?_ ?_
  · exact ⟨hB, by omega, by omega, hLr, by omega, fun _ _ => rfl, by simp, ho⟩
  · exact ⟨rfl, rfl, iv (by omega), rfl, iv (by omega), iv (by omega), trivial⟩
  · rintro ⟨i, e, zs⟩ w11 ⟨hB, hi, he, hLz, hlz, hsame, heq, ho⟩
    have hb := hb0.grown hB hrow
    have hz := hLz.getD (o + i)
    have hxb := hLb.getD i
    refine W.seq ?_
    refine W.region ?_
    refine WL.lss rfl rfl rfl (fun c12 => ?_) (fun c12 => ?_)
    · refine WL.done ?_
      refine W.seq ?_
      refine W.condT rfl ?_
      refine W.skip ?_
      refine W.seq ?_
      refine W.block ?_
      refine W.seq ?_
      refine W.region ?_
      refine WL.move rfl rfl ?_
      refine WL.assign rfl rfl ?_
      refine WL.done ?_
      refine W.draw [⟨[], [0], true⟩, ⟨[], [5], true⟩, ⟨[], [0], true⟩, ⟨[], [5], true⟩, ⟨[2, 3], [], true⟩, ⟨[4], [], false⟩, ⟨[], [1], true⟩, ⟨[], [5], true⟩, ⟨[6, 7], [], false⟩, ⟨[], [4], true⟩, ⟨[5, 8, 9], [], false⟩, ⟨[10], [], true⟩, ⟨[11], [], true⟩, ⟨[11], [], true⟩, ⟨[0, 1], [], true⟩, ⟨[14, 12], [], false⟩, ⟨[13], [], true⟩] [[(0, .slice (Ar.map (·.add o)) (n + 1) cw)], [(5, .int .i64 ((i : Nat) : Int))], [(0, .slice (Ar.map (·.add o)) (n + 1) cw)], [(5, .int .i64 ((i : Nat) : Int))], [], [], [(1, .slice Ab n cb)], [(5, .int .i64 ((i : Nat) : Int))], [], [(4, .int .u32 ((e : Nat) : Int))], [], [], [], [], [], [], []] (fun iQ => [fun v _ => v = .slice (Ar.map (·.add o)) (n + 1) cw, fun v _ => v = .int .i64 ((i : Nat) : Int), fun v _ => v = .slice (Ar.map (·.add o)) (n + 1) cw, fun v _ => v = .int .i64 ((i : Nat) : Int), fun v _ => v = .pointer (some ((adOf Ar).add (o + i))), fun v _ => v = .int .u32 ((zs.getD (o + i) 0 : Nat) : Int), fun v _ => v = .slice Ab n cb, fun v _ => v = .int .i64 ((i : Nat) : Int), fun v _ => v = .int .u32 ((xb.getD i 0 : Nat) : Int), fun v _ => v = .int .u32 ((e : Nat) : Int), fun v _ => v = .tuple #[.int .u32 (((zs.getD (o + i) 0 + xb.getD i 0 + e) % 4294967296 : Nat) : Int), .int .u32 (((zs.getD (o + i) 0 + xb.getD i 0 + e) / 4294967296 : Nat) : Int)], fun v _ => v = .tuple #[.int .u32 (((zs.getD (o + i) 0 + xb.getD i 0 + e) % 4294967296 : Nat) : Int), .int .u32 (((zs.getD (o + i) 0 + xb.getD i 0 + e) / 4294967296 : Nat) : Int)], fun v _ => v = .int .u32 (((zs.getD (o + i) 0 + xb.getD i 0 + e) % 4294967296 : Nat) : Int), fun v _ => v = .int .u32 (((zs.getD (o + i) 0 + xb.getD i 0 + e) / 4294967296 : Nat) : Int), fun v _ => v = .pointer (some ((adOf Ar).add (o + i))), fun _ _ => True, fun v _ => v = .int .u32 (((zs.getD (o + i) 0 + xb.getD i 0 + e) / 4294967296 : Nat) : Int)].getD iQ (fun _ _ => True)) (fun w1 => w.grownBy w1 (bl Ar) ∧ Own b0 w1 43 1 Ar mr cr (us (zs.set (o + i) ((zs.getD (o + i) 0 + xb.getD i 0 + e) % 4294967296)))) 15 Try.mixed (by kernel_rfl) ?_ ?_ ?_
      · refine Vs_mono _ ?_
        intro VQ hVQ vQ wQ1 wQ2 hQ1 hQ2
        simp only [List.mem_cons, List.not_mem_nil, or_false] at hVQ
        rcases hVQ with rfl | rfl | rfl | rfl | rfl | rfl | rfl | rfl | rfl | rfl | rfl | rfl | rfl | rfl | rfl | rfl | rfl <;> exact hQ1
      · refine ⟨⟨rfl, ⟨rfl, trivial⟩, ?_⟩, ⟨rfl, ⟨rfl, trivial⟩, ?_⟩, ⟨rfl, ⟨rfl, trivial⟩, ?_⟩, ⟨rfl, ⟨rfl, trivial⟩, ?_⟩, ⟨rfl, trivial, ?_⟩, ⟨rfl, trivial, ?_⟩, ⟨rfl, ⟨rfl, trivial⟩, ?_⟩, ⟨rfl, ⟨rfl, trivial⟩, ?_⟩, ⟨rfl, trivial, ?_⟩, ⟨rfl, ⟨rfl, trivial⟩, ?_⟩, ⟨rfl, trivial, ?_⟩, ⟨rfl, trivial, ?_⟩, ⟨rfl, trivial, ?_⟩, ⟨rfl, trivial, ?_⟩, ⟨rfl, trivial, ?_⟩, ⟨rfl, trivial, ?_⟩, ⟨rfl, trivial, ?_⟩, trivial⟩
        · intro w13 hE
          intro R
          refine WL.move rfl rfl ?_
          exact WL.done ⟨_, rfl, rfl, rfl⟩
        · intro w14 hE
          intro R
          refine WL.move rfl rfl ?_
          exact WL.done ⟨_, rfl, rfl, rfl⟩
        · intro w15 hE
          intro R
          refine WL.move rfl rfl ?_
          exact WL.done ⟨_, rfl, rfl, rfl⟩
        · intro w16 hE
          intro R
          refine WL.move rfl rfl ?_
          exact WL.done ⟨_, rfl, rfl, rfl⟩
        · intro w17 hE
          rintro _ rfl
          rintro _ rfl
          intro R
          refine WL.indexW (o) (i) Try.underlying23 Try.el43 rfl rfl (by omega) (by omega) ho.rd (by omega) rfl ?_
          exact WL.done ⟨_, rfl, rfl, rfl⟩
        · intro w18 hE
          have hE := hE rfl
          have hB := row_ext hB hE
          have ho := ho.ext hE
          rintro _ rfl
          intro R
          refine WL.load Try.underlying43 rfl rfl (Rd.at_ ho.rd (us_at (by omega))) rfl ?_
          exact WL.done ⟨_, rfl, ext_refl _, rfl⟩
        · intro w19 hE
          intro R
          refine WL.move rfl rfl ?_
          exact WL.done ⟨_, rfl, rfl, rfl⟩
        · intro w20 hE
          intro R
          refine WL.move rfl rfl ?_
          exact WL.done ⟨_, rfl, rfl, rfl⟩
        · intro w21 hE
          have hE := hE rfl
          have hB := row_ext hB hE
          have hb := hb0.grown hB hrow
          rintro _ rfl
          rintro _ rfl
          intro R
          refine WL.call Try.func79 rfl Try.nm79 rfl rfl (limbAt_c hb (i) (by omega)) ?_
          rintro _ w22 ⟨rfl, hGw22⟩
          have hB := row_ext hB hGw22
          exact WL.done ⟨_, rfl, hGw22, rfl⟩
        · intro w23 hE
          intro R
          refine WL.move rfl rfl ?_
          exact WL.done ⟨_, rfl, rfl, rfl⟩
        · intro w24 hE
          have hE := hE rfl
          have hB := row_ext hB hE
          rintro _ rfl
          rintro _ rfl
          rintro _ rfl
          intro R
          refine WL.call Try.func78 rfl Try.nm78 rfl rfl (Add32_c (zs.getD (o + i) 0) (xb.getD i 0) e (by omega) (by omega) (by omega) (by omega) (by omega) (by omega)) ?_
          rintro _ w25 ⟨rfl, hGw25⟩
          have hB := row_ext hB hGw25
          exact WL.done ⟨_, rfl, hGw25, rfl⟩
        · intro w26 hE
          rintro _ rfl
          intro R
          refine WL.move rfl rfl ?_
          exact WL.done ⟨_, rfl, rfl, rfl⟩
        · intro w27 hE
          rintro _ rfl
          intro R
          refine WL.extract rfl rfl rfl ?_
          exact WL.done ⟨_, rfl, rfl, rfl⟩
        · intro w28 hE
          rintro _ rfl
          intro R
          refine WL.extract rfl rfl rfl ?_
          exact WL.done ⟨_, rfl, rfl, rfl⟩
        · intro w29 hE
          rintro _ rfl
          rintro _ rfl
          intro R
          refine WL.indexW (o) (i) Try.underlying23 Try.el43 rfl rfl (by omega) (by omega) ho.rd (by omega) rfl ?_
          exact WL.done ⟨_, rfl, rfl, rfl⟩
        · intro w30 hE
          have hE := hE rfl
          have hB := row_ext hB hE
          have ho := ho.ext hE
          rintro _ rfl
          rintro _ rfl
          intro R
          refine WL.store Try.el43 rfl rfl rfl (by omega) ho ?_
          have hOld32 := ho
          intro w31 ho hGw31
          change Own _ _ _ _ _ _ _ ((us zs).set (o + i) (.int .u32 (((zs.getD (o + i) 0 + xb.getD i 0 + e) % 4294967296 : Nat) : Int))) at ho
          rw [us_set] at ho
          have hB := row_own hB hGw31
          have := ho.rd.ulen
          exact WL.done ⟨rfl, ⟨hB, ho⟩⟩
        · intro w33 hE
          rintro _ rfl
          intro R
          refine WL.assign rfl rfl ?_
          exact WL.done ⟨_, rfl, rfl, rfl⟩
      · intro vals w34 hT hVs
        rw [if_pos (by decide)] at hT
        obtain ⟨hB, ho⟩ := hT
        have hv0 : vals 0 = _ := hVs 0 (by decide) (by decide)
        have hv1 : vals 1 = _ := hVs 1 (by decide) (by decide)
        have hv2 : vals 2 = _ := hVs 2 (by decide) (by decide)
        have hv3 : vals 3 = _ := hVs 3 (by decide) (by decide)
        have hv4 : vals 4 = _ := hVs 4 (by decide) (by decide)
        have hv5 : vals 5 = _ := hVs 5 (by decide) (by decide)
        have hv6 : vals 6 = _ := hVs 6 (by decide) (by decide)
        have hv7 : vals 7 = _ := hVs 7 (by decide) (by decide)
        have hv8 : vals 8 = _ := hVs 8 (by decide) (by decide)
        have hv9 : vals 9 = _ := hVs 9 (by decide) (by decide)
        have hv10 : vals 10 = _ := hVs 10 (by decide) (by decide)
        have hv11 : vals 11 = _ := hVs 11 (by decide) (by decide)
        have hv12 : vals 12 = _ := hVs 12 (by decide) (by decide)
        have hv13 : vals 13 = _ := hVs 13 (by decide) (by decide)
        have hv14 : vals 14 = _ := hVs 14 (by decide) (by decide)
        have hv16 : vals 16 = _ := hVs 16 (by decide) (by decide)
        rw [show (List.filterMap (fun i => Option.map (fun t => (t, vals i)) (dstAt _ i)) (List.range _)) = [(12, .slice (Ar.map (·.add o)) (n + 1) cw), (13, .int .i64 ((i : Nat) : Int)), (14, .slice (Ar.map (·.add o)) (n + 1) cw), (15, .int .i64 ((i : Nat) : Int)), (16, .pointer (some ((adOf Ar).add (o + i)))), (17, .int .u32 ((zs.getD (o + i) 0 : Nat) : Int)), (18, .slice Ab n cb), (19, .int .i64 ((i : Nat) : Int)), (20, .int .u32 ((xb.getD i 0 : Nat) : Int)), (21, .int .u32 ((e : Nat) : Int)), (22, .tuple #[.int .u32 (((zs.getD (o + i) 0 + xb.getD i 0 + e) % 4294967296 : Nat) : Int), .int .u32 (((zs.getD (o + i) 0 + xb.getD i 0 + e) / 4294967296 : Nat) : Int)]), (11, .tuple #[.int .u32 (((zs.getD (o + i) 0 + xb.getD i 0 + e) % 4294967296 : Nat) : Int), .int .u32 (((zs.getD (o + i) 0 + xb.getD i 0 + e) / 4294967296 : Nat) : Int)]), (23, .int .u32 (((zs.getD (o + i) 0 + xb.getD i 0 + e) % 4294967296 : Nat) : Int)), (24, .int .u32 (((zs.getD (o + i) 0 + xb.getD i 0 + e) / 4294967296 : Nat) : Int)), (25, .pointer (some ((adOf Ar).add (o + i)))), (4, .int .u32 (((zs.getD (o + i) 0 + xb.getD i 0 + e) / 4294967296 : Nat) : Int))] from by
          show [(12, vals 0), (13, vals 1), (14, vals 2), (15, vals 3), (16, vals 4), (17, vals 5), (18, vals 6), (19, vals 7), (20, vals 8), (21, vals 9), (22, vals 10), (11, vals 11), (23, vals 12), (24, vals 13), (25, vals 14), (4, vals 16)] = _
          rw [hv0, hv1, hv2, hv3, hv4, hv5, hv6, hv7, hv8, hv9, hv10, hv11, hv12, hv13, hv14, hv16]]
        refine W.region ?_
        refine WL.add (r := ((i + 1 : Nat) : Int)) rfl rfl (wi64 (by omega) (by omega) (by omega)) rfl ?_
        refine WL.move rfl rfl ?_
        refine WL.done ?_
        refine ⟨(i + 1, (zs.getD (o + i) 0 + xb.getD i 0 + e) / 4294967296, zs.set (o + i) ((zs.getD (o + i) 0 + xb.getD i 0 + e) % 4294967296)), ⟨rfl, rfl, iv (by omega), rfl, iv (by omega), iv (by omega), trivial⟩, by (dsimp only; omega), ?_⟩
        exact ⟨hB, by omega, by omega, hLz.set _ (Nat.mod_lt _ (by decide)), by simp [hlz], fun t ht => by rw [getD_set_ne (by omega)]; exact hsame t (by omega), by rw [nv_take_succ]; exact addb_step (by omega) rfl heq (by omega), ho⟩
    · refine WL.done ?_
      refine W.seq ?_
      refine W.condF rfl ?_
      refine W.exit ?_
      refine ⟨_, rfl, ?_⟩
      obtain rfl : i = n + 1 := by omega
      rw [nv_take_all (by omega)] at heq
      exact ⟨_, _, hB, ho, hLz, hlz, hsame, he, heq⟩

theorem est_c {w : World} {Br : Nat} {Ar : Option Addr} {mr cr : Nat} {xr : List Nat} (hr : Rd Br w 1 Ar mr cr (us xr)) (hLr : Lim xr) (o n : Nat) {cw : Nat} {Bb : Nat} {Ab : Option Addr} {cb : Nat} {xb : List Nat} (hb : Rd Bb w 1 Ab n cb (us xb)) (hLb : Lim xb) (hon : o + n + 1 ≤ mr) (hn2 : 2 ≤ n) (hVv : 2147483648 ≤ xb.getD (n - 1) 0) (hWD : nv ((xr.drop o).take (n + 1)) < 4294967296 * nv xb) :
    Calls Try.prog 105 #[.slice (Ar.map (·.add o)) (n + 1) cw, .slice Ab n cb] w fun e w2 => ∃ v, e = .returned v ∧ (fun v w2 => ∃ dg : Nat, v = .int .u32 (dg : Int) ∧ w.grownBy w2 none ∧ dg < 4294967296 ∧ nv ((xr.drop o).take (n + 1)) / nv xb ≤ dg ∧ dg * nv xb < nv ((xr.drop o).take (n + 1)) + nv xb) v w2 := by
  have hr_l := hr.ulen
  have hb_l := hb.ulen
  have hr_x := hr.max
  simp only [maxLen] at hr_x
  have hr_c := hr.cap
  have hb_x := hb.max
  simp only [maxLen] at hb_x
  have hb_c := hb.cap
  have hb0 := hb
  have hr0 := hr
  have hl1 := hLb.getD (n - 1)
  have hl2 := hLb.getD (n - 2)
  have hr0_ := hLr.getD (o + n)
  have hr1_ := hLr.getD (o + (n - 1))
  have hr2_ := hLr.getD (o + (n - 2))
  have hD := split_two (l := xb) hn2 (by omega)
  have hW := split_win (l := xr) (o := o) hn2
  have hD2 := hLb.take_lt (n - 2)
  have hW2 := (hLr.drop o).take_lt (n - 2)
  have hDp : 0 < nv xb := by omega
  obtain ⟨q, hq⟩ : ∃ q, q = nv ((xr.drop o).take (n + 1)) / nv xb := ⟨_, rfl⟩
  have hqW : q * nv xb ≤ nv ((xr.drop o).take (n + 1)) := by rw [hq]; exact Nat.div_mul_le_self _ _
  have hqB : q < 4294967296 := by rw [hq]; exact (Nat.div_lt_iff_lt_mul hDp).2 hWD
  obtain ⟨top, htop⟩ : ∃ top, top = xr.getD (o + (n - 1)) 0 + 4294967296 * xr.getD (o + n) 0 := ⟨_, rfl⟩
  rw [← htop] at hW
  have hq1 := est_first hD hW hW2 hr2_ (by omega) hqW
  have hdm := Nat.div_add_mod top (xb.getD (n - 1) 0)
  have hml := Nat.mod_lt top (show xb.getD (n - 1) 0 > 0 by omega)
  have hdl : top / (xb.getD (n - 1) 0) < 8589934592 := by rw [Nat.div_lt_iff_lt_mul (by omega)]; have := Nat.mul_le_mul_left 8589934592 hVv; omega
  have hB := ext_refl w
  refine calls_of_W (vs := [.slice (Ar.map (·.add o)) (n + 1) cw, .slice Ab n cb]) [4] Try.func105 rfl rfl rfl rfl ?_
  refine W.seq ?_
  refine W.region ?_
  refine WL.assign rfl rfl ?_
  refine WL.done ?_
  refine W.seq ?_
  refine W.region ?_
  refine WL.move rfl rfl ?_
  refine WL.len Try.underlying23 rfl rfl ?_
  refine WL.assign rfl rfl ?_
  refine WL.done ?_
  refine W.seq ?_
  refine W.region ?_
  refine WL.move rfl rfl ?_
  refine WL.move rfl rfl ?_
  refine WL.sub (r := ((n - 1 : Nat) : Int)) rfl rfl (wi64 (by omega) (by omega) (by omega)) rfl ?_
  refine WL.index1 (n - 1) Try.underlying23 Try.el43 rfl rfl (by omega) (by omega) hb rfl ?_
  refine WL.load Try.underlying43 rfl rfl (Rd.at_ hb (us_at (by omega))) rfl ?_
  refine WL.conv (r := ((xb.getD (n - 1) 0 : Nat) : Int)) Try.underlying43 Try.underlying72 rfl (wu64 (by omega) (by omega) (by omega)) rfl ?_
  refine WL.assign rfl rfl ?_
  refine WL.done ?_
  refine W.seq ?_
  refine W.draw [⟨[], [0], true⟩, ⟨[], [5], true⟩, ⟨[0, 1], [], true⟩, ⟨[2], [], false⟩, ⟨[3], [], true⟩, ⟨[4], [], true⟩, ⟨[], [0], true⟩, ⟨[], [5], true⟩, ⟨[7], [], true⟩, ⟨[6, 8], [], true⟩, ⟨[9], [], false⟩, ⟨[10], [], true⟩, ⟨[5, 11], [], true⟩, ⟨[12], [], true⟩] [[(0, .slice (Ar.map (·.add o)) (n + 1) cw)], [(5, .int .i64 ((n : Nat) : Int))], [], [], [], [], [(0, .slice (Ar.map (·.add o)) (n + 1) cw)], [(5, .int .i64 ((n : Nat) : Int))], [], [], [], [], [], []] (fun iQ => [fun v _ => v = .slice (Ar.map (·.add o)) (n + 1) cw, fun v _ => v = .int .i64 ((n : Nat) : Int), fun v _ => v = .pointer (some ((adOf Ar).add (o + n))), fun v _ => v = .int .u32 ((xr.getD (o + n) 0 : Nat) : Int), fun v _ => v = .int .u64 ((xr.getD (o + n) 0 : Nat) : Int), fun v _ => v = .int .u64 ((xr.getD (o + n) 0 * 4294967296 : Nat) : Int), fun v _ => v = .slice (Ar.map (·.add o)) (n + 1) cw, fun v _ => v = .int .i64 ((n : Nat) : Int), fun v _ => v = .int .i64 ((n - 1 : Nat) : Int), fun v _ => v = .pointer (some ((adOf Ar).add (o + (n - 1)))), fun v _ => v = .int .u32 ((xr.getD (o + (n - 1)) 0 : Nat) : Int), fun v _ => v = .int .u64 ((xr.getD (o + (n - 1)) 0 : Nat) : Int), fun v _ => v = .int .u64 ((top : Nat) : Int), fun v _ => v = .int .u64 ((top : Nat) : Int)].getD iQ (fun _ _ => True)) (fun _ => True) 14 Try.mixed (by kernel_rfl) ?_ ?_ ?_
  · refine Vs_mono _ ?_
    intro VQ hVQ vQ wQ1 wQ2 hQ1 hQ2
    simp only [List.mem_cons, List.not_mem_nil, or_false] at hVQ
    rcases hVQ with rfl | rfl | rfl | rfl | rfl | rfl | rfl | rfl | rfl | rfl | rfl | rfl | rfl | rfl <;> exact hQ1
  · refine ⟨⟨rfl, ⟨rfl, trivial⟩, ?_⟩, ⟨rfl, ⟨rfl, trivial⟩, ?_⟩, ⟨rfl, trivial, ?_⟩, ⟨rfl, trivial, ?_⟩, ⟨rfl, trivial, ?_⟩, ⟨rfl, trivial, ?_⟩, ⟨rfl, ⟨rfl, trivial⟩, ?_⟩, ⟨rfl, ⟨rfl, trivial⟩, ?_⟩, ⟨rfl, trivial, ?_⟩, ⟨rfl, trivial, ?_⟩, ⟨rfl, trivial, ?_⟩, ⟨rfl, trivial, ?_⟩, ⟨rfl, trivial, ?_⟩, ⟨rfl, trivial, ?_⟩, trivial⟩
    · intro w11 hE
      intro R
      refine WL.move rfl rfl ?_
      exact WL.done ⟨_, rfl, rfl, rfl⟩
    · intro w12 hE
      intro R
      refine WL.move rfl rfl ?_
      exact WL.done ⟨_, rfl, rfl, rfl⟩
    · intro w13 hE
      rintro _ rfl
      rintro _ rfl
      intro R
      refine WL.indexW (o) (n) Try.underlying23 Try.el43 rfl rfl (by omega) (by omega) hr (by omega) rfl ?_
      exact WL.done ⟨_, rfl, rfl, rfl⟩
    · intro w14 hE
      have hE := hE rfl
      have hB := ext_trans hB hE
      have hr := hr0.ext hB
      rintro _ rfl
      intro R
      refine WL.load Try.underlying43 rfl rfl (Rd.at_ hr (us_at (by omega))) rfl ?_
      exact WL.done ⟨_, rfl, ext_refl _, rfl⟩
    · intro w15 hE
      rintro _ rfl
      intro R
      refine WL.conv (r := ((xr.getD (o + n) 0 : Nat) : Int)) Try.underlying43 Try.underlying72 rfl (wu64 (by omega) (by omega) (by omega)) rfl ?_
      exact WL.done ⟨_, rfl, rfl, rfl⟩
    · intro w16 hE
      rintro _ rfl
      intro R
      refine WL.shl (r := ((xr.getD (o + n) 0 * 4294967296 : Nat) : Int)) rfl rfl (by omega) (by rw [show IntKind.u64.bits = 64 from rfl, shl_nat (a := xr.getD (o + n) 0) (s := 32) (by omega) (by omega) 64 (by omega)]; exact wu64 (by omega) (by omega) (by omega)) rfl ?_
      exact WL.done ⟨_, rfl, rfl, rfl⟩
    · intro w17 hE
      intro R
      refine WL.move rfl rfl ?_
      exact WL.done ⟨_, rfl, rfl, rfl⟩
    · intro w18 hE
      intro R
      refine WL.move rfl rfl ?_
      exact WL.done ⟨_, rfl, rfl, rfl⟩
    · intro w19 hE
      rintro _ rfl
      intro R
      refine WL.sub (r := ((n - 1 : Nat) : Int)) rfl rfl (wi64 (by omega) (by omega) (by omega)) rfl ?_
      exact WL.done ⟨_, rfl, rfl, rfl⟩
    · intro w20 hE
      rintro _ rfl
      rintro _ rfl
      intro R
      refine WL.indexW (o) (n - 1) Try.underlying23 Try.el43 rfl rfl (by omega) (by omega) hr (by omega) rfl ?_
      exact WL.done ⟨_, rfl, rfl, rfl⟩
    · intro w21 hE
      have hE := hE rfl
      have hB := ext_trans hB hE
      have hr := hr0.ext hB
      rintro _ rfl
      intro R
      refine WL.load Try.underlying43 rfl rfl (Rd.at_ hr (us_at (by omega))) rfl ?_
      exact WL.done ⟨_, rfl, ext_refl _, rfl⟩
    · intro w22 hE
      rintro _ rfl
      intro R
      refine WL.conv (r := ((xr.getD (o + (n - 1)) 0 : Nat) : Int)) Try.underlying43 Try.underlying72 rfl (wu64 (by omega) (by omega) (by omega)) rfl ?_
      exact WL.done ⟨_, rfl, rfl, rfl⟩
    · intro w23 hE
      rintro _ rfl
      rintro _ rfl
      intro R
      refine WL.bits (r := ((top : Nat) : Int)) rfl rfl (.inr (.inl rfl)) (by rw [htop]; exact or64 rfl rfl hr0_ hr1_) rfl ?_
      exact WL.done ⟨_, rfl, rfl, rfl⟩
    · intro w24 hE
      rintro _ rfl
      intro R
      refine WL.assign rfl rfl ?_
      exact WL.done ⟨_, rfl, rfl, rfl⟩
  · intro vals w25 hT hVs
    rw [if_neg (by decide)] at hT
    have hB := ext_trans hB hT
    have hb := hb0.ext hB
    have hr := hr0.ext hB
    have hv0 : vals 0 = _ := hVs 0 (by decide) (by decide)
    have hv1 : vals 1 = _ := hVs 1 (by decide) (by decide)
    have hv2 : vals 2 = _ := hVs 2 (by decide) (by decide)
    have hv3 : vals 3 = _ := hVs 3 (by decide) (by decide)
    have hv4 : vals 4 = _ := hVs 4 (by decide) (by decide)
    have hv5 : vals 5 = _ := hVs 5 (by decide) (by decide)
    have hv6 : vals 6 = _ := hVs 6 (by decide) (by decide)
    have hv7 : vals 7 = _ := hVs 7 (by decide) (by decide)
    have hv8 : vals 8 = _ := hVs 8 (by decide) (by decide)
    have hv9 : vals 9 = _ := hVs 9 (by decide) (by decide)
    have hv10 : vals 10 = _ := hVs 10 (by decide) (by decide)
    have hv11 : vals 11 = _ := hVs 11 (by decide) (by decide)
    have hv12 : vals 12 = _ := hVs 12 (by decide) (by decide)
    have hv13 : vals 13 = _ := hVs 13 (by decide) (by decide)
    rw [show (List.filterMap (fun i => Option.map (fun t => (t, vals i)) (dstAt _ i)) (List.range _)) = [(18, .slice (Ar.map (·.add o)) (n + 1) cw), (19, .int .i64 ((n : Nat) : Int)), (20, .pointer (some ((adOf Ar).add (o + n)))), (21, .int .u32 ((xr.getD (o + n) 0 : Nat) : Int)), (22, .int .u64 ((xr.getD (o + n) 0 : Nat) : Int)), (23, .int .u64 ((xr.getD (o + n) 0 * 4294967296 : Nat) : Int)), (24, .slice (Ar.map (·.add o)) (n + 1) cw), (25, .int .i64 ((n : Nat) : Int)), (26, .int .i64 ((n - 1 : Nat) : Int)), (27, .pointer (some ((adOf Ar).add (o + (n - 1))))), (28, .int .u32 ((xr.getD (o + (n - 1)) 0 : Nat) : Int)), (29, .int .u64 ((xr.getD (o + (n - 1)) 0 : Nat) : Int)), (30, .int .u64 ((top : Nat) : Int)), (7, .int .u64 ((top : Nat) : Int))] from by
      show [(18, vals 0), (19, vals 1), (20, vals 2), (21, vals 3), (22, vals 4), (23, vals 5), (24, vals 6), (25, vals 7), (26, vals 8), (27, vals 9), (28, vals 10), (29, vals 11), (30, vals 12), (7, vals 13)] = _
      rw [hv0, hv1, hv2, hv3, hv4, hv5, hv6, hv7, hv8, hv9, hv10, hv11, hv12, hv13]]
    refine W.seq ?_
    refine W.draw [⟨[], [7], true⟩, ⟨[], [6], true⟩, ⟨[0, 1], [], true⟩, ⟨[], [7], true⟩, ⟨[], [6], true⟩, ⟨[3, 4], [], true⟩, ⟨[2], [], true⟩, ⟨[5], [], true⟩] [[(7, .int .u64 ((top : Nat) : Int))], [(6, .int .u64 ((xb.getD (n - 1) 0 : Nat) : Int))], [], [(7, .int .u64 ((top : Nat) : Int))], [(6, .int .u64 ((xb.getD (n - 1) 0 : Nat) : Int))], [], [], []] (fun iQ => [fun v _ => v = .int .u64 ((top : Nat) : Int), fun v _ => v = .int .u64 ((xb.getD (n - 1) 0 : Nat) : Int), fun v _ => v = .int .u64 ((top / (xb.getD (n - 1) 0) : Nat) : Int), fun v _ => v = .int .u64 ((top : Nat) : Int), fun v _ => v = .int .u64 ((xb.getD (n - 1) 0 : Nat) : Int), fun v _ => v = .int .u64 ((top % (xb.getD (n - 1) 0) : Nat) : Int), fun v _ => v = .int .u64 ((top / (xb.getD (n - 1) 0) : Nat) : Int), fun v _ => v = .int .u64 ((top % (xb.getD (n - 1) 0) : Nat) : Int)].getD iQ (fun _ _ => True)) (fun _ => True) 8 Try.mixed (by kernel_rfl) ?_ ?_ ?_
    · refine Vs_mono _ ?_
      intro VQ hVQ vQ wQ1 wQ2 hQ1 hQ2
      simp only [List.mem_cons, List.not_mem_nil, or_false] at hVQ
      rcases hVQ with rfl | rfl | rfl | rfl | rfl | rfl | rfl | rfl <;> exact hQ1
    · refine ⟨⟨rfl, ⟨rfl, trivial⟩, ?_⟩, ⟨rfl, ⟨rfl, trivial⟩, ?_⟩, ⟨rfl, trivial, ?_⟩, ⟨rfl, ⟨rfl, trivial⟩, ?_⟩, ⟨rfl, ⟨rfl, trivial⟩, ?_⟩, ⟨rfl, trivial, ?_⟩, ⟨rfl, trivial, ?_⟩, ⟨rfl, trivial, ?_⟩, trivial⟩
      · intro w26 hE
        intro R
        refine WL.move rfl rfl ?_
        exact WL.done ⟨_, rfl, rfl, rfl⟩
      · intro w27 hE
        intro R
        refine WL.move rfl rfl ?_
        exact WL.done ⟨_, rfl, rfl, rfl⟩
      · intro w28 hE
        rintro _ rfl
        rintro _ rfl
        intro R
        refine WL.quo (r := ((top / (xb.getD (n - 1) 0) : Nat) : Int)) rfl rfl (by omega) (qu64 (by omega) (by omega) (by omega)) rfl ?_
        exact WL.done ⟨_, rfl, rfl, rfl⟩
      · intro w29 hE
        intro R
        refine WL.move rfl rfl ?_
        exact WL.done ⟨_, rfl, rfl, rfl⟩
      · intro w30 hE
        intro R
        refine WL.move rfl rfl ?_
        exact WL.done ⟨_, rfl, rfl, rfl⟩
      · intro w31 hE
        rintro _ rfl
        rintro _ rfl
        intro R
        refine WL.rem (r := ((top % (xb.getD (n - 1) 0) : Nat) : Int)) rfl rfl (by omega) (tmod_nat (by omega) (by omega)) rfl ?_
        exact WL.done ⟨_, rfl, rfl, rfl⟩
      · intro w32 hE
        rintro _ rfl
        intro R
        refine WL.assign rfl rfl ?_
        exact WL.done ⟨_, rfl, rfl, rfl⟩
      · intro w33 hE
        rintro _ rfl
        intro R
        refine WL.assign rfl rfl ?_
        exact WL.done ⟨_, rfl, rfl, rfl⟩
    · intro vals w34 hT hVs
      rw [if_neg (by decide)] at hT
      have hB := ext_trans hB hT
      have hb := hb0.ext hB
      have hr := hr0.ext hB
      have hv0 : vals 0 = _ := hVs 0 (by decide) (by decide)
      have hv1 : vals 1 = _ := hVs 1 (by decide) (by decide)
      have hv2 : vals 2 = _ := hVs 2 (by decide) (by decide)
      have hv3 : vals 3 = _ := hVs 3 (by decide) (by decide)
      have hv4 : vals 4 = _ := hVs 4 (by decide) (by decide)
      have hv5 : vals 5 = _ := hVs 5 (by decide) (by decide)
      have hv6 : vals 6 = _ := hVs 6 (by decide) (by decide)
      have hv7 : vals 7 = _ := hVs 7 (by decide) (by decide)
      rw [show (List.filterMap (fun i => Option.map (fun t => (t, vals i)) (dstAt _ i)) (List.range _)) = [(31, .int .u64 ((top : Nat) : Int)), (32, .int .u64 ((xb.getD (n - 1) 0 : Nat) : Int)), (33, .int .u64 ((top / (xb.getD (n - 1) 0) : Nat) : Int)), (34, .int .u64 ((top : Nat) : Int)), (35, .int .u64 ((xb.getD (n - 1) 0 : Nat) : Int)), (36, .int .u64 ((top % (xb.getD (n - 1) 0) : Nat) : Int)), (8, .int .u64 ((top / (xb.getD (n - 1) 0) : Nat) : Int)), (9, .int .u64 ((top % (xb.getD (n - 1) 0) : Nat) : Int))] from by
        show [(31, vals 0), (32, vals 1), (33, vals 2), (34, vals 3), (35, vals 4), (36, vals 5), (8, vals 6), (9, vals 7)] = _
        rw [hv0, hv1, hv2, hv3, hv4, hv5, hv6, hv7]]
      refine W.seq ?_
      refine W.block ?_
      refine W.loop (σ := Nat × Nat) (fun s w1 => match s with | (dg, left) => w.grownBy w1 none ∧ dg * (xb.getD (n - 1) 0) + left = top ∧ q ≤ dg ∧ left < 4294967296 ∧ dg < 8589934592) (fun s => match s with | (dg, left) => [(0, .slice (Ar.map (·.add o)) (n + 1) cw), (1, .slice Ab n cb), (5, .int .i64 ((n : Nat) : Int)), (6, .int .u64 ((xb.getD (n - 1) 0 : Nat) : Int)), (8, .int .u64 ((dg : Nat) : Int)), (9, .int .u64 ((left : Nat) : Int))]) (fun s => match s with | (dg, left) => dg) (top / (xb.getD (n - 1) 0), top % (xb.getD (n - 1) 0)) ?_ ?_ ?_
      · exact ⟨hB, by rw [Nat.mul_comm]; exact hdm, by rw [hq]; rwa [hq] at hq1, by omega, hdl⟩
      · exact ⟨rfl, rfl, iv (by omega), iv (by omega), iv (by omega), iv (by omega), trivial⟩
      · rintro ⟨dg, left⟩ w35 ⟨hB, hinv, hqd, hleft, hdgl⟩
        have hb := hb0.ext hB
        have hr := hr0.ext hB
        refine W.seq ?_
        refine W.seq ?_
        rcases Nat.lt_or_ge dg 4294967296 with hd | hd
        · refine W.draw [⟨[], [8], true⟩, ⟨[0], [], true⟩, ⟨[1], [], true⟩, ⟨[2], [8], true⟩, ⟨[2], [1], true⟩, ⟨[2], [5], true⟩, ⟨[5, 2], [], true⟩, ⟨[4, 6, 2], [], true⟩, ⟨[7, 2], [], false⟩, ⟨[8, 2], [], true⟩, ⟨[3, 9, 2], [], true⟩, ⟨[2], [9], true⟩, ⟨[11, 2], [], true⟩, ⟨[2], [0], true⟩, ⟨[2], [5], true⟩, ⟨[14, 2], [], true⟩, ⟨[13, 15, 2], [], true⟩, ⟨[16, 2], [], false⟩, ⟨[17, 2], [], true⟩, ⟨[12, 18, 2], [], true⟩, ⟨[10, 19, 2], [], true⟩, ⟨[2, 20], [], true⟩] [[(8, .int .u64 ((dg : Nat) : Int))], [], [], [(8, .int .u64 ((dg : Nat) : Int))], [(1, .slice Ab n cb)], [(5, .int .i64 ((n : Nat) : Int))], [], [], [], [], [], [(9, .int .u64 ((left : Nat) : Int))], [], [(0, .slice (Ar.map (·.add o)) (n + 1) cw)], [(5, .int .i64 ((n : Nat) : Int))], [], [], [], [], [], [], []] (fun iQ => [fun v _ => v = .int .u64 ((dg : Nat) : Int), fun v _ => v = .bool false, fun v _ => v = .bool false, fun v _ => v = .int .u64 ((dg : Nat) : Int), fun v _ => v = .slice Ab n cb, fun v _ => v = .int .i64 ((n : Nat) : Int), fun v _ => v = .int .i64 ((n - 2 : Nat) : Int), fun v _ => v = .pointer (some ((adOf Ab).add (n - 2))), fun v _ => v = .int .u32 ((xb.getD (n - 2) 0 : Nat) : Int), fun v _ => v = .int .u64 ((xb.getD (n - 2) 0 : Nat) : Int), fun v _ => v = .int .u64 ((dg * (xb.getD (n - 2) 0) : Nat) : Int), fun v _ => v = .int .u64 ((left : Nat) : Int), fun v _ => v = .int .u64 ((left * 4294967296 : Nat) : Int), fun v _ => v = .slice (Ar.map (·.add o)) (n + 1) cw, fun v _ => v = .int .i64 ((n : Nat) : Int), fun v _ => v = .int .i64 ((n - 2 : Nat) : Int), fun v _ => v = .pointer (some ((adOf Ar).add (o + (n - 2)))), fun v _ => v = .int .u32 ((xr.getD (o + (n - 2)) 0 : Nat) : Int), fun v _ => v = .int .u64 ((xr.getD (o + (n - 2)) 0 : Nat) : Int), fun v _ => v = .int .u64 ((xr.getD (o + (n - 2)) 0 + 4294967296 * left : Nat) : Int), fun v _ => v = .bool (decide (((xr.getD (o + (n - 2)) 0 + 4294967296 * left : Nat) : Int) < ((dg * (xb.getD (n - 2) 0) : Nat) : Int))), fun v _ => v = .bool (decide (((xr.getD (o + (n - 2)) 0 + 4294967296 * left : Nat) : Int) < ((dg * (xb.getD (n - 2) 0) : Nat) : Int)))].getD iQ (fun _ _ => True)) (fun _ => True) 22 Try.mixed (by kernel_rfl) ?_ ?_ ?_
          · refine Vs_mono _ ?_
            intro VQ hVQ vQ wQ1 wQ2 hQ1 hQ2
            simp only [List.mem_cons, List.not_mem_nil, or_false] at hVQ
            rcases hVQ with rfl | rfl | rfl | rfl | rfl | rfl | rfl | rfl | rfl | rfl | rfl | rfl | rfl | rfl | rfl | rfl | rfl | rfl | rfl | rfl | rfl | rfl <;> exact hQ1
          · refine ⟨⟨rfl, ⟨rfl, trivial⟩, ?_⟩, ⟨rfl, trivial, ?_⟩, ⟨rfl, trivial, ?_⟩, ⟨rfl, ⟨rfl, trivial⟩, ?_⟩, ⟨rfl, ⟨rfl, trivial⟩, ?_⟩, ⟨rfl, ⟨rfl, trivial⟩, ?_⟩, ⟨rfl, trivial, ?_⟩, ⟨rfl, trivial, ?_⟩, ⟨rfl, trivial, ?_⟩, ⟨rfl, trivial, ?_⟩, ⟨rfl, trivial, ?_⟩, ⟨rfl, ⟨rfl, trivial⟩, ?_⟩, ⟨rfl, trivial, ?_⟩, ⟨rfl, ⟨rfl, trivial⟩, ?_⟩, ⟨rfl, ⟨rfl, trivial⟩, ?_⟩, ⟨rfl, trivial, ?_⟩, ⟨rfl, trivial, ?_⟩, ⟨rfl, trivial, ?_⟩, ⟨rfl, trivial, ?_⟩, ⟨rfl, trivial, ?_⟩, ⟨rfl, trivial, ?_⟩, ⟨rfl, trivial, ?_⟩, trivial⟩
            · intro w36 hE
              intro R
              refine WL.move rfl rfl ?_
              exact WL.done ⟨_, rfl, rfl, rfl⟩
            · intro w37 hE
              rintro _ rfl
              intro R
              refine WL.gtrD rfl rfl rfl ?_
              exact WL.done ⟨_, rfl, rfl, (show Value.bool (decide ((4294967295 : Int) < ((dg : Nat) : Int))) = Value.bool false from congrArg Value.bool (decide_eq_false (by omega)))⟩
            · intro w38 hE
              rintro _ rfl
              intro R
              refine WL.move rfl rfl ?_
              exact WL.done ⟨_, rfl, rfl, rfl⟩
            · intro w39 hE
              rintro _ rfl
              intro R
              refine WL.take rfl ?_
              refine WL.move rfl rfl ?_
              exact WL.done ⟨_, rfl, rfl, rfl⟩
            · intro w40 hE
              rintro _ rfl
              intro R
              refine WL.take rfl ?_
              refine WL.move rfl rfl ?_
              exact WL.done ⟨_, rfl, rfl, rfl⟩
            · intro w41 hE
              rintro _ rfl
              intro R
              refine WL.take rfl ?_
              refine WL.move rfl rfl ?_
              exact WL.done ⟨_, rfl, rfl, rfl⟩
            · intro w42 hE
              rintro _ rfl
              rintro _ rfl
              intro R
              refine WL.take rfl ?_
              refine WL.sub (r := ((n - 2 : Nat) : Int)) rfl rfl (wi64 (by omega) (by omega) (by omega)) rfl ?_
              exact WL.done ⟨_, rfl, rfl, rfl⟩
            · intro w43 hE
              rintro _ rfl
              rintro _ rfl
              rintro _ rfl
              intro R
              refine WL.take rfl ?_
              refine WL.index1 (n - 2) Try.underlying23 Try.el43 rfl rfl (by omega) (by omega) hb rfl ?_
              exact WL.done ⟨_, rfl, rfl, rfl⟩
            · intro w44 hE
              have hE := hE rfl
              have hB := ext_trans hB hE
              have hb := hb0.ext hB
              rintro _ rfl
              rintro _ rfl
              intro R
              refine WL.take rfl ?_
              refine WL.load Try.underlying43 rfl rfl (Rd.at_ hb (us_at (by omega))) rfl ?_
              exact WL.done ⟨_, rfl, ext_refl _, rfl⟩
            · intro w45 hE
              rintro _ rfl
              rintro _ rfl
              intro R
              refine WL.take rfl ?_
              refine WL.conv (r := ((xb.getD (n - 2) 0 : Nat) : Int)) Try.underlying43 Try.underlying72 rfl (wu64 (by omega) (by omega) (by omega)) rfl ?_
              exact WL.done ⟨_, rfl, rfl, rfl⟩
            · intro w46 hE
              rintro _ rfl
              rintro _ rfl
              rintro _ rfl
              intro R
              refine WL.take rfl ?_
              have hm0 := mul_lim0 hd hl2
              refine WL.mul (r := ((dg * (xb.getD (n - 2) 0) : Nat) : Int)) rfl rfl (by rw [← Int.natCast_mul]; exact wu64 (by omega) (by omega) rfl) rfl ?_
              exact WL.done ⟨_, rfl, rfl, rfl⟩
            · intro w47 hE
              rintro _ rfl
              intro R
              refine WL.take rfl ?_
              refine WL.move rfl rfl ?_
              exact WL.done ⟨_, rfl, rfl, rfl⟩
            · intro w48 hE
              rintro _ rfl
              rintro _ rfl
              intro R
              refine WL.take rfl ?_
              refine WL.shl (r := ((left * 4294967296 : Nat) : Int)) rfl rfl (by omega) (by rw [show IntKind.u64.bits = 64 from rfl, shl_nat (a := left) (s := 32) (by omega) (by omega) 64 (by omega)]; exact wu64 (by omega) (by omega) (by omega)) rfl ?_
              exact WL.done ⟨_, rfl, rfl, rfl⟩
            · intro w49 hE
              rintro _ rfl
              intro R
              refine WL.take rfl ?_
              refine WL.move rfl rfl ?_
              exact WL.done ⟨_, rfl, rfl, rfl⟩
            · intro w50 hE
              rintro _ rfl
              intro R
              refine WL.take rfl ?_
              refine WL.move rfl rfl ?_
              exact WL.done ⟨_, rfl, rfl, rfl⟩
            · intro w51 hE
              rintro _ rfl
              rintro _ rfl
              intro R
              refine WL.take rfl ?_
              refine WL.sub (r := ((n - 2 : Nat) : Int)) rfl rfl (wi64 (by omega) (by omega) (by omega)) rfl ?_
              exact WL.done ⟨_, rfl, rfl, rfl⟩
            · intro w52 hE
              rintro _ rfl
              rintro _ rfl
              rintro _ rfl
              intro R
              refine WL.take rfl ?_
              refine WL.indexW (o) (n - 2) Try.underlying23 Try.el43 rfl rfl (by omega) (by omega) hr (by omega) rfl ?_
              exact WL.done ⟨_, rfl, rfl, rfl⟩
            · intro w53 hE
              have hE := hE rfl
              have hB := ext_trans hB hE
              have hr := hr0.ext hB
              rintro _ rfl
              rintro _ rfl
              intro R
              refine WL.take rfl ?_
              refine WL.load Try.underlying43 rfl rfl (Rd.at_ hr (us_at (by omega))) rfl ?_
              exact WL.done ⟨_, rfl, ext_refl _, rfl⟩
            · intro w54 hE
              rintro _ rfl
              rintro _ rfl
              intro R
              refine WL.take rfl ?_
              refine WL.conv (r := ((xr.getD (o + (n - 2)) 0 : Nat) : Int)) Try.underlying43 Try.underlying72 rfl (wu64 (by omega) (by omega) (by omega)) rfl ?_
              exact WL.done ⟨_, rfl, rfl, rfl⟩
            · intro w55 hE
              rintro _ rfl
              rintro _ rfl
              rintro _ rfl
              intro R
              refine WL.take rfl ?_
              refine WL.bits (r := ((xr.getD (o + (n - 2)) 0 + 4294967296 * left : Nat) : Int)) rfl rfl (.inr (.inl rfl)) (or64 rfl rfl hleft hr2_) rfl ?_
              exact WL.done ⟨_, rfl, rfl, rfl⟩
            · intro w56 hE
              rintro _ rfl
              rintro _ rfl
              rintro _ rfl
              intro R
              refine WL.take rfl ?_
              refine WL.gtrD rfl rfl rfl ?_
              exact WL.done ⟨_, rfl, rfl, rfl⟩
            · intro w57 hE
              rintro _ rfl
              rintro _ rfl
              intro R
              refine WL.pick rfl rfl rfl ?_
              exact WL.done ⟨_, rfl, rfl, rfl⟩
          · intro vals w58 hT hVs
            rw [if_neg (by decide)] at hT
            have hB := ext_trans hB hT
            have hv0 : vals 0 = _ := hVs 0 (by decide) (by decide)
            have hv1 : vals 1 = _ := hVs 1 (by decide) (by decide)
            have hv2 : vals 2 = _ := hVs 2 (by decide) (by decide)
            have hv3 : vals 3 = _ := hVs 3 (by decide) (by decide)
            have hv4 : vals 4 = _ := hVs 4 (by decide) (by decide)
            have hv5 : vals 5 = _ := hVs 5 (by decide) (by decide)
            have hv6 : vals 6 = _ := hVs 6 (by decide) (by decide)
            have hv7 : vals 7 = _ := hVs 7 (by decide) (by decide)
            have hv8 : vals 8 = _ := hVs 8 (by decide) (by decide)
            have hv9 : vals 9 = _ := hVs 9 (by decide) (by decide)
            have hv10 : vals 10 = _ := hVs 10 (by decide) (by decide)
            have hv11 : vals 11 = _ := hVs 11 (by decide) (by decide)
            have hv12 : vals 12 = _ := hVs 12 (by decide) (by decide)
            have hv13 : vals 13 = _ := hVs 13 (by decide) (by decide)
            have hv14 : vals 14 = _ := hVs 14 (by decide) (by decide)
            have hv15 : vals 15 = _ := hVs 15 (by decide) (by decide)
            have hv16 : vals 16 = _ := hVs 16 (by decide) (by decide)
            have hv17 : vals 17 = _ := hVs 17 (by decide) (by decide)
            have hv18 : vals 18 = _ := hVs 18 (by decide) (by decide)
            have hv19 : vals 19 = _ := hVs 19 (by decide) (by decide)
            have hv20 : vals 20 = _ := hVs 20 (by decide) (by decide)
            have hv21 : vals 21 = _ := hVs 21 (by decide) (by decide)
            rw [show (List.filterMap (fun i => Option.map (fun t => (t, vals i)) (dstAt _ i)) (List.range _)) = [(37, .int .u64 ((dg : Nat) : Int)), (38, .bool false), (39, .bool false), (40, .int .u64 ((dg : Nat) : Int)), (41, .slice Ab n cb), (42, .int .i64 ((n : Nat) : Int)), (43, .int .i64 ((n - 2 : Nat) : Int)), (44, .pointer (some ((adOf Ab).add (n - 2)))), (45, .int .u32 ((xb.getD (n - 2) 0 : Nat) : Int)), (46, .int .u64 ((xb.getD (n - 2) 0 : Nat) : Int)), (47, .int .u64 ((dg * (xb.getD (n - 2) 0) : Nat) : Int)), (48, .int .u64 ((left : Nat) : Int)), (49, .int .u64 ((left * 4294967296 : Nat) : Int)), (50, .slice (Ar.map (·.add o)) (n + 1) cw), (51, .int .i64 ((n : Nat) : Int)), (52, .int .i64 ((n - 2 : Nat) : Int)), (53, .pointer (some ((adOf Ar).add (o + (n - 2))))), (54, .int .u32 ((xr.getD (o + (n - 2)) 0 : Nat) : Int)), (55, .int .u64 ((xr.getD (o + (n - 2)) 0 : Nat) : Int)), (56, .int .u64 ((xr.getD (o + (n - 2)) 0 + 4294967296 * left : Nat) : Int)), (57, .bool (decide (((xr.getD (o + (n - 2)) 0 + 4294967296 * left : Nat) : Int) < ((dg * (xb.getD (n - 2) 0) : Nat) : Int)))), (58, .bool (decide (((xr.getD (o + (n - 2)) 0 + 4294967296 * left : Nat) : Int) < ((dg * (xb.getD (n - 2) 0) : Nat) : Int))))] from by
              show [(37, vals 0), (38, vals 1), (39, vals 2), (40, vals 3), (41, vals 4), (42, vals 5), (43, vals 6), (44, vals 7), (45, vals 8), (46, vals 9), (47, vals 10), (48, vals 11), (49, vals 12), (50, vals 13), (51, vals 14), (52, vals 15), (53, vals 16), (54, vals 17), (55, vals 18), (56, vals 19), (57, vals 20), (58, vals 21)] = _
              rw [hv0, hv1, hv2, hv3, hv4, hv5, hv6, hv7, hv8, hv9, hv10, hv11, hv12, hv13, hv14, hv15, hv16, hv17, hv18, hv19, hv20, hv21]]
            refine W.cond2 rfl (fun c59 => ?_) (fun c59 => ?_)
            · have c59 := of_decide_eq_true c59
              refine W.skip ?_
              refine W.block ?_
              refine W.seq ?_
              refine W.region ?_
              refine WL.move rfl rfl ?_
              have hql : q < dg := by first | omega | exact est_low hD hW hW2 hqW hinv (by omega)
              refine WL.sub (r := ((dg - 1 : Nat) : Int)) rfl rfl (wu64 (by omega) (by omega) (by omega)) rfl ?_
              refine WL.assign rfl rfl ?_
              refine WL.done ?_
              refine W.seq ?_
              refine W.region ?_
              refine WL.move rfl rfl ?_
              refine WL.move rfl rfl ?_
              refine WL.add (r := ((left + (xb.getD (n - 1) 0) : Nat) : Int)) rfl rfl (wu64 (by omega) (by omega) (by omega)) rfl ?_
              refine WL.assign rfl rfl ?_
              refine WL.done ?_
              refine W.seq ?_
              refine W.region ?_
              refine WL.move rfl rfl ?_
              refine WL.gtr rfl rfl rfl (fun c60 => ?_) (fun c60 => ?_)
              · refine WL.done ?_
                refine W.condT rfl ?_
                refine W.exit ?_
                refine W.seq ?_
                refine W.region ?_
                refine WL.move rfl rfl ?_
                have hst := est_stop (dg := dg - 1) (left := left + xb.getD (n - 1) 0) hD hW hD2 hl2 hWD (by rw [dec_mul (by omega)]; exact hinv) (by omega)
                refine WL.conv (r := ((dg - 1 : Nat) : Int)) Try.underlying72 Try.underlying43 rfl (wu32n hst.1) rfl ?_
                refine WL.assign rfl rfl ?_
                refine WL.done ?_
                refine W.ret ?_
                refine ⟨_, rfl, ?_⟩
                first
                | exact ⟨_, rfl, hB, hst.1, by rw [← hq]; omega, est_high hD hW hD2 hVv (by rw [dec_mul (by omega)]; exact hinv) hst.1 hst.2⟩
                | exact ⟨_, rfl, hB, by omega, by rw [← hq]; exact hqd, est_high hD hW hD2 hVv hinv (by omega) (by omega)⟩
              · refine WL.done ?_
                refine W.condF rfl ?_
                refine W.skip ?_
                refine ⟨(dg - 1, left + xb.getD (n - 1) 0), ⟨rfl, rfl, iv (by omega), iv (by omega), iv (by omega), iv (by omega), trivial⟩, by (dsimp only; omega), ?_⟩
                exact ⟨hB, by rw [dec_mul (by omega)]; exact hinv, by omega, by omega, by omega⟩
            · have c59 := of_decide_eq_false c59
              refine W.exit ?_
              refine W.seq ?_
              refine W.region ?_
              refine WL.move rfl rfl ?_
              refine WL.conv (r := ((dg : Nat) : Int)) Try.underlying72 Try.underlying43 rfl (wu32n (by omega)) rfl ?_
              refine WL.assign rfl rfl ?_
              refine WL.done ?_
              refine W.ret ?_
              refine ⟨_, rfl, ?_⟩
              first
              | exact ⟨_, rfl, hB, hst.1, by rw [← hq]; omega, est_high hD hW hD2 hVv (by rw [dec_mul (by omega)]; exact hinv) hst.1 hst.2⟩
              | exact ⟨_, rfl, hB, by omega, by rw [← hq]; exact hqd, est_high hD hW hD2 hVv hinv (by omega) (by omega)⟩
        · refine W.draw [⟨[], [8], true⟩, ⟨[0], [], true⟩, ⟨[1], [], true⟩, ⟨[2], [8], true⟩, ⟨[2], [1], true⟩, ⟨[2], [5], true⟩, ⟨[5, 2], [], true⟩, ⟨[4, 6, 2], [], true⟩, ⟨[7, 2], [], false⟩, ⟨[8, 2], [], true⟩, ⟨[3, 9, 2], [], true⟩, ⟨[2], [9], true⟩, ⟨[11, 2], [], true⟩, ⟨[2], [0], true⟩, ⟨[2], [5], true⟩, ⟨[14, 2], [], true⟩, ⟨[13, 15, 2], [], true⟩, ⟨[16, 2], [], false⟩, ⟨[17, 2], [], true⟩, ⟨[12, 18, 2], [], true⟩, ⟨[10, 19, 2], [], true⟩, ⟨[2, 20], [], true⟩] [[(8, .int .u64 ((dg : Nat) : Int))], [], [], [(8, .int .u64 ((dg : Nat) : Int))], [(1, .slice Ab n cb)], [(5, .int .i64 ((n : Nat) : Int))], [], [], [], [], [], [(9, .int .u64 ((left : Nat) : Int))], [], [(0, .slice (Ar.map (·.add o)) (n + 1) cw)], [(5, .int .i64 ((n : Nat) : Int))], [], [], [], [], [], [], []] (fun iQ => [fun v _ => v = .int .u64 ((dg : Nat) : Int), fun v _ => v = .bool true, fun v _ => v = .bool true, fun v _ => v = undef, fun v _ => v = undef, fun v _ => v = undef, fun v _ => v = undef, fun v _ => v = undef, fun v _ => v = undef, fun v _ => v = undef, fun v _ => v = undef, fun v _ => v = undef, fun v _ => v = undef, fun v _ => v = undef, fun v _ => v = undef, fun v _ => v = undef, fun v _ => v = undef, fun v _ => v = undef, fun v _ => v = undef, fun v _ => v = undef, fun v _ => v = undef, fun v _ => v = .bool true].getD iQ (fun _ _ => True)) (fun _ => True) 22 Try.mixed (by kernel_rfl) ?_ ?_ ?_
          · refine Vs_mono _ ?_
            intro VQ hVQ vQ wQ1 wQ2 hQ1 hQ2
            simp only [List.mem_cons, List.not_mem_nil, or_false] at hVQ
            rcases hVQ with rfl | rfl | rfl | rfl | rfl | rfl | rfl | rfl | rfl | rfl | rfl | rfl | rfl | rfl | rfl | rfl | rfl | rfl | rfl | rfl | rfl | rfl <;> exact hQ1
          · refine ⟨⟨rfl, ⟨rfl, trivial⟩, ?_⟩, ⟨rfl, trivial, ?_⟩, ⟨rfl, trivial, ?_⟩, ⟨rfl, ⟨rfl, trivial⟩, ?_⟩, ⟨rfl, ⟨rfl, trivial⟩, ?_⟩, ⟨rfl, ⟨rfl, trivial⟩, ?_⟩, ⟨rfl, trivial, ?_⟩, ⟨rfl, trivial, ?_⟩, ⟨rfl, trivial, ?_⟩, ⟨rfl, trivial, ?_⟩, ⟨rfl, trivial, ?_⟩, ⟨rfl, ⟨rfl, trivial⟩, ?_⟩, ⟨rfl, trivial, ?_⟩, ⟨rfl, ⟨rfl, trivial⟩, ?_⟩, ⟨rfl, ⟨rfl, trivial⟩, ?_⟩, ⟨rfl, trivial, ?_⟩, ⟨rfl, trivial, ?_⟩, ⟨rfl, trivial, ?_⟩, ⟨rfl, trivial, ?_⟩, ⟨rfl, trivial, ?_⟩, ⟨rfl, trivial, ?_⟩, ⟨rfl, trivial, ?_⟩, trivial⟩
            · intro w61 hE
              intro R
              refine WL.move rfl rfl ?_
              exact WL.done ⟨_, rfl, rfl, rfl⟩
            · intro w62 hE
              rintro _ rfl
              intro R
              refine WL.gtrD rfl rfl rfl ?_
              exact WL.done ⟨_, rfl, rfl, (show Value.bool (decide ((4294967295 : Int) < ((dg : Nat) : Int))) = Value.bool true from congrArg Value.bool (decide_eq_true (by omega)))⟩
            · intro w63 hE
              rintro _ rfl
              intro R
              refine WL.move rfl rfl ?_
              exact WL.done ⟨_, rfl, rfl, rfl⟩
            · intro w64 hE
              rintro _ rfl
              intro R
              refine WL.pass rfl rfl rfl ?_
              exact WL.done ⟨_, rfl, rfl, rfl⟩
            · intro w65 hE
              rintro _ rfl
              intro R
              refine WL.pass rfl rfl rfl ?_
              exact WL.done ⟨_, rfl, rfl, rfl⟩
            · intro w66 hE
              rintro _ rfl
              intro R
              refine WL.pass rfl rfl rfl ?_
              exact WL.done ⟨_, rfl, rfl, rfl⟩
            · intro w67 hE
              rintro _ rfl
              rintro _ rfl
              intro R
              refine WL.pass rfl rfl rfl ?_
              exact WL.done ⟨_, rfl, rfl, rfl⟩
            · intro w68 hE
              rintro _ rfl
              rintro _ rfl
              rintro _ rfl
              intro R
              refine WL.pass rfl rfl rfl ?_
              exact WL.done ⟨_, rfl, rfl, rfl⟩
            · intro w69 hE
              have hE := hE rfl
              have hB := ext_trans hB hE
              rintro _ rfl
              rintro _ rfl
              intro R
              refine WL.pass rfl rfl rfl ?_
              exact WL.done ⟨_, rfl, ext_refl _, rfl⟩
            · intro w70 hE
              rintro _ rfl
              rintro _ rfl
              intro R
              refine WL.pass rfl rfl rfl ?_
              exact WL.done ⟨_, rfl, rfl, rfl⟩
            · intro w71 hE
              rintro _ rfl
              rintro _ rfl
              rintro _ rfl
              intro R
              refine WL.pass rfl rfl rfl ?_
              exact WL.done ⟨_, rfl, rfl, rfl⟩
            · intro w72 hE
              rintro _ rfl
              intro R
              refine WL.pass rfl rfl rfl ?_
              exact WL.done ⟨_, rfl, rfl, rfl⟩
            · intro w73 hE
              rintro _ rfl
              rintro _ rfl
              intro R
              refine WL.pass rfl rfl rfl ?_
              exact WL.done ⟨_, rfl, rfl, rfl⟩
            · intro w74 hE
              rintro _ rfl
              intro R
              refine WL.pass rfl rfl rfl ?_
              exact WL.done ⟨_, rfl, rfl, rfl⟩
            · intro w75 hE
              rintro _ rfl
              intro R
              refine WL.pass rfl rfl rfl ?_
              exact WL.done ⟨_, rfl, rfl, rfl⟩
            · intro w76 hE
              rintro _ rfl
              rintro _ rfl
              intro R
              refine WL.pass rfl rfl rfl ?_
              exact WL.done ⟨_, rfl, rfl, rfl⟩
            · intro w77 hE
              rintro _ rfl
              rintro _ rfl
              rintro _ rfl
              intro R
              refine WL.pass rfl rfl rfl ?_
              exact WL.done ⟨_, rfl, rfl, rfl⟩
            · intro w78 hE
              have hE := hE rfl
              have hB := ext_trans hB hE
              rintro _ rfl
              rintro _ rfl
              intro R
              refine WL.pass rfl rfl rfl ?_
              exact WL.done ⟨_, rfl, ext_refl _, rfl⟩
            · intro w79 hE
              rintro _ rfl
              rintro _ rfl
              intro R
              refine WL.pass rfl rfl rfl ?_
              exact WL.done ⟨_, rfl, rfl, rfl⟩
            · intro w80 hE
              rintro _ rfl
              rintro _ rfl
              rintro _ rfl
              intro R
              refine WL.pass rfl rfl rfl ?_
              exact WL.done ⟨_, rfl, rfl, rfl⟩
            · intro w81 hE
              rintro _ rfl
              rintro _ rfl
              rintro _ rfl
              intro R
              refine WL.pass rfl rfl rfl ?_
              exact WL.done ⟨_, rfl, rfl, rfl⟩
            · intro w82 hE
              rintro _ rfl
              rintro _ rfl
              intro R
              refine WL.pick rfl rfl rfl ?_
              exact WL.done ⟨_, rfl, rfl, rfl⟩
          · intro vals w83 hT hVs
            rw [if_neg (by decide)] at hT
            have hB := ext_trans hB hT
            have hv0 : vals 0 = _ := hVs 0 (by decide) (by decide)
            have hv1 : vals 1 = _ := hVs 1 (by decide) (by decide)
            have hv2 : vals 2 = _ := hVs 2 (by decide) (by decide)
            have hv3 : vals 3 = _ := hVs 3 (by decide) (by decide)
            have hv4 : vals 4 = _ := hVs 4 (by decide) (by decide)
            have hv5 : vals 5 = _ := hVs 5 (by decide) (by decide)
            have hv6 : vals 6 = _ := hVs 6 (by decide) (by decide)
            have hv7 : vals 7 = _ := hVs 7 (by decide) (by decide)
            have hv8 : vals 8 = _ := hVs 8 (by decide) (by decide)
            have hv9 : vals 9 = _ := hVs 9 (by decide) (by decide)
            have hv10 : vals 10 = _ := hVs 10 (by decide) (by decide)
            have hv11 : vals 11 = _ := hVs 11 (by decide) (by decide)
            have hv12 : vals 12 = _ := hVs 12 (by decide) (by decide)
            have hv13 : vals 13 = _ := hVs 13 (by decide) (by decide)
            have hv14 : vals 14 = _ := hVs 14 (by decide) (by decide)
            have hv15 : vals 15 = _ := hVs 15 (by decide) (by decide)
            have hv16 : vals 16 = _ := hVs 16 (by decide) (by decide)
            have hv17 : vals 17 = _ := hVs 17 (by decide) (by decide)
            have hv18 : vals 18 = _ := hVs 18 (by decide) (by decide)
            have hv19 : vals 19 = _ := hVs 19 (by decide) (by decide)
            have hv20 : vals 20 = _ := hVs 20 (by decide) (by decide)
            have hv21 : vals 21 = _ := hVs 21 (by decide) (by decide)
            rw [show (List.filterMap (fun i => Option.map (fun t => (t, vals i)) (dstAt _ i)) (List.range _)) = [(37, .int .u64 ((dg : Nat) : Int)), (38, .bool true), (39, .bool true), (40, undef), (41, undef), (42, undef), (43, undef), (44, undef), (45, undef), (46, undef), (47, undef), (48, undef), (49, undef), (50, undef), (51, undef), (52, undef), (53, undef), (54, undef), (55, undef), (56, undef), (57, undef), (58, .bool true)] from by
              show [(37, vals 0), (38, vals 1), (39, vals 2), (40, vals 3), (41, vals 4), (42, vals 5), (43, vals 6), (44, vals 7), (45, vals 8), (46, vals 9), (47, vals 10), (48, vals 11), (49, vals 12), (50, vals 13), (51, vals 14), (52, vals 15), (53, vals 16), (54, vals 17), (55, vals 18), (56, vals 19), (57, vals 20), (58, vals 21)] = _
              rw [hv0, hv1, hv2, hv3, hv4, hv5, hv6, hv7, hv8, hv9, hv10, hv11, hv12, hv13, hv14, hv15, hv16, hv17, hv18, hv19, hv20, hv21]]
            refine W.condT rfl ?_
            refine W.skip ?_
            refine W.block ?_
            refine W.seq ?_
            refine W.region ?_
            refine WL.move rfl rfl ?_
            have hql : q < dg := by first | omega | exact est_low hD hW hW2 hqW hinv (by omega)
            refine WL.sub (r := ((dg - 1 : Nat) : Int)) rfl rfl (wu64 (by omega) (by omega) (by omega)) rfl ?_
            refine WL.assign rfl rfl ?_
            refine WL.done ?_
            refine W.seq ?_
            refine W.region ?_
            refine WL.move rfl rfl ?_
            refine WL.move rfl rfl ?_
            refine WL.add (r := ((left + (xb.getD (n - 1) 0) : Nat) : Int)) rfl rfl (wu64 (by omega) (by omega) (by omega)) rfl ?_
            refine WL.assign rfl rfl ?_
            refine WL.done ?_
            refine W.seq ?_
            refine W.region ?_
            refine WL.move rfl rfl ?_
            refine WL.gtr rfl rfl rfl (fun c84 => ?_) (fun c84 => ?_)
            · refine WL.done ?_
              refine W.condT rfl ?_
              refine W.exit ?_
              refine W.seq ?_
              refine W.region ?_
              refine WL.move rfl rfl ?_
              have hst := est_stop (dg := dg - 1) (left := left + xb.getD (n - 1) 0) hD hW hD2 hl2 hWD (by rw [dec_mul (by omega)]; exact hinv) (by omega)
              refine WL.conv (r := ((dg - 1 : Nat) : Int)) Try.underlying72 Try.underlying43 rfl (wu32n hst.1) rfl ?_
              refine WL.assign rfl rfl ?_
              refine WL.done ?_
              refine W.ret ?_
              refine ⟨_, rfl, ?_⟩
              first
              | exact ⟨_, rfl, hB, hst.1, by rw [← hq]; omega, est_high hD hW hD2 hVv (by rw [dec_mul (by omega)]; exact hinv) hst.1 hst.2⟩
              | exact ⟨_, rfl, hB, by omega, by rw [← hq]; exact hqd, est_high hD hW hD2 hVv hinv (by omega) (by omega)⟩
            · refine WL.done ?_
              refine W.condF rfl ?_
              refine W.skip ?_
              refine ⟨(dg - 1, left + xb.getD (n - 1) 0), ⟨rfl, rfl, iv (by omega), iv (by omega), iv (by omega), iv (by omega), trivial⟩, by (dsimp only; omega), ?_⟩
              exact ⟨hB, by rw [dec_mul (by omega)]; exact hinv, by omega, by omega, by omega⟩
end Go.Proofs.Ythfpcebcfjlkmab
