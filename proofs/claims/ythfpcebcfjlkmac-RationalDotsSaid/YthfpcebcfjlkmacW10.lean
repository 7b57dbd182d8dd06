/- Contracts of functions of the program, and what they lean on. -/
import Derived.Test.YthfpcebcfjlkmacW9
import Derived.Test.YthfpcebcfjlkmacCh
set_option linter.unusedSimpArgs false
set_option linter.unusedVariables false
namespace Go.Proofs.Ythfpcebcfjlkmac
open Go.RowKit
theorem Div32_c {w : World} (x y d : Nat) {X Y D : Int} (hX : X = x) (hY : Y = y) (hD : D = d) (hx : x < d) (hy : y < 4294967296) (hd : d < 4294967296) :
    Calls Try.prog 70 #[.int .u32 X, .int .u32 Y, .int .u32 D] w fun e w2 => ∃ v, e = .returned v ∧ (fun v w2 => v = .tuple #[.int .u32 (((y + 4294967296 * x) / d : Nat) : Int), .int .u32 (((y + 4294967296 * x) % d : Nat) : Int)] ∧ w.grownBy w2 none) v w2 := by
  have hq := div_lim hx hy
  have hr := Nat.mod_lt (y + 4294967296 * x) (by omega : d > 0)
  have hB := ext_refl w
  refine calls_of_W (vs := [.int .u32 X, .int .u32 Y, .int .u32 D]) [6, 7] Try.func70 rfl rfl rfl rfl ?_
  refine W.seq ?_
  refine W.region ?_
  refine WL.assign rfl rfl ?_
  refine WL.assign rfl rfl ?_
  refine WL.done ?_
  refine W.seq ?_
  refine W.seq ?_
  refine W.region ?_
  refine WL.move rfl rfl ?_
  refine WL.neq rfl rfl rfl (fun c11 => ?_) (fun c11 => ?_)
  · refine WL.move rfl rfl ?_
    refine WL.take rfl ?_
    refine WL.move rfl rfl ?_
    refine WL.take rfl ?_
    refine WL.move rfl rfl ?_
    refine WL.take rfl ?_
    refine WL.leq rfl rfl rfl (fun c12 => ?_) (fun c12 => ?_)
    · exfalso
      omega
    · refine WL.pick rfl rfl rfl ?_
      refine WL.done ?_
      refine W.condF rfl ?_
      refine W.skip ?_
      refine W.seq ?_
      refine W.region ?_
      refine WL.move rfl rfl ?_
      refine WL.conv (r := X) Try.underlying48 Try.underlying61 rfl (wu64 (by omega) (by omega) (by omega)) rfl ?_
      refine WL.shl (r := ((x * 4294967296 : Nat) : Int)) rfl rfl (by omega) (by rw [show IntKind.u64.bits = 64 from rfl, shl_nat (a := x) (s := 32) (by omega) (by omega) 64 (by omega)]; exact wu64 (by omega) (by omega) (by omega)) rfl ?_
      refine WL.move rfl rfl ?_
      refine WL.conv (r := Y) Try.underlying48 Try.underlying61 rfl (wu64 (by omega) (by omega) (by omega)) rfl ?_
      refine WL.bits (r := ((y + 4294967296 * x : Nat) : Int)) rfl rfl (.inr (.inl rfl)) (or64 rfl (by omega) (by omega) hy) rfl ?_
      refine WL.assign rfl rfl ?_
      refine WL.done ?_
      refine W.seq ?_
      refine W.draw [⟨[], [8], true⟩, ⟨[], [2], true⟩, ⟨[1], [], true⟩, ⟨[0, 2], [], true⟩, ⟨[3], [], true⟩, ⟨[], [8], true⟩, ⟨[], [2], true⟩, ⟨[6], [], true⟩, ⟨[5, 7], [], true⟩, ⟨[8], [], true⟩, ⟨[4], [], true⟩, ⟨[9], [], true⟩] [[(8, .int .u64 ((y + 4294967296 * x : Nat) : Int))], [(2, .int .u32 D)], [], [], [], [(8, .int .u64 ((y + 4294967296 * x : Nat) : Int))], [(2, .int .u32 D)], [], [], [], [], []] (fun iQ => [fun v _ => v = .int .u64 ((y + 4294967296 * x : Nat) : Int), fun v _ => v = .int .u32 D, fun v _ => v = .int .u64 D, fun v _ => v = .int .u64 (((y + 4294967296 * x) / d : Nat) : Int), fun v _ => v = .int .u32 (((y + 4294967296 * x) / d : Nat) : Int), fun v _ => v = .int .u64 ((y + 4294967296 * x : Nat) : Int), fun v _ => v = .int .u32 D, fun v _ => v = .int .u64 D, fun v _ => v = .int .u64 (((y + 4294967296 * x) % d : Nat) : Int), fun v _ => v = .int .u32 (((y + 4294967296 * x) % d : Nat) : Int), fun v _ => v = .int .u32 (((y + 4294967296 * x) / d : Nat) : Int), fun v _ => v = .int .u32 (((y + 4294967296 * x) % d : Nat) : Int)].getD iQ (fun _ _ => True)) (fun _ => True) 12 Try.mixed (by kernel_rfl) ?_ ?_ ?_
      · refine Vs_mono _ ?_
        intro VQ hVQ vQ wQ1 wQ2 hQ1 hQ2
        simp only [List.mem_cons, List.not_mem_nil, or_false] at hVQ
        rcases hVQ with rfl | rfl | rfl | rfl | rfl | rfl | rfl | rfl | rfl | rfl | rfl | rfl <;> exact hQ1
      · refine ⟨⟨rfl, ⟨rfl, trivial⟩, ?_⟩, ⟨rfl, ⟨rfl, trivial⟩, ?_⟩, ⟨rfl, trivial, ?_⟩, ⟨rfl, trivial, ?_⟩, ⟨rfl, trivial, ?_⟩, ⟨rfl, ⟨rfl, trivial⟩, ?_⟩, ⟨rfl, ⟨rfl, trivial⟩, ?_⟩, ⟨rfl, trivial, ?_⟩, ⟨rfl, trivial, ?_⟩, ⟨rfl, trivial, ?_⟩, ⟨rfl, trivial, ?_⟩, ⟨rfl, trivial, ?_⟩, trivial⟩
        · intro w13 hE
          intro R
          refine WL.move rfl rfl ?_
          exact WL.done ⟨_, rfl, rfl, rfl⟩
        · intro w14 hE
          intro R
          refine WL.move rfl rfl ?_
          exact WL.done ⟨_, rfl, rfl, rfl⟩
        · intro w15 hE
          rintro _ rfl
          intro R
          refine WL.conv (r := D) Try.underlying48 Try.underlying61 rfl (wu64 (by omega) (by omega) (by omega)) rfl ?_
          exact WL.done ⟨_, rfl, rfl, rfl⟩
        · intro w16 hE
          rintro _ rfl
          rintro _ rfl
          intro R
          refine WL.quo (r := (((y + 4294967296 * x) / d : Nat) : Int)) rfl rfl (by omega) (qu64 (by omega) (by omega) (by omega)) rfl ?_
          exact WL.done ⟨_, rfl, rfl, rfl⟩
        · intro w17 hE
          rintro _ rfl
          intro R
          refine WL.conv (r := (((y + 4294967296 * x) / d : Nat) : Int)) Try.underlying61 Try.underlying48 rfl (wu32n hq) rfl ?_
          exact WL.done ⟨_, rfl, rfl, rfl⟩
        · intro w18 hE
          intro R
          refine WL.move rfl rfl ?_
          exact WL.done ⟨_, rfl, rfl, rfl⟩
        · intro w19 hE
          intro R
          refine WL.move rfl rfl ?_
          exact WL.done ⟨_, rfl, rfl, rfl⟩
        · intro w20 hE
          rintro _ rfl
          intro R
          refine WL.conv (r := D) Try.underlying48 Try.underlying61 rfl (wu64 (by omega) (by omega) (by omega)) rfl ?_
          exact WL.done ⟨_, rfl, rfl, rfl⟩
        · intro w21 hE
          rintro _ rfl
          rintro _ rfl
          intro R
          refine WL.rem (r := (((y + 4294967296 * x) % d : Nat) : Int)) rfl rfl (by omega) (tmod_nat (by omega) (by omega)) rfl ?_
          exact WL.done ⟨_, rfl, rfl, rfl⟩
        · intro w22 hE
          rintro _ rfl
          intro R
          refine WL.conv (r := (((y + 4294967296 * x) % d : Nat) : Int)) Try.underlying61 Try.underlying48 rfl (wu32n (Nat.lt_trans hr hd)) rfl ?_
          exact WL.done ⟨_, rfl, rfl, rfl⟩
        · intro w23 hE
          rintro _ rfl
          intro R
          refine WL.assign rfl rfl ?_
          exact WL.done ⟨_, rfl, rfl, rfl⟩
        · intro w24 hE
          rintro _ rfl
          intro R
          refine WL.assign rfl rfl ?_
          exact WL.done ⟨_, rfl, rfl, rfl⟩
      · intro vals w25 hT hVs
        rw [if_neg (by decide)] at hT
        have hB := ext_trans hB hT
        have hv0 : vals 0 = _ := hVs 0 (by decide) (by decide)
        have hv1 : vals 1 = _ := hVs 1 (by decide) (by decide)
        have hv2 : vals 2 = _ := hVs 2 (by decide) (by decide)
        have hv3 : vals 3 = _ := hVs 3 (by decide) (by decide)
        have hv4 : vals 4 = _ := hVs 4 (by decide) (by decide)
        have hv5 : vals 5 = _ := hVs 5 (by decide) (by decide)
        have hv6 : vals 6 = _ := hVs 6 (by decide) (by decide)
        have hv7 : vals 7 = _ := hVs 7 (by decide) (by decide)
        have hv8 : vals 8 = _ := hVs 8 (by decide) (by decide)
        have hv9 : vals 9 = _ := hVs 9 (by decide) (by decide)
        have hv10 : vals 10 = _ := hVs 10 (by decide) (by decide)
        have hv11 : vals 11 = _ := hVs 11 (by decide) (by decide)
        rw [show (List.filterMap (fun i => Option.map (fun t => (t, vals i)) (dstAt _ i)) (List.range _)) = [(23, .int .u64 ((y + 4294967296 * x : Nat) : Int)), (24, .int .u32 D), (25, .int .u64 D), (26, .int .u64 (((y + 4294967296 * x) / d : Nat) : Int)), (27, .int .u32 (((y + 4294967296 * x) / d : Nat) : Int)), (28, .int .u64 ((y + 4294967296 * x : Nat) : Int)), (29, .int .u32 D), (30, .int .u64 D), (31, .int .u64 (((y + 4294967296 * x) % d : Nat) : Int)), (32, .int .u32 (((y + 4294967296 * x) % d : Nat) : Int)), (6, .int .u32 (((y + 4294967296 * x) / d : Nat) : Int)), (7, .int .u32 (((y + 4294967296 * x) % d : Nat) : Int))] from by
          show [(23, vals 0), (24, vals 1), (25, vals 2), (26, vals 3), (27, vals 4), (28, vals 5), (29, vals 6), (30, vals 7), (31, vals 8), (32, vals 9), (6, vals 10), (7, vals 11)] = _
          rw [hv0, hv1, hv2, hv3, hv4, hv5, hv6, hv7, hv8, hv9, hv10, hv11]]
        refine W.ret ?_
        refine ⟨_, rfl, ?_⟩
        exact ⟨rfl, hB⟩
  · exfalso
    omega

theorem sdiv_c {w : World} {b0 : Nat} {Aa : Option Addr} {ma ca : Nat} {xa : List Nat} (ho : Own b0 w 48 1 Aa ma ca (us xa)) (hb0s : b0 ≤ w.heap.size) (hLa : Lim xa) (hs : ma ≤ 1099511627776) (d : Nat) {X : Int} (hX : X = d) (hd0 : 0 < d) (hd : d < 4294967296) :
    Calls Try.prog 48 #[.slice Aa ma ca, .int .u32 X] w fun e w2 => ∃ v, e = .returned v ∧ (fun v w2 => ∃ ys, v = .int .u32 ((nv xa % d : Nat) : Int) ∧ Below b0 w w2 ∧ Own b0 w2 48 1 Aa ma ca (us ys) ∧ Lim ys ∧ ys.length = ma ∧ nv ys = nv xa / d) v w2 := by
  have ho_l := ho.rd.ulen
  have ho_x := ho.rd.max
  simp only [maxLen] at ho_x
  have ho_c := ho.rd.cap
  have hB := Below.refl b0 w
  refine calls_of_W (vs := [.slice Aa ma ca, .int .u32 X]) [4] Try.func48 rfl rfl rfl rfl ?_
  refine W.seq ?_
  refine W.region ?_
  refine WL.assign rfl rfl ?_
  refine WL.done ?_
  refine W.seq ?_
  refine W.region ?_
  refine WL.assign rfl rfl ?_
  refine WL.done ?_
  refine W.seq ?_
  refine W.seq ?_
  refine W.region ?_
  refine WL.move rfl rfl ?_
  refine WL.len Try.underlying23 rfl rfl ?_
  refine WL.sub (r := ((ma : Nat) : Int) - 1) rfl rfl (wi64 (by omega) (by omega) (by omega)) rfl ?_
  refine WL.assign rfl rfl ?_
  refine WL.done ?_
  refine W.block ?_
  refine W.loop (σ := Nat × Nat × List Nat) (fun s w1 => match s with | (j, r, zs) => Below b0 w w1 ∧ j ≤ ma ∧ r < d ∧ Lim zs ∧ zs.length = ma ∧ (∀ t, t < j → zs.getD t 0 = xa.getD t 0) ∧ nv (xa.drop j) = nv (zs.drop j) * d + r ∧ Own b0 w1 48 1 Aa ma ca (us (zs))) (fun s => match s with | (j, r, zs) => [(0, .slice Aa ma ca), (1, .int .u32 X), (5, .int .u32 ((r : Nat) : Int)), (6, .int .i64 (((j : Nat) : Int) - 1))]) (fun s => match s with | (j, r, zs) => j) (ma, 0, xa) ?_ ?_ ?_
  · exact ⟨hB, by omega, hd0, hLa, by omega, fun _ _ => rfl, by rw [List.drop_of_length_le (by omega)]; simp, ho⟩
  · exact ⟨rfl, iv (by omega), iv (by omega), iv (by omega), trivial⟩
  · rintro ⟨j, r, zs⟩ w11 ⟨hB, hj, hr, hLz, hlz, hsame, heq, ho⟩
    have hz := hLz.getD (j - 1)
    have hq := div_lim hr hz
    have hmr := Nat.mod_lt (zs.getD (j - 1) 0 + 4294967296 * r) (show d > 0 by omega)
    refine W.seq ?_
    refine W.seq ?_
    refine W.region ?_
    refine WL.move rfl rfl ?_
    refine WL.geq rfl rfl rfl (fun c12 => ?_) (fun c12 => ?_)
    · refine WL.done ?_
      refine W.condT rfl ?_
      refine W.skip ?_
      refine W.seq ?_
      refine W.block ?_
      refine W.region ?_
      refine WL.move rfl rfl ?_
      refine WL.move rfl rfl ?_
      refine WL.move rfl rfl ?_
      refine WL.move rfl rfl ?_
      refine WL.move rfl rfl ?_
      refine WL.index1 (j - 1) Try.underlying23 Try.el48 rfl rfl (by omega) (by omega) ho.rd rfl ?_
      refine WL.load Try.underlying48 rfl rfl (Rd.at_ ho.rd (us_at (by omega))) rfl ?_
      refine WL.move rfl rfl ?_
      refine WL.call Try.func70 rfl Try.nm70 rfl rfl (Div32_c r (zs.getD (j - 1) 0) d (by omega) (by omega) (by omega) (by omega) (by omega) (by omega)) ?_
      rintro _ w13 ⟨rfl, hGw13⟩
      have hB := hB.grown hGw13 (Nat.le_trans hb0s hB.size) (fun _ h => by cases h)
      have ho := ho.ext hGw13
      refine WL.move rfl rfl ?_
      refine WL.extract rfl rfl rfl ?_
      refine WL.extract rfl rfl rfl ?_
      refine WL.index1 (j - 1) Try.underlying23 Try.el48 rfl rfl (by omega) (by omega) ho.rd rfl ?_
      refine WL.store Try.el48 rfl rfl rfl (by omega) ho ?_
      have hOld15 := ho
      intro w14 ho hGw14
      change Own _ _ _ _ _ _ _ ((us zs).set (j - 1) (.int .u32 ((((zs.getD (j - 1) 0) + 4294967296 * r) / d : Nat) : Int))) at ho
      rw [us_set] at ho
      have hB := hB.grown hGw14 (Nat.le_trans hb0s hB.size) (fun g hg => (hOld15.bl_ge g hg).1)
      have := ho.rd.ulen
      refine WL.assign rfl rfl ?_
      refine WL.done ?_
      refine W.region ?_
      refine WL.move rfl rfl ?_
      refine WL.sub (r := ((((j : Nat) : Int) - 1) - (1 : Int))) rfl rfl (wi64 (by omega) (by omega) (by omega)) rfl ?_
      refine WL.assign rfl rfl ?_
      refine WL.done ?_
      refine ⟨(j - 1, (zs.getD (j - 1) 0 + 4294967296 * r) % d, zs.set (j - 1) ((zs.getD (j - 1) 0 + 4294967296 * r) / d)), ⟨rfl, iv (by omega), iv (by omega), iv (by omega), trivial⟩, by (dsimp only; omega), ?_⟩
      exact ⟨hB, by omega, hmr, hLz.set _ hq, by simp [hlz], fun t ht => by rw [getD_set_ne (by omega)]; exact hsame t (by omega), div_step (by omega) (by rw [show j - 1 + 1 = j by omega]; exact heq) (hsame (j - 1) (by omega)).symm rfl, ho⟩
    · refine WL.done ?_
      refine W.condF rfl ?_
      refine W.exit ?_
      refine W.seq ?_
      refine W.region ?_
      refine WL.move rfl rfl ?_
      refine WL.assign rfl rfl ?_
      refine WL.done ?_
      refine W.ret ?_
      refine ⟨_, rfl, ?_⟩
      obtain rfl : j = 0 := by omega
      rw [List.drop_zero, List.drop_zero] at heq
      obtain ⟨e1, e2⟩ := div_end heq hr
      exact ⟨_, by rw [e2], hB, ho, hLz, hlz, e1⟩

theorem binom_step {M s f q : Nat} (hf : f = M + 1) (h : q = choose M s * f + 0) : q / (s + 1) = choose (M + 1) (s + 1) := by
  rw [h, hf, Nat.add_zero, Nat.mul_comm, choose_absorb, Nat.mul_div_cancel _ (by omega)]
theorem small_step {M s : Nat} (h : s ≤ M) : choose M s * (M - s) / (s + 1) = choose M (s + 1) := by
  rw [choose_next h, Nat.mul_div_cancel _ (by omega)]

theorem chz_pascal (n k : Nat) {K K1 : Int} (hK : K = k) (h1 : K1 = k + 1) : chz (n + 1) K1 = chz n K + chz n K1 := by
  rw [chz_nat (n + 1) (k + 1) (by omega), chz_nat n k hK, chz_nat n (k + 1) (by omega), choose_succ]
theorem chz_symm (n k : Nat) {K D : Int} (hK : K = k) (hD : D = (n : Int) - k) : chz n D = chz n K := by
  rw [chz_nat n k hK]
  rcases Nat.lt_or_ge n k with h | h
  · rw [chz_neg n (by omega), choose_big h]
  · rw [chz_nat n (n - k) (by omega), choose_symm h]
end Go.Proofs.Ythfpcebcfjlkmac
