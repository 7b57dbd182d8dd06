/- Contracts of functions of the program, and what they lean on. -/
import Derived.Test.YthfpcebcfjlkmabW9
import Derived.Test.YthfpcebcfjlkmabCh
set_option linter.unusedSimpArgs false
set_option linter.unusedVariables false
namespace Go.Proofs.Ythfpcebcfjlkmab
open Go.RowKit
theorem Div32_c {w : World} (x y d : Nat) {X Y D : Int} (hX : X = x) (hY : Y = y) (hD : D = d) (hx : x < d) (hy : y < 4294967296) (hd : d < 4294967296) :
    Calls Try.prog 77 #[.int .u32 X, .int .u32 Y, .int .u32 D] w fun e w2 => ∃ v, e = .returned v ∧ (fun v w2 => v = .tuple #[.int .u32 (((y + 4294967296 * x) / d : Nat) : Int), .int .u32 (((y + 4294967296 * x) % d : Nat) : Int)] ∧ w.grownBy w2 none) v w2 := by
  have hq := div_lim hx hy
  have hr := Nat.mod_lt (y + 4294967296 * x) (by omega : d > 0)
  have hB := ext_refl w
  refine calls_of_W (vs := [.int .u32 X, .int .u32 Y, .int .u32 D]) [6, 7] Try.func77 rfl rfl rfl rfl ?_
  refine W.seq ?_
  refine W.region ?_
  refine WL.assign rfl rfl ?_
  refine WL.assign rfl rfl ?_
  refine WL.done ?_
  refine W.seq ?_
  refine W.seq ?_
  refine W.region ?_
  refine WL.move rfl rfl ?_
  refine WL.neq rfl rfl rfl (fun c11 => ?_) (fun c11 => ?_)
  · refine WL.move rfl rfl ?_
    refine WL.take rfl ?_
    refine WL.move rfl rfl ?_
    refine WL.take rfl ?_
    refine WL.move rfl rfl ?_
    refine WL.take rfl ?_
    refine WL.leq rfl rfl rfl (fun c12 => ?_) (fun c12 => ?_)
    · exfalso
      omega
    · refine WL.pick rfl rfl rfl ?_
      refine WL.done ?_
      refine W.condF rfl ?_
      refine W.skip ?_
      refine W.seq ?_
      refine W.region ?_
      refine WL.move rfl rfl ?_
      refine WL.conv (r := X) Try.underlying43 Try.underlying72 rfl (wu64 (by omega) (by omega) (by omega)) rfl ?_
      refine WL.shl (r := ((x * 4294967296 : Nat) : Int)) rfl rfl (by omega) (by rw [show IntKind.u64.bits = 64 from rfl, shl_nat (a := x) (s := 32) (by omega) (by omega) 64 (by omega)]; exact wu64 (by omega) (by omega) (by omega)) rfl ?_
      refine WL.move rfl rfl ?_
      refine WL.conv (r := Y) Try.underlying43 Try.underlying72 rfl (wu64 (by omega) (by omega) (by omega)) rfl ?_
      refine WL.bits (r := ((y + 4294967296 * x : Nat) : Int)) rfl rfl (.inr (.inl rfl)) (or64 rfl (by omega) (by omega) hy) rfl ?_
      refine WL.assign rfl rfl ?_
      refine WL.done ?_
      refine W.seq ?_
      refine W.draw [⟨[], [8], true⟩, ⟨[], [2], true⟩, ⟨[1], [], true⟩, ⟨[0, 2], [], true⟩, ⟨[3], [], true⟩, ⟨[], [8], true⟩, ⟨[], [2], true⟩, ⟨[6], [], true⟩, ⟨[5, 7], [], true⟩, ⟨[8], [], true⟩, ⟨[4], [], true⟩, ⟨[9], [], true⟩] [[(8, .int .u64 ((y + 4294967296 * x : Nat) : Int))], [(2, .int .u32 D)], [], [], [], [(8, .int .u64 ((y + 4294967296 * x : Nat) : Int))], [(2, .int .u32 D)], [], [], [], [], []] (fun iQ => [fun v _ => v = .int .u64 ((y + 4294967296 * x : Nat) : Int), fun v _ => v = .int .u32 D, fun v _ => v = .int .u64 D, fun v _ => v = .int .u64 (((y + 4294967296 * x) / d : Nat) : Int), fun v _ => v = .int .u32 (((y + 4294967296 * x) / d : Nat) : Int), fun v _ => v = .int .u64 ((y + 4294967296 * x : Nat) : Int), fun v _ => v = .int .u32 D, fun v _ => v = .int .u64 D, fun v _ => v = .int .u64 (((y + 4294967296 * x) % d : Nat) : Int), fun v _ => v = .int .u32 (((y + 4294967296 * x) % d : Nat) : Int), fun v _ => v = .int .u32 (((y + 4294967296 * x) / d : Nat) : Int), fun v _ => v = .int .u32 (((y + 4294967296 * x) % d : Nat) : Int)].getD iQ (fun _ _ => True)) (fun _ => True) 12 Try.mixed (by kernel_rfl) ?_ ?_ ?_
      · refine Vs_mono _ ?_
        intro VQ hVQ vQ wQ1 wQ2 hQ1 hQ2
        simp only [List.mem_cons, List.not_mem_nil, or_false] at hVQ
        rcases hVQ with rfl | rfl | rfl | rfl | rfl | rfl | rfl | rfl | rfl | rfl | rfl | rfl <;> exact hQ1
      · refine ⟨⟨rfl, ⟨rfl, trivial⟩, ?_⟩, ⟨rfl, ⟨rfl, trivial⟩, ?_⟩, ⟨rfl, trivial, ?_⟩, ⟨rfl, trivial, ?_⟩, ⟨rfl, trivial, ?_⟩, ⟨rfl, ⟨rfl, trivial⟩, ?_⟩, ⟨rfl, ⟨rfl, trivial⟩, ?_⟩, ⟨rfl, trivial, ?_⟩, ⟨rfl, trivial, ?_⟩, ⟨rfl, trivial, ?_⟩, ⟨rfl, trivial, ?_⟩, ⟨rfl, trivial, ?_⟩, trivial⟩
        · intro w13 hE
          intro R
          refine WL.move rfl rfl ?_
          exact WL.done ⟨_, rfl, rfl, rfl⟩
        · intro w14 hE
          intro R
          refine WL.move rfl rfl ?_
          exact WL.done ⟨_, rfl, rfl, rfl⟩
        · intro w15 hE
          rintro _ rfl
          intro R
          refine WL.conv (r := D) Try.underlying43 Try.underlying72 rfl (wu64 (by omega) (by omega) (by omega)) rfl ?_
          exact WL.done ⟨_, rfl, rfl, rfl⟩
        · intro w16 hE
          rintro _ rfl
          rintro _ rfl
          intro R
          refine WL.quo (r := (((y + 4294967296 * x) / d : Nat) : Int)) rfl rfl (by omega) (qu64 (by omega) (by omega) (by omega)) rfl ?_
          exact WL.done ⟨_, rfl, rfl, rfl⟩
        · intro w17 hE
          rintro _ rfl
          intro R
          refine WL.conv (r := (((y + 4294967296 * x) / d : Nat) : Int)) Try.underlying72 Try.underlying43 rfl (wu32n hq) rfl ?_
          exact WL.done ⟨_, rfl, rfl, rfl⟩
        · intro w18 hE
          intro R
          refine WL.move rfl rfl ?_
          exact WL.done ⟨_, rfl, rfl, rfl⟩
        · intro w19 hE
          intro R
          refine WL.move rfl rfl ?_
          exact WL.done ⟨_, rfl, rfl, rfl⟩
        · intro w20 hE
          rintro _ rfl
          intro R
          refine WL.conv (r := D) Try.underlying43 Try.underlying72 rfl (wu64 (by omega) (by omega) (by omega)) rfl ?_
          exact WL.done ⟨_, rfl, rfl, rfl⟩
        · intro w21 hE
          rintro _ rfl
          rintro _ rfl
          intro R
          refine WL.rem (r := (((y + 4294967296 * x) % d : Nat) : Int)) rfl rfl (by omega) (tmod_nat (by omega) (by omega)) rfl ?_
          exact WL.done ⟨_, rfl, rfl, rfl⟩
        · intro w22 hE
          rintro _ rfl
          intro R
          refine WL.conv (r := (((y + 4294967296 * x) % d : Nat) : Int)) Try.underlying72 Try.underlying43 rfl (wu32n (Nat.lt_trans hr hd)) rfl ?_
          exact WL.done ⟨_, rfl, rfl, rfl⟩
        · intro w23 hE
          rintro _ rfl
          intro R
          refine WL.assign rfl rfl ?_
          exact WL.done ⟨_, rfl, rfl, rfl⟩
        · intro w24 hE
          rintro _ rfl
          intro R
          refine WL.assign rfl rfl ?_
          exact WL.done ⟨_, rfl, rfl, rfl⟩
      · intro vals w25 hT hVs
        rw [if_neg (by decide)] at hT
        have hB := ext_trans hB hT
        have hv0 : vals 0 = _ := hVs 0 (by decide) (by decide)
        have hv1 : vals 1 = _ := hVs 1 (by decide) (by decide)
        have hv2 : vals 2 = _ := hVs 2 (by decide) (by decide)
        have hv3 : vals 3 = _ := hVs 3 (by decide) (by decide)
        have hv4 : vals 4 = _ := hVs 4 (by decide) (by decide)
        have hv5 : vals 5 = _ := hVs 5 (by decide) (by decide)
        have hv6 : vals 6 = _ := hVs 6 (by decide) (by decide)
        have hv7 : vals 7 = _ := hVs 7 (by decide) (by decide)
        have hv8 : vals 8 = _ := hVs 8 (by decide) (by decide)
        have hv9 : vals 9 = _ := hVs 9 (by decide) (by decide)
        have hv10 : vals 10 = _ := hVs 10 (by decide) (by decide)
        have hv11 : vals 11 = _ := hVs 11 (by decide) (by decide)
        rw [show (List.filterMap (fun i => Option.map (fun t => (t, vals i)) (dstAt _ i)) (List.range _)) = [(23, .int .u64 ((y + 4294967296 * x : Nat) : Int)), (24, .int .u32 D), (25, .int .u64 D), (26, .int .u64 (((y + 4294967296 * x) / d : Nat) : Int)), (27, .int .u32 (((y + 4294967296 * x) / d : Nat) : Int)), (28, .int .u64 ((y + 4294967296 * x : Nat) : Int)), (29, .int .u32 D), (30, .int .u64 D), (31, .int .u64 (((y + 4294967296 * x) % d : Nat) : Int)), (32, .int .u32 (((y + 4294967296 * x) % d : Nat) : Int)), (6, .int .u32 (((y + 4294967296 * x) / d : Nat) : Int)), (7, .int .u32 (((y + 4294967296 * x) % d : Nat) : Int))] from by
          show [(23, vals 0), (24, vals 1), (25, vals 2), (26, vals 3), (27, vals 4), (28, vals 5), (29, vals 6), (30, vals 7), (31, vals 8), (32, vals 9), (6, vals 10), (7, vals 11)] = _
          rw [hv0, hv1, hv2, hv3, hv4, hv5, hv6, hv7, hv8, hv9, hv10, hv11]]
        refine W.ret ?_
        refine ⟨_, rfl, ?_⟩
        exact ⟨rfl, hB⟩
  · exfalso
    omega

theorem smul_c {w : World} {b0 : Nat} {Aa : Option Addr} {ma ca : Nat} {xa : List Nat} (ho : Own b0 w 43 1 Aa ma ca (us xa)) (hb0s : b0 ≤ w.heap.size) (hLa : Lim xa) (hs : ma ≤ 1099511627776) (f e0 : Nat) {X Y : Int} (hX : X = f) (hY : Y = e0) (hf : f < 4294967296) (he : e0 < 4294967296) :
    Calls Try.prog 42 #[.slice Aa ma ca, .int .u32 X, .int .u32 Y] w fun e w2 => ∃ v, e = .returned v ∧ (fun v w2 => ∃ A2 m2 c2 ys, v = .slice A2 m2 c2 ∧ Below b0 w w2 ∧ Own b0 w2 43 1 A2 m2 c2 (us ys) ∧ Lim ys ∧ nv ys = nv xa * f + e0 ∧ m2 ≤ ma + 1) v w2 := by
  have ho_l := ho.rd.ulen
  have ho_x := ho.rd.max
  simp only [maxLen] at ho_x
  have ho_c := ho.rd.cap
  have hB := Below.refl b0 w
  refine calls_of_W (vs := [.slice Aa ma ca, .int .u32 X, .int .u32 Y]) [6] Try.func42 rfl rfl rfl rfl ?_
  refine W.seq ?_
  refine W.region ?_
  refine WL.assign rfl rfl ?_
  refine WL.done ?_
  refine W.seq ?_
  refine W.region ?_
  refine WL.move rfl rfl ?_
  refine WL.conv (r := Y) Try.underlying43 Try.underlying72 rfl (wu64 (by omega) (by omega) (by omega)) rfl ?_
  refine WL.assign rfl rfl ?_
  refine WL.done ?_
  refine W.seq ?_
  refine W.seq ?_
  refine W.region ?_
  refine WL.move rfl rfl ?_
  refine WL.len Try.underlying23 rfl rfl ?_
  refine WL.move rfl rfl ?_
  refine WL.done ?_
  refine W.block ?_
  refine W.loop (σ := Nat × Nat × List Nat) (fun s w1 => match s with | (i, c, zs) => Below b0 w w1 ∧ i ≤ ma ∧ c < 4294967296 ∧ Lim zs ∧ zs.length = ma ∧ (∀ t, i ≤ t → zs.getD t 0 = xa.getD t 0) ∧ nv zs + 4294967296 ^ i * c + nv (xa.take i) = nv (xa.take i) * f + e0 + nv xa ∧ Own b0 w1 43 1 Aa ma ca (us (zs))) (fun s => match s with | (i, c, zs) => [(0, .slice Aa ma ca), (1, .int .u32 X), (7, .int .u64 ((c : Nat) : Int)), (12, .slice Aa ma ca), (13, .int .i64 ((ma : Nat) : Int)), (14, .int .i64 ((i : Nat) : Int))]) (fun s => match s with | (i, c, zs) => ma - i) (0, e0, xa) ?_ ?_ ?_
  · exact ⟨hB, by omega, he, hLa, by omega, fun _ _ => rfl, by simp; omega, ho⟩
  · exact ⟨rfl, iv (by omega), iv (by omega), rfl, iv (by omega), iv (by omega), trivial⟩
  · rintro ⟨i, c, zs⟩ w11 ⟨hB, hi, hc, hLz, hlz, hsame, heq, ho⟩
    have hz := hLz.getD i
    have hm0 := mul_lim0 hz hf
    have hm1 := mul_lim hz hf (show 0 < 4294967296 by decide) hc
    refine W.seq ?_
    refine W.region ?_
    refine WL.lss rfl rfl rfl (fun c12 => ?_) (fun c12 => ?_)
    · refine WL.done ?_
      refine W.seq ?_
      refine W.condT rfl ?_
      refine W.skip ?_
      refine W.seq ?_
      refine W.block ?_
      refine W.seq ?_
      refine W.region ?_
      refine WL.move rfl rfl ?_
      refine WL.index1 (i) Try.underlying23 Try.el43 rfl rfl (by omega) (by omega) ho.rd rfl ?_
      refine WL.load Try.underlying43 rfl rfl (Rd.at_ ho.rd (us_at (by omega))) rfl ?_
      refine WL.assign rfl rfl ?_
      refine WL.assign rfl rfl ?_
      refine WL.done ?_
      refine W.seq ?_
      refine W.region ?_
      refine WL.move rfl rfl ?_
      refine WL.move rfl rfl ?_
      refine WL.conv (r := ((zs.getD i 0 : Nat) : Int)) Try.underlying43 Try.underlying72 rfl (wu64 (by omega) (by omega) (by omega)) rfl ?_
      refine WL.move rfl rfl ?_
      refine WL.conv (r := X) Try.underlying43 Try.underlying72 rfl (wu64 (by omega) (by omega) (by omega)) rfl ?_
      refine WL.mul (r := (((zs.getD i 0) * f : Nat) : Int)) rfl rfl (by subst hX; rw [← Int.natCast_mul]; exact wu64 (by omega) (by omega) rfl) rfl ?_
      refine WL.add (r := ((c + ((zs.getD i 0) * f) : Nat) : Int)) rfl rfl (wu64 (by omega) (by omega) (by omega)) rfl ?_
      refine WL.assign rfl rfl ?_
      refine WL.done ?_
      refine W.seq ?_
      refine W.region ?_
      refine WL.move rfl rfl ?_
      refine WL.move rfl rfl ?_
      refine WL.move rfl rfl ?_
      refine WL.conv (r := (((c + zs.getD i 0 * f) % 4294967296 : Nat) : Int)) Try.underlying72 Try.underlying43 rfl (wu32m (by omega)) rfl ?_
      refine WL.index1 (i) Try.underlying23 Try.el43 rfl rfl (by omega) (by omega) ho.rd rfl ?_
      refine WL.store Try.el43 rfl rfl rfl (by omega) ho ?_
      have hOld14 := ho
      intro w13 ho hGw13
      change Own _ _ _ _ _ _ _ ((us zs).set i (.int .u32 (((c + zs.getD i 0 * f) % 4294967296 : Nat) : Int))) at ho
      rw [us_set] at ho
      have hB := hB.grown hGw13 (Nat.le_trans hb0s hB.size) (fun g hg => (hOld14.bl_ge g hg).1)
      have := ho.rd.ulen
      refine WL.done ?_
      refine W.region ?_
      refine WL.move rfl rfl ?_
      refine WL.shr (r := (((c + ((zs.getD i 0) * f)) / 4294967296 : Nat) : Int)) rfl rfl (by omega) (shr_nat (a := c + ((zs.getD i 0) * f)) (s := 32) (by omega) (by omega) 64 (by omega)) rfl ?_
      refine WL.assign rfl rfl ?_
      refine WL.done ?_
      refine W.region ?_
      refine WL.add (r := ((i + 1 : Nat) : Int)) rfl rfl (wi64 (by omega) (by omega) (by omega)) rfl ?_
      refine WL.move rfl rfl ?_
      refine WL.done ?_
      refine ⟨(i + 1, (c + zs.getD i 0 * f) / 4294967296, zs.set i ((c + zs.getD i 0 * f) % 4294967296)), ⟨rfl, iv (by omega), iv (by omega), rfl, iv (by omega), iv (by omega), trivial⟩, by (dsimp only; omega), ?_⟩
      exact ⟨hB, by omega, by omega, hLz.set _ (by omega), by simp [hlz], fun t ht => by rw [getD_set_ne (by omega)]; exact hsame t (by omega), smul_step (by omega) rfl (hsame i (by omega)).symm heq rfl, ho⟩
    · refine WL.done ?_
      refine W.seq ?_
      refine W.condF rfl ?_
      refine W.exit ?_
      refine W.seq ?_
      refine W.seq ?_
      refine W.region ?_
      refine WL.move rfl rfl ?_
      refine WL.neq rfl rfl rfl (fun c15 => ?_) (fun c15 => ?_)
      · refine WL.done ?_
        refine W.condT rfl ?_
        refine W.region ?_
        refine WL.move rfl rfl ?_
        refine WL.move rfl rfl ?_
        refine WL.conv (r := ((c : Nat) : Int)) Try.underlying72 Try.underlying43 rfl (wu32 (by omega) (by omega) (by omega)) rfl ?_
        refine WL.lit1 (b := w11.heap.size) Try.underlying23 Try.el43 rfl rfl rfl rfl (by intro v hv; simp only [List.mem_cons, List.not_mem_nil, or_false] at hv; rcases hv with rfl <;> rfl) (Nat.le_refl _) rfl ?_
        rintro A16 w17 - hO18 hGw17
        have hO18 := hO18.low (b' := b0) (Nat.le_trans hb0s hB.size)
        have hB := hB.grown hGw17 (Nat.le_trans hb0s hB.size) (fun _ h => by cases h)
        have ho := ho.ext hGw17
        change Own _ _ _ _ _ _ _ (us [c]) at hO18
        refine WL.append (ma + 1) ((us (zs ++ ([c])))) Try.underlying23 Try.el43 rfl rfl ho hO18.rd (us_one _) (by simp only [maxLen]; omega) (by omega) (Nat.le_trans hb0s hB.size) (by omega) (us_app rfl) rfl ?_
        have hOld22 := ho
        intro A19 cp20 w21 hO hGw21 hblw21
        have hB := hB.grown hGw21 (Nat.le_trans hb0s hB.size) (fun g hg => (hOld22.bl_ge g hg).1)
        refine WL.assign rfl rfl ?_
        refine WL.done ?_
        refine W.seq ?_
        refine W.region ?_
        refine WL.move rfl rfl ?_
        refine WL.assign rfl rfl ?_
        refine WL.done ?_
        refine W.ret ?_
        refine ⟨_, rfl, ?_⟩
        obtain rfl : i = ma := by omega
        rw [nv_take_all (by omega)] at heq
        exact ⟨_, _, _, _, rfl, hB, hO, hLz.append (Lim.one hc), by rw [nv_append, nv_one, hlz]; omega, by omega⟩
      · refine WL.done ?_
        refine W.condF rfl ?_
        refine W.skip ?_
        refine W.seq ?_
        refine W.region ?_
        refine WL.move rfl rfl ?_
        refine WL.assign rfl rfl ?_
        refine WL.done ?_
        refine W.ret ?_
        refine ⟨_, rfl, ?_⟩
        obtain rfl : i = ma := by omega
        have hc0 : c = 0 := by omega
        subst hc0
        rw [nv_take_all (by omega), Nat.mul_zero] at heq
        exact ⟨_, _, _, _, rfl, hB, ho, hLz, by omega, by omega⟩

theorem sdiv_c {w : World} {b0 : Nat} {Aa : Option Addr} {ma ca : Nat} {xa : List Nat} (ho : Own b0 w 43 1 Aa ma ca (us xa)) (hb0s : b0 ≤ w.heap.size) (hLa : Lim xa) (hs : ma ≤ 1099511627776) (d : Nat) {X : Int} (hX : X = d) (hd0 : 0 < d) (hd : d < 4294967296) :
    Calls Try.prog 43 #[.slice Aa ma ca, .int .u32 X] w fun e w2 => ∃ v, e = .returned v ∧ (fun v w2 => ∃ ys, v = .int .u32 ((nv xa % d : Nat) : Int) ∧ Below b0 w w2 ∧ Own b0 w2 43 1 Aa ma ca (us ys) ∧ Lim ys ∧ ys.length = ma ∧ nv ys = nv xa / d) v w2 := by
  have ho_l := ho.rd.ulen
  have ho_x := ho.rd.max
  simp only [maxLen] at ho_x
  have ho_c := ho.rd.cap
  have hB := Below.refl b0 w
  refine calls_of_W (vs := [.slice Aa ma ca, .int .u32 X]) [4] Try.func43 rfl rfl rfl rfl ?_
  refine W.seq ?_
  refine W.region ?_
  refine WL.assign rfl rfl ?_
  refine WL.done ?_
  refine W.seq ?_
  refine W.region ?_
  refine WL.assign rfl rfl ?_
  refine WL.done ?_
  refine W.seq ?_
  refine W.seq ?_
  refine W.region ?_
  refine WL.move rfl rfl ?_
  refine WL.len Try.underlying23 rfl rfl ?_
  refine WL.sub (r := ((ma : Nat) : Int) - 1) rfl rfl (wi64 (by omega) (by omega) (by omega)) rfl ?_
  refine WL.assign rfl rfl ?_
  refine WL.done ?_
  refine W.block ?_
  refine W.loop (σ := Nat × Nat × List Nat) (fun s w1 => match s with | (j, r, zs) => Below b0 w w1 ∧ j ≤ ma ∧ r < d ∧ Lim zs ∧ zs.length = ma ∧ (∀ t, t < j → zs.getD t 0 = xa.getD t 0) ∧ nv (xa.drop j) = nv (zs.drop j) * d + r ∧ Own b0 w1 43 1 Aa ma ca (us (zs))) (fun s => match s with | (j, r, zs) => [(0, .slice Aa ma ca), (1, .int .u32 X), (5, .int .u32 ((r : Nat) : Int)), (6, .int .i64 (((j : Nat) : Int) - 1))]) (fun s => match s with | (j, r, zs) => j) (ma, 0, xa) ?_ ?_ ?_
  · exact ⟨hB, by omega, hd0, hLa, by omega, fun _ _ => rfl, by rw [List.drop_of_length_le (by omega)]; simp, ho⟩
  · exact ⟨rfl, iv (by omega), iv (by omega), iv (by omega), trivial⟩
  · rintro ⟨j, r, zs⟩ w11 ⟨hB, hj, hr, hLz, hlz, hsame, heq, ho⟩
    have hz := hLz.getD (j - 1)
    have hq := div_lim hr hz
    have hmr := Nat.mod_lt (zs.getD (j - 1) 0 + 4294967296 * r) (show d > 0 by omega)
    refine W.seq ?_
    refine W.seq ?_
    refine W.region ?_
    refine WL.move rfl rfl ?_
    refine WL.geq rfl rfl rfl (fun c12 => ?_) (fun c12 => ?_)
    · refine WL.done ?_
      refine W.condT rfl ?_
      refine W.skip ?_
      refine W.seq ?_
      refine W.block ?_
      refine W.region ?_
      refine WL.move rfl rfl ?_
      refine WL.move rfl rfl ?_
      refine WL.move rfl rfl ?_
      refine WL.move rfl rfl ?_
      refine WL.move rfl rfl ?_
      refine WL.index1 (j - 1) Try.underlying23 Try.el43 rfl rfl (by omega) (by omega) ho.rd rfl ?_
      refine WL.load Try.underlying43 rfl rfl (Rd.at_ ho.rd (us_at (by omega))) rfl ?_
      refine WL.move rfl rfl ?_
      refine WL.call Try.func77 rfl Try.nm77 rfl rfl (Div32_c r (zs.getD (j - 1) 0) d (by omega) (by omega) (by omega) (by omega) (by omega) (by omega)) ?_
      rintro _ w13 ⟨rfl, hGw13⟩
      have hB := hB.grown hGw13 (Nat.le_trans hb0s hB.size) (fun _ h => by cases h)
      have ho := ho.ext hGw13
      refine WL.move rfl rfl ?_
      refine WL.extract rfl rfl rfl ?_
      refine WL.extract rfl rfl rfl ?_
      refine WL.index1 (j - 1) Try.underlying23 Try.el43 rfl rfl (by omega) (by omega) ho.rd rfl ?_
      refine WL.store Try.el43 rfl rfl rfl (by omega) ho ?_
      have hOld15 := ho
      intro w14 ho hGw14
      change Own _ _ _ _ _ _ _ ((us zs).set (j - 1) (.int .u32 ((((zs.getD (j - 1) 0) + 4294967296 * r) / d : Nat) : Int))) at ho
      rw [us_set] at ho
      have hB := hB.grown hGw14 (Nat.le_trans hb0s hB.size) (fun g hg => (hOld15.bl_ge g hg).1)
      have := ho.rd.ulen
      refine WL.assign rfl rfl ?_
      refine WL.done ?_
      refine W.region ?_
      refine WL.move rfl rfl ?_
      refine WL.sub (r := ((((j : Nat) : Int) - 1) - (1 : Int))) rfl rfl (wi64 (by omega) (by omega) (by omega)) rfl ?_
      refine WL.assign rfl rfl ?_
      refine WL.done ?_
      refine ⟨(j - 1, (zs.getD (j - 1) 0 + 4294967296 * r) % d, zs.set (j - 1) ((zs.getD (j - 1) 0 + 4294967296 * r) / d)), ⟨rfl, iv (by omega), iv (by omega), iv (by omega), trivial⟩, by (dsimp only; omega), ?_⟩
      exact ⟨hB, by omega, hmr, hLz.set _ hq, by simp [hlz], fun t ht => by rw [getD_set_ne (by omega)]; exact hsame t (by omega), div_step (by omega) (by rw [show j - 1 + 1 = j by omega]; exact heq) (hsame (j - 1) (by omega)).symm rfl, ho⟩
    · refine WL.done ?_
      refine W.condF rfl ?_
      refine W.exit ?_
      refine W.seq ?_
      refine W.region ?_
      refine WL.move rfl rfl ?_
      refine WL.assign rfl rfl ?_
      refine WL.done ?_
      refine W.ret ?_
      refine ⟨_, rfl, ?_⟩
      obtain rfl : j = 0 := by omega
      rw [List.drop_zero, List.drop_zero] at heq
      obtain ⟨e1, e2⟩ := div_end heq hr
      exact ⟨_, by rw [e2], hB, ho, hLz, hlz, e1⟩

theorem binom_step {M s f q : Nat} (hf : f = M + 1) (h : q = choose M s * f + 0) : q / (s + 1) = choose (M + 1) (s + 1) := by
  rw [h, hf, Nat.add_zero, Nat.mul_comm, choose_absorb, Nat.mul_div_cancel _ (by omega)]
theorem small_step {M s : Nat} (h : s ≤ M) : choose M s * (M - s) / (s + 1) = choose M (s + 1) := by
  rw [choose_next h, Nat.mul_div_cancel _ (by omega)]

theorem Binomial_ok {w : World} (n : Nat) {X Y : Int} (hX : X = n) (hn : n ≤ 4096) (k : Nat) (hY : Y = k) (hk : k ≤ n) :
    Calls Try.prog 13 #[.int .i64 X, .int .i64 Y] w fun e w2 => ∃ v, e = .returned v ∧ (fun v w2 => ∃ A2 m2 c2, v = .tuple #[.slice A2 m2 c2, .int .i64 0] ∧ w.grownBy w2 none ∧ Own w.heap.size w2 43 1 A2 m2 c2 (us (digs (choose n k))) ∧ m2 ≤ 129) v w2 := by
  obtain ⟨kk, hkk⟩ : ∃ kk, kk = min k (n - k) := ⟨_, rfl⟩
  have hB := ext_refl w
  refine calls_of_W (vs := [.int .i64 X, .int .i64 Y]) [4, 5] Try.func13 rfl rfl rfl rfl ?_
  refine W.seq ?_
  refine W.region ?_
  refine WL.assign rfl rfl ?_
  refine WL.assign rfl rfl ?_
  refine WL.done ?_
  refine W.seq ?_
  refine W.seq ?_
  refine W.region ?_
  refine WL.move rfl rfl ?_
  refine WL.lss rfl rfl rfl (fun c11 => ?_) (fun c11 => ?_)
  · exfalso
    omega
  · refine WL.move rfl rfl ?_
    refine WL.take rfl ?_
    refine WL.move rfl rfl ?_
    refine WL.take rfl ?_
    refine WL.gtr rfl rfl rfl (fun c12 => ?_) (fun c12 => ?_)
    · exfalso
      omega
    · refine WL.pick rfl rfl rfl ?_
      refine WL.done ?_
      refine W.condF rfl ?_
      refine W.skip ?_
      refine W.seq ?_
      refine W.seq ?_
      refine W.region ?_
      refine WL.move rfl rfl ?_
      refine WL.lss rfl rfl rfl (fun c13 => ?_) (fun c13 => ?_)
      · exfalso
        omega
      · refine WL.move rfl rfl ?_
        refine WL.take rfl ?_
        refine WL.move rfl rfl ?_
        refine WL.take rfl ?_
        refine WL.move rfl rfl ?_
        refine WL.take rfl ?_
        refine WL.gtr rfl rfl rfl (fun c14 => ?_) (fun c14 => ?_)
        · exfalso
          omega
        · refine WL.pick rfl rfl rfl ?_
          refine WL.done ?_
          refine W.condF rfl ?_
          refine W.skip ?_
          refine W.seq ?_
          refine W.region ?_
          refine WL.move rfl rfl ?_
          refine WL.move rfl rfl ?_
          refine WL.move rfl rfl ?_
          refine WL.sub (r := ((n - k : Nat) : Int)) rfl rfl (wi64 (by omega) (by omega) (by omega)) rfl ?_
          refine WL.min2 (r := ((kk : Nat) : Int)) rfl rfl (by omega) rfl ?_
          refine WL.assign rfl rfl ?_
          refine WL.done ?_
          refine W.seq ?_
          refine W.region ?_
          refine WL.lit1 (b := w.heap.size) Try.underlying23 Try.el43 rfl rfl rfl rfl (by intro v hv; simp only [List.mem_cons, List.not_mem_nil, or_false] at hv; rcases hv with rfl <;> rfl) (Nat.le_refl _) rfl ?_
          rintro A15 w16 - hO17 hGw16
          have hO17 := hO17.low (b' := w.heap.size) hB.size
          have hB := ext_trans hB hGw16
          change Own _ _ _ _ _ _ _ (us [1]) at hO17
          refine WL.assign rfl rfl ?_
          refine WL.done ?_
          refine W.seq ?_
          refine W.seq ?_
          refine W.region ?_
          refine WL.assign rfl rfl ?_
          refine WL.done ?_
          refine W.block ?_
          refine W.loop (σ := Nat × Option Addr × Nat × Nat) (fun s w1 => match s with | (s, Ao, mo, co) => w.grownBy w1 none ∧ s ≤ kk ∧ Own w.heap.size w1 43 1 Ao mo co (us (digs (choose (n - kk + s) s)))) (fun s => match s with | (s, Ao, mo, co) => [(0, .int .i64 X), (1, .int .i64 ((kk : Nat) : Int)), (6, .slice Ao mo co), (7, .int .i64 ((s + 1 : Nat) : Int))]) (fun s => match s with | (s, Ao, mo, co) => kk - s) (0, A15, 1, 1) ?_ ?_ ?_
          · exact ⟨hB, by omega, by rw [choose_zero, digs_lit rfl (by decide) (by decide)]; exact hO17⟩
          · exact ⟨iv (by omega), iv (by omega), rfl, iv (by omega), trivial⟩
          · rintro ⟨s, Ao, mo, co⟩ w18 ⟨hB, hs, ho⟩
            have ho_l := ho.rd.ulen
            have hcl := choose_len (n := n - kk + s) (k := s) (by omega)
            refine W.seq ?_
            refine W.seq ?_
            refine W.region ?_
            refine WL.move rfl rfl ?_
            refine WL.move rfl rfl ?_
            refine WL.leq rfl rfl rfl (fun c19 => ?_) (fun c19 => ?_)
            · refine WL.done ?_
              refine W.condT rfl ?_
              refine W.skip ?_
              refine W.seq ?_
              refine W.block ?_
              refine W.seq ?_
              refine W.region ?_
              refine WL.move rfl rfl ?_
              refine WL.move rfl rfl ?_
              refine WL.move rfl rfl ?_
              refine WL.sub (r := ((n - kk : Nat) : Int)) rfl rfl (wi64 (by omega) (by omega) (by omega)) rfl ?_
              refine WL.move rfl rfl ?_
              refine WL.add (r := (((n - kk) + (s + 1) : Nat) : Int)) rfl rfl (wi64 (by omega) (by omega) (by omega)) rfl ?_
              refine WL.conv (r := (((n - kk) + (s + 1) : Nat) : Int)) Try.underlying3 Try.underlying43 rfl (wu32 (by omega) (by omega) (by omega)) rfl ?_
              refine WL.call Try.func42 rfl Try.nm42 rfl rfl (smul_c ho hB.size (digs_lim _) (by omega) ((n - kk) + (s + 1)) 0 (by omega) (by omega) (by omega) (by omega)) ?_
              rintro _ w20 ⟨A21, m22, cp23, ys24, rfl, hGw20, hO1, hLys24, hvhO1, hm25⟩
              have hB := ext_bel hB hGw20
              have hO1_l := hO1.rd.ulen
              refine WL.assign rfl rfl ?_
              refine WL.done ?_
              refine W.seq ?_
              refine W.region ?_
              refine WL.move rfl rfl ?_
              refine WL.move rfl rfl ?_
              refine WL.conv (r := ((s + 1 : Nat) : Int)) Try.underlying3 Try.underlying43 rfl (wu32 (by omega) (by omega) (by omega)) rfl ?_
              refine WL.call Try.func43 rfl Try.nm43 rfl rfl (sdiv_c hO1 hB.size hLys24 (by omega) (s + 1) (by omega) (by omega) (by omega)) ?_
              rintro _ w26 ⟨ys27, rfl, hGw26, hO2, hLys27, hlys27, hvhO2⟩
              have hB := ext_bel hB hGw26
              have hO2_l := hO2.rd.ulen
              refine WL.done ?_
              refine W.region ?_
              refine WL.move rfl rfl ?_
              refine WL.call Try.func44 rfl Try.nm44 rfl rfl (sig_c hO2.rd) ?_
              rintro _ w28 ⟨rfl, hGw28⟩
              have hB := ext_trans hB hGw28
              have hO2 := hO2.ext hGw28
              refine WL.assign rfl rfl ?_
              refine WL.done ?_
              refine W.region ?_
              refine WL.move rfl rfl ?_
              refine WL.add (r := (((s + 1) + 1 : Nat) : Int)) rfl rfl (wi64 (by omega) (by omega) (by omega)) rfl ?_
              refine WL.assign rfl rfl ?_
              refine WL.done ?_
              refine ⟨(s + 1, _, _, _), ⟨iv (by omega), iv (by omega), rfl, iv (by omega), trivial⟩, by (dsimp only; omega), ?_⟩
              have hO3 := hO2.sig
              rw [digs_trim hLys27, hvhO2, binom_step (show n - kk + (s + 1) = n - kk + s + 1 by omega) (by rw [hvhO1, nv_digs])] at hO3
              exact ⟨hB, by omega, hO3⟩
            · refine WL.done ?_
              refine W.condF rfl ?_
              refine W.exit ?_
              refine W.seq ?_
              refine W.region ?_
              refine WL.move rfl rfl ?_
              refine WL.assign rfl rfl ?_
              refine WL.assign rfl rfl ?_
              refine WL.done ?_
              refine W.ret ?_
              refine ⟨_, rfl, ?_⟩
              have hs2 : s = kk := by omega
              subst hs2
              rw [show n - s + s = n by omega, show choose n s = choose n k by rcases (by omega : s = k ∨ s = n - k) with h | h; (rw [h]); (rw [h, choose_symm hk])] at ho
              have := choose_len (n := n) (k := k) (by omega)
              have := ho.rd.ulen
              exact ⟨_, _, _, rfl, hB, ho, by omega⟩

theorem Binomial_nil {w : World} (n : Nat) {X Y : Int} (hX : X = n) (hn : n ≤ 4096) (h : Y < 0 ∨ (n : Int) < Y) :
    Calls Try.prog 13 #[.int .i64 X, .int .i64 Y] w fun e w2 => ∃ v, e = .returned v ∧ (fun v w2 => ∃ A2 m2 c2, v = .tuple #[.slice A2 m2 c2, .int .i64 0] ∧ w.grownBy w2 none ∧ Own w.heap.size w2 43 1 A2 m2 c2 (us (digs (chz n Y))) ∧ m2 ≤ 129) v w2 := by
  have hB := ext_refl w
  refine calls_of_W (vs := [.int .i64 X, .int .i64 Y]) [4, 5] Try.func13 rfl rfl rfl rfl ?_
  refine W.seq ?_
  refine W.region ?_
  refine WL.assign rfl rfl ?_
  refine WL.assign rfl rfl ?_
  refine WL.done ?_
  refine W.seq ?_
  refine W.seq ?_
  refine W.region ?_
  refine WL.move rfl rfl ?_
  refine WL.lss rfl rfl rfl (fun c11 => ?_) (fun c11 => ?_)
  · exfalso
    omega
  · refine WL.move rfl rfl ?_
    refine WL.take rfl ?_
    refine WL.move rfl rfl ?_
    refine WL.take rfl ?_
    refine WL.gtr rfl rfl rfl (fun c12 => ?_) (fun c12 => ?_)
    · exfalso
      omega
    · refine WL.pick rfl rfl rfl ?_
      refine WL.done ?_
      refine W.condF rfl ?_
      refine W.skip ?_
      refine W.seq ?_
      refine W.seq ?_
      refine W.region ?_
      refine WL.move rfl rfl ?_
      refine WL.lss rfl rfl rfl (fun c13 => ?_) (fun c13 => ?_)
      · refine WL.move rfl rfl ?_
        refine WL.pass rfl rfl rfl ?_
        refine WL.pass rfl rfl rfl ?_
        refine WL.pass rfl rfl rfl ?_
        refine WL.pick rfl rfl rfl ?_
        refine WL.done ?_
        refine W.condT rfl ?_
        refine W.seq ?_
        refine W.region ?_
        refine WL.assign rfl rfl ?_
        refine WL.assign rfl rfl ?_
        refine WL.done ?_
        refine W.ret ?_
        refine ⟨_, rfl, ?_⟩
        have e : digs (chz n Y) = [] := by rw [show chz n Y = 0 by rcases h with h | h; (exact chz_neg n h); (exact chz_big h)]; rfl
        rw [e]
        exact ⟨_, _, _, rfl, hB, World.ownsRow_nil _ _ _ _, by omega⟩
      · refine WL.move rfl rfl ?_
        refine WL.take rfl ?_
        refine WL.move rfl rfl ?_
        refine WL.take rfl ?_
        refine WL.move rfl rfl ?_
        refine WL.take rfl ?_
        refine WL.gtr rfl rfl rfl (fun c14 => ?_) (fun c14 => ?_)
        · refine WL.pick rfl rfl rfl ?_
          refine WL.done ?_
          refine W.condT rfl ?_
          refine W.seq ?_
          refine W.region ?_
          refine WL.assign rfl rfl ?_
          refine WL.assign rfl rfl ?_
          refine WL.done ?_
          refine W.ret ?_
          refine ⟨_, rfl, ?_⟩
          have e : digs (chz n Y) = [] := by rw [show chz n Y = 0 by rcases h with h | h; (exact chz_neg n h); (exact chz_big h)]; rfl
          rw [e]
          exact ⟨_, _, _, rfl, hB, World.ownsRow_nil _ _ _ _, by omega⟩
        · exfalso
          omega

theorem Binomial_err {w : World} {X Y : Int} (hX : X < 0 ∨ 4096 < X) :
    Calls Try.prog 13 #[.int .i64 X, .int .i64 Y] w fun e w2 => ∃ v, e = .returned v ∧ (fun v w2 => v = .tuple #[.slice none 0 0, .int .i64 6] ∧ w.grownBy w2 none) v w2 := by
  have hB := ext_refl w
  refine calls_of_W (vs := [.int .i64 X, .int .i64 Y]) [4, 5] Try.func13 rfl rfl rfl rfl ?_
  refine W.seq ?_
  refine W.region ?_
  refine WL.assign rfl rfl ?_
  refine WL.assign rfl rfl ?_
  refine WL.done ?_
  refine W.seq ?_
  refine W.seq ?_
  refine W.region ?_
  refine WL.move rfl rfl ?_
  refine WL.lss rfl rfl rfl (fun c11 => ?_) (fun c11 => ?_)
  · refine WL.move rfl rfl ?_
    refine WL.pass rfl rfl rfl ?_
    refine WL.pass rfl rfl rfl ?_
    refine WL.pick rfl rfl rfl ?_
    refine WL.done ?_
    refine W.condT rfl ?_
    refine W.seq ?_
    refine W.region ?_
    refine WL.assign rfl rfl ?_
    refine WL.assign rfl rfl ?_
    refine WL.done ?_
    refine W.ret ?_
    refine ⟨_, rfl, ?_⟩
    exact ⟨rfl, hB⟩
  · refine WL.move rfl rfl ?_
    refine WL.take rfl ?_
    refine WL.move rfl rfl ?_
    refine WL.take rfl ?_
    refine WL.gtr rfl rfl rfl (fun c12 => ?_) (fun c12 => ?_)
    · refine WL.pick rfl rfl rfl ?_
      refine WL.done ?_
      refine W.condT rfl ?_
      refine W.seq ?_
      refine W.region ?_
      refine WL.assign rfl rfl ?_
      refine WL.assign rfl rfl ?_
      refine WL.done ?_
      refine W.ret ?_
      refine ⟨_, rfl, ?_⟩
      exact ⟨rfl, hB⟩
    · exfalso
      omega

theorem Binomial_c {w : World} (n : Nat) {X Y : Int} (hX : X = n) (hn : n ≤ 4096)  : Calls Try.prog 13 #[.int .i64 X, .int .i64 Y] w fun e w2 => ∃ v, e = .returned v ∧ (fun v w2 => ∃ A2 m2 c2, v = .tuple #[.slice A2 m2 c2, .int .i64 0] ∧ w.grownBy w2 none ∧ Own w.heap.size w2 43 1 A2 m2 c2 (us (digs (chz n Y))) ∧ m2 ≤ 129) v w2 := by
  by_cases h : Y < 0 ∨ (n : Int) < Y
  · exact Binomial_nil n hX hn h
  · rw [chz_nat n Y.toNat (by omega)]
    exact Binomial_ok n hX hn Y.toNat (by omega) (by omega)

theorem chz_pascal (n k : Nat) {K K1 : Int} (hK : K = k) (h1 : K1 = k + 1) : chz (n + 1) K1 = chz n K + chz n K1 := by
  rw [chz_nat (n + 1) (k + 1) (by omega), chz_nat n k hK, chz_nat n (k + 1) (by omega), choose_succ]
theorem chz_symm (n k : Nat) {K D : Int} (hK : K = k) (hD : D = (n : Int) - k) : chz n D = chz n K := by
  rw [chz_nat n k hK]
  rcases Nat.lt_or_ge n k with h | h
  · rw [chz_neg n (by omega), choose_big h]
  · rw [chz_nat n (n - k) (by omega), choose_symm h]
end Go.Proofs.Ythfpcebcfjlkmab
