/- Contracts of functions of the program, and what they lean on: W4, W5, W6, W7, Bl, W8, Pw, W9, Ch, W10, Va, W11, Kn. -/
import Derived.Test.YthfpcebcfjlkmacG2
set_option linter.unusedSimpArgs false
set_option linter.unusedVariables false
namespace Go.Proofs.Ythfpcebcfjlkmac
open Go.RowKit
theorem product_c {w : World} {Ba : Nat} {Aa : Option Addr} {ma ca : Nat} {xa : List Nat} (ha : Rd Ba w 1 Aa ma ca (us xa)) {Bb : Nat} {Ab : Option Addr} {mb cb : Nat} {xb : List Nat} (hb : Rd Bb w 1 Ab mb cb (us xb)) (hLa : Lim xa) (hLb : Lim xb) (hsa : ma ≤ 1099511627776) (hsb : mb ≤ 1099511627776) :
    Calls Try.prog 63 #[.slice Aa ma ca, .slice Ab mb cb] w fun e w2 => ∃ v, e = .returned v ∧ (fun v w2 => ∃ A2 m2 c2, v = .slice A2 m2 c2 ∧ w.grownBy w2 none ∧ Own w.heap.size w2 48 1 A2 m2 c2 (us (digs (nv xa * nv xb))) ∧ m2 ≤ ma + mb) v w2 := by
  have ha := ha.norm
  have ha_l := ha.ulen
  have ha_x := ha.max
  simp only [maxLen] at ha_x
  have ha_c := ha.cap
  have hb := hb.norm
  have hb_l := hb.ulen
  have hb_x := hb.max
  simp only [maxLen] at hb_x
  have hb_c := hb.cap
  have ha0 := ha
  have hb0 := hb
  have hB := ext_refl w
  refine calls_of_W (vs := [.slice Aa ma ca, .slice Ab mb cb]) [4] Try.func63 rfl rfl rfl rfl ?_
  refine W.seq ?_
  refine W.region ?_
  refine WL.assign rfl rfl ?_
  refine WL.done ?_
  refine W.seq ?_
  refine W.region ?_
  refine WL.move rfl rfl ?_
  refine WL.len Try.underlying23 rfl rfl ?_
  refine WL.move rfl rfl ?_
  refine WL.len Try.underlying23 rfl rfl ?_
  refine WL.add (r := ((ma + mb : Nat) : Int)) rfl rfl (wi64 (by omega) (by omega) (by omega)) rfl ?_
  refine WL.make (w.heap.size) (ma + mb) Try.underlying23 Try.el48 rfl rfl (by omega) (by omega) (by simp only [maxLen]; omega) (Nat.le_of_eq rfl) rfl ?_
  rintro A11 w12 - ho hGw12
  rw [made_us] at ho
  have ho := ho.low (b' := w.heap.size) hB.size
  have hB := ext_trans hB hGw12
  have ha := ha0.ext hB
  have hb := hb0.ext hB
  refine WL.assign rfl rfl ?_
  refine WL.done ?_
  refine W.seq ?_
  refine W.seq ?_
  refine W.region ?_
  refine WL.move rfl rfl ?_
  refine WL.len Try.underlying23 rfl rfl ?_
  refine WL.move rfl rfl ?_
  refine WL.done ?_
  refine W.block ?_
  refine W.loop (σ := Nat × Nat × List Nat × Option Addr × Nat) (fun s w1 => match s with | (i, n, zs, Ao, co) => w.grownBy w1 none ∧ i ≤ ma ∧ n = ma + mb ∧ Lim zs ∧ zs.length = n ∧ (∀ t, i + mb ≤ t → zs.getD t 0 = 0) ∧ nv zs = nv (xa.take i) * nv xb ∧ Own w.heap.size w1 48 1 Ao n co (us zs)) (fun s => match s with | (i, n, zs, Ao, co) => [(0, .slice Aa ma ca), (1, .slice Ab mb cb), (5, .slice Ao n co), (17, .slice Aa ma ca), (18, .int .i64 ((ma : Nat) : Int)), (19, .int .i64 ((i : Nat) : Int))]) (fun s => match s with | (i, n, zs, Ao, co) => ma - i) (0, ma + mb, List.replicate (ma + mb) 0, A11, ma + mb) ?_ ?_ ?_
  · exact ⟨hB, by omega, rfl, Lim.zeros _, by simp, fun t _ => zeros_getD _ _, by simp [nv_zeros], ho⟩
  · exact ⟨rfl, rfl, rfl, rfl, iv (by omega), iv (by omega), trivial⟩
  · rintro ⟨i, n, zs, Ao, co⟩ w13 ⟨hB, hi, hn, hLz, hlz, h0z, heq, ho⟩
    have ha := ha0.ext hB
    have hb := hb0.ext hB
    have hxa := hLa.getD i
    refine W.seq ?_
    refine W.region ?_
    refine WL.lss rfl rfl rfl (fun c14 => ?_) (fun c14 => ?_)
    · refine WL.done ?_
      refine W.seq ?_
      refine W.condT rfl ?_
      refine W.skip ?_
      refine W.seq ?_
      refine W.block ?_
      refine W.seq ?_
      refine W.region ?_
      refine WL.move rfl rfl ?_
      refine WL.index1 (i) Try.underlying23 Try.el48 rfl rfl (by omega) (by omega) ha rfl ?_
      refine WL.load Try.underlying48 rfl rfl (Rd.at_ ha (us_at (by omega))) rfl ?_
      refine WL.assign rfl rfl ?_
      refine WL.assign rfl rfl ?_
      refine WL.done ?_
      refine W.seq ?_
      refine W.region ?_
      refine WL.assign rfl rfl ?_
      refine WL.done ?_
      refine W.seq ?_
      refine W.seq ?_
      refine W.region ?_
      refine WL.move rfl rfl ?_
      refine WL.len Try.underlying23 rfl rfl ?_
      refine WL.move rfl rfl ?_
      refine WL.done ?_
      refine W.block ?_
      refine W.loop (σ := Nat × Nat × List Nat × Option Addr × Nat) (fun s w1 => match s with | (j, c, zs, Ao, co) => w.grownBy w1 none ∧ j ≤ mb ∧ c < 4294967296 ∧ Lim zs ∧ zs.length = n ∧ (∀ t, i + mb ≤ t → zs.getD t 0 = 0) ∧ nv zs + 4294967296 ^ (i + j) * c = nv (xa.take i) * nv xb + 4294967296 ^ i * (xa.getD i 0 * nv (xb.take j)) ∧ Own w.heap.size w1 48 1 Ao n co (us zs)) (fun s => match s with | (j, c, zs, Ao, co) => [(0, .slice Aa ma ca), (1, .slice Ab mb cb), (5, .slice Ao n co), (6, .int .i64 ((i : Nat) : Int)), (7, .int .u32 ((xa.getD i 0 : Nat) : Int)), (8, .int .u64 ((c : Nat) : Int)), (17, .slice Aa ma ca), (18, .int .i64 ((ma : Nat) : Int)), (19, .int .i64 ((i : Nat) : Int)), (24, .slice Ab mb cb), (25, .int .i64 ((mb : Nat) : Int)), (26, .int .i64 ((j : Nat) : Int))]) (fun s => match s with | (j, c, zs, Ao, co) => mb - j) (0, 0, zs, Ao, co) ?_ ?_ ?_
      · exact ⟨hB, by omega, by omega, hLz, hlz, h0z, by simpa [nv] using heq, ho⟩
      · exact ⟨rfl, rfl, rfl, iv (by omega), iv (by omega), iv (by omega), rfl, iv (by omega), iv (by omega), rfl, iv (by omega), iv (by omega), trivial⟩
      · rintro ⟨j, c, zs, Ao, co⟩ w15 ⟨hB, hj, hc, hLz, hlz, h0z, heq, ho⟩
        have hb := hb0.ext hB
        have hxb := hLb.getD j
        have hz := hLz.getD (i + j)
        have hm1 := mul_lim hxa hxb hz hc
        have hm0 := mul_lim0 hxa hxb
        refine W.seq ?_
        refine W.region ?_
        refine WL.lss rfl rfl rfl (fun c16 => ?_) (fun c16 => ?_)
        · refine WL.done ?_
          refine W.seq ?_
          refine W.condT rfl ?_
          refine W.skip ?_
          refine W.seq ?_
          refine W.block ?_
          refine W.seq ?_
          refine W.region ?_
          refine WL.move rfl rfl ?_
          refine WL.index1 (j) Try.underlying23 Try.el48 rfl rfl (by omega) (by omega) hb rfl ?_
          refine WL.load Try.underlying48 rfl rfl (Rd.at_ hb (us_at (by omega))) rfl ?_
          refine WL.assign rfl rfl ?_
          refine WL.assign rfl rfl ?_
          refine WL.done ?_
          refine W.seq ?_
          refine W.region ?_
          refine WL.move rfl rfl ?_
          refine WL.move rfl rfl ?_
          refine WL.conv (r := ((xa.getD i 0 : Nat) : Int)) Try.underlying48 Try.underlying61 rfl (wu64 (by omega) (by omega) (by omega)) rfl ?_
          refine WL.move rfl rfl ?_
          refine WL.conv (r := ((xb.getD j 0 : Nat) : Int)) Try.underlying48 Try.underlying61 rfl (wu64 (by omega) (by omega) (by omega)) rfl ?_
          refine WL.mul (r := (((xa.getD i 0) * (xb.getD j 0) : Nat) : Int)) rfl rfl (by rw [← Int.natCast_mul]; exact wu64 (by omega) (by omega) rfl) rfl ?_
          refine WL.move rfl rfl ?_
          refine WL.move rfl rfl ?_
          refine WL.move rfl rfl ?_
          refine WL.add (r := ((i + j : Nat) : Int)) rfl rfl (wi64 (by omega) (by omega) (by omega)) rfl ?_
          refine WL.index1 (i + j) Try.underlying23 Try.el48 rfl rfl (by omega) (by omega) ho.rd rfl ?_
          refine WL.load Try.underlying48 rfl rfl (Rd.at_ ho.rd (us_at (by omega))) rfl ?_
          refine WL.conv (r := ((zs.getD (i + j) 0 : Nat) : Int)) Try.underlying48 Try.underlying61 rfl (wu64 (by omega) (by omega) (by omega)) rfl ?_
          refine WL.add (r := ((((xa.getD i 0) * (xb.getD j 0)) + (zs.getD (i + j) 0) : Nat) : Int)) rfl rfl (wu64 (by omega) (by omega) (by omega)) rfl ?_
          refine WL.add (r := ((c + (((xa.getD i 0) * (xb.getD j 0)) + (zs.getD (i + j) 0)) : Nat) : Int)) rfl rfl (wu64 (by omega) (by omega) (by omega)) rfl ?_
          refine WL.assign rfl rfl ?_
          refine WL.done ?_
          refine W.seq ?_
          refine W.region ?_
          refine WL.move rfl rfl ?_
          refine WL.move rfl rfl ?_
          refine WL.move rfl rfl ?_
          refine WL.add (r := ((i + j : Nat) : Int)) rfl rfl (wi64 (by omega) (by omega) (by omega)) rfl ?_
          refine WL.move rfl rfl ?_
          refine WL.conv (r := (((c + (xa.getD i 0 * xb.getD j 0 + zs.getD (i + j) 0)) % 4294967296 : Nat) : Int)) Try.underlying61 Try.underlying48 rfl (wu32m (by omega)) rfl ?_
          refine WL.index1 (i + j) Try.underlying23 Try.el48 rfl rfl (by omega) (by omega) ho.rd rfl ?_
          refine WL.store Try.el48 rfl rfl rfl (by omega) ho ?_
          have hOld18 := ho
          intro w17 ho hGw17
          change Own _ _ _ _ _ _ _ ((us zs).set (i + j) (.int .u32 (((c + (xa.getD i 0 * xb.getD j 0 + zs.getD (i + j) 0)) % 4294967296 : Nat) : Int))) at ho
          rw [us_set] at ho
          have hB := ext_own hB hGw17 (fun g hg => (hOld18.bl_ge g hg).1)
          have := ho.rd.ulen
          refine WL.done ?_
          refine W.region ?_
          refine WL.move rfl rfl ?_
          refine WL.shr (r := (((c + (((xa.getD i 0) * (xb.getD j 0)) + (zs.getD (i + j) 0))) / 4294967296 : Nat) : Int)) rfl rfl (by omega) (shr_nat (a := c + (((xa.getD i 0) * (xb.getD j 0)) + (zs.getD (i + j) 0))) (s := 32) (by omega) (by omega) 64 (by omega)) rfl ?_
          refine WL.assign rfl rfl ?_
          refine WL.done ?_
          refine W.region ?_
          refine WL.add (r := ((j + 1 : Nat) : Int)) rfl rfl (wi64 (by omega) (by omega) (by omega)) rfl ?_
          refine WL.move rfl rfl ?_
          refine WL.done ?_
          refine ⟨(j + 1, (c + (xa.getD i 0 * xb.getD j 0 + zs.getD (i + j) 0)) / 4294967296, zs.set (i + j) ((c + (xa.getD i 0 * xb.getD j 0 + zs.getD (i + j) 0)) % 4294967296), _, _), ⟨rfl, rfl, rfl, iv (by omega), iv (by omega), iv (by omega), rfl, iv (by omega), iv (by omega), rfl, iv (by omega), iv (by omega), trivial⟩, by (dsimp only; omega), ?_⟩
          exact ⟨hB, by omega, by omega, hLz.set _ (by omega), by simp [hlz], fun t ht => by rw [getD_set_ne (by omega)]; exact h0z t (by omega), by rw [nv_take_succ]; exact mul_inner (by omega) heq (by omega), ho⟩
        · refine WL.done ?_
          refine W.seq ?_
          refine W.condF rfl ?_
          refine W.exit ?_
          refine W.region ?_
          refine WL.move rfl rfl ?_
          refine WL.move rfl rfl ?_
          refine WL.move rfl rfl ?_
          refine WL.len Try.underlying23 rfl rfl ?_
          refine WL.add (r := ((i + mb : Nat) : Int)) rfl rfl (wi64 (by omega) (by omega) (by omega)) rfl ?_
          refine WL.move rfl rfl ?_
          refine WL.conv (r := ((c : Nat) : Int)) Try.underlying61 Try.underlying48 rfl (wu32 (by omega) (by omega) (by omega)) rfl ?_
          refine WL.index1 (i + mb) Try.underlying23 Try.el48 rfl rfl (by omega) (by omega) ho.rd rfl ?_
          refine WL.store Try.el48 rfl rfl rfl (by omega) ho ?_
          have hOld20 := ho
          intro w19 ho hGw19
          change Own _ _ _ _ _ _ _ ((us zs).set (i + mb) (.int .u32 ((c : Nat) : Int))) at ho
          rw [us_set] at ho
          have hB := ext_own hB hGw19 (fun g hg => (hOld20.bl_ge g hg).1)
          have := ho.rd.ulen
          refine WL.done ?_
          refine W.region ?_
          refine WL.add (r := ((i + 1 : Nat) : Int)) rfl rfl (wi64 (by omega) (by omega) (by omega)) rfl ?_
          refine WL.move rfl rfl ?_
          refine WL.done ?_
          refine ⟨(i + 1, n, zs.set (i + mb) c, _, _), ⟨rfl, rfl, rfl, rfl, iv (by omega), iv (by omega), trivial⟩, by (dsimp only; omega), ?_⟩
          exact ⟨hB, by omega, hn, hLz.set _ hc, by simp [hlz], fun t ht => by rw [getD_set_ne (by omega)]; exact h0z t (by omega), by rw [mul_outer (u := nv xb) (base := nv (xa.take i) * nv xb) (x := xa.getD i 0) (by omega) (h0z _ (Nat.le_refl _)) (by rw [show i + mb = i + j by omega]; rw [nv_take_all (l := xb) (i := j) (by omega)] at heq; exact heq)]; exact take_mul, ho⟩
    · refine WL.done ?_
      refine W.seq ?_
      refine W.condF rfl ?_
      refine W.exit ?_
      refine W.seq ?_
      refine W.region ?_
      refine WL.move rfl rfl ?_
      refine WL.call Try.func46 rfl Try.nm46 rfl rfl (sig_c ho.rd) ?_
      rintro _ w21 ⟨rfl, hGw21⟩
      have hB := ext_trans hB hGw21
      have ho := ho.ext hGw21
      refine WL.assign rfl rfl ?_
      refine WL.done ?_
      refine W.ret ?_
      refine ⟨_, rfl, ?_⟩
      have hO := ho
      obtain rfl : i = ma := by omega
      rw [nv_take_all (by omega)] at heq
      have hsl := sigL_le zs
      have hO : Own w.heap.size w21 48 1 Ao (sigL zs) co (us (trimL zs)) := hO.sig
      rw [digs_trim hLz, heq] at hO
      exact ⟨_, _, _, rfl, hB, hO, by omega⟩

theorem inc_c {w : World} {b0 : Nat} {Aa : Option Addr} {ma ca : Nat} {xa : List Nat} (ho : Own b0 w 48 1 Aa ma ca (us xa)) {Ab : Option Addr} {mb cb : Nat} {xb : List Nat} (hb : Rd b0 w 1 Ab mb cb (us xb)) (hb0s : b0 ≤ w.heap.size) (hLa : Lim xa) (hLb : Lim xb) (hsa : ma ≤ 4398046511104) (hsb : mb ≤ 4398046511104) (hta : trimL xa = xa) (htb : trimL xb = xb) :
    Calls Try.prog 52 #[.slice Aa ma ca, .slice Ab mb cb] w fun e w2 => ∃ v, e = .returned v ∧ (fun v w2 => ∃ A2 m2 c2, v = .slice A2 m2 c2 ∧ Below b0 w w2 ∧ Own b0 w2 48 1 A2 m2 c2 (us (digs (nv xa + nv xb))) ∧ m2 ≤ max ma mb + 1) v w2 := by
  have ho_l := ho.rd.ulen
  have ho_x := ho.rd.max
  simp only [maxLen] at ho_x
  have ho_c := ho.rd.cap
  have hb_l := hb.ulen
  have hb_x := hb.max
  simp only [maxLen] at hb_x
  have hb_c := hb.cap
  have hb0 := hb
  have hB := Below.refl b0 w
  refine calls_of_W (vs := [.slice Aa ma ca, .slice Ab mb cb]) [4] Try.func52 rfl rfl rfl rfl ?_
  refine W.seq ?_
  refine W.region ?_
  refine WL.assign rfl rfl ?_
  refine WL.done ?_
  refine W.seq ?_
  refine W.region ?_
  refine WL.assign rfl rfl ?_
  refine WL.done ?_
  refine W.seq ?_
  refine W.seq ?_
  refine W.region ?_
  refine WL.assign rfl rfl ?_
  refine WL.done ?_
  refine W.block ?_
  refine W.loop (σ := Nat × Nat × Nat × List Nat × Option Addr × Nat) (fun s w1 => match s with | (i, c, n, zs, Ao, co) => Below b0 w w1 ∧ (∀ t, i ≤ t → ma ≤ t → zs.getD t 0 = 0) ∧ c ≤ 1 ∧ i ≤ n ∧ ma ≤ n ∧ Lim zs ∧ zs.length = n ∧ i ≤ max ma mb + 1 ∧ (max ma mb < i → c = 0) ∧ (n ≤ max ma mb ∨ (n = max ma mb + 1 ∧ 4294967296 ^ (max ma mb) ≤ nv xa + nv xb)) ∧ nv zs + 4294967296 ^ i * c = nv xa + nv (xb.take i) ∧ Own b0 w1 48 1 Ao n co (us zs)) (fun s => match s with | (i, c, n, zs, Ao, co) => [(0, .slice Ao n co), (1, .slice Ab mb cb), (5, .int .u32 ((c : Nat) : Int)), (6, .int .i64 ((i : Nat) : Int))]) (fun s => match s with | (i, c, n, zs, Ao, co) => max ma mb + 1 - i) (0, 0, ma, xa, Aa, ca) ?_ ?_ ?_
  · exact ⟨hB, fun t _ h => getD_out (by omega), by omega, by omega, by omega, hLa, ho_l, by omega, fun _ => rfl, by omega, by simp, ho⟩
  · exact ⟨rfl, rfl, iv (by omega), iv (by omega), trivial⟩
  · rintro ⟨i, c, n, zs, Ao, co⟩ w11 ⟨hB, hz0, hc, hi, hn, hLz, hlz, hi2, hc0, hnn, heq, ho⟩
    have hb := hb0.below hB
    have ho_x := ho.rd.max
    simp only [maxLen] at ho_x
    have ho_c := ho.rd.cap
    refine W.cut (σ := Unit) (fun _u w1 => (i < mb ∨ c ≠ 0) ∧ w11 = w1) (fun _u => [(0, .slice Ao n co), (1, .slice Ab mb cb), (5, .int .u32 ((c : Nat) : Int)), (6, .int .i64 ((i : Nat) : Int))]) ?_ ?_
    · refine W.seq ?_
      refine W.region ?_
      refine WL.move rfl rfl ?_
      refine WL.move rfl rfl ?_
      refine WL.len Try.underlying23 rfl rfl ?_
      refine WL.lss rfl rfl rfl (fun c12 => ?_) (fun c12 => ?_)
      · refine WL.move rfl rfl ?_
        refine WL.pass rfl rfl rfl ?_
        refine WL.pass rfl rfl rfl ?_
        refine WL.pick rfl rfl rfl ?_
        refine WL.done ?_
        refine W.condT rfl ?_
        refine W.skip ?_
        refine ⟨(), ⟨rfl, rfl, iv (by omega), iv (by omega), trivial⟩, ?_⟩
        exact ⟨by omega, rfl⟩
      · refine WL.move rfl rfl ?_
        refine WL.take rfl ?_
        refine WL.move rfl rfl ?_
        refine WL.take rfl ?_
        refine WL.neq rfl rfl rfl (fun c13 => ?_) (fun c13 => ?_)
        · refine WL.pick rfl rfl rfl ?_
          refine WL.done ?_
          refine W.condT rfl ?_
          refine W.skip ?_
          refine ⟨(), ⟨rfl, rfl, iv (by omega), iv (by omega), trivial⟩, ?_⟩
          exact ⟨by omega, rfl⟩
        · refine WL.pick rfl rfl rfl ?_
          refine WL.done ?_
          refine W.condF rfl ?_
          refine W.exit ?_
          refine W.seq ?_
          refine W.region ?_
          refine WL.move rfl rfl ?_
          refine WL.assign rfl rfl ?_
          refine WL.done ?_
          refine W.ret ?_
          refine ⟨_, rfl, ?_⟩
          have hc2 : c = 0 := by omega
          subst hc2
          rw [Nat.mul_zero, Nat.add_zero, nv_take_all (by omega)] at heq
          have e := inc_end hLz heq hta htb (by rw [ho_l, hb_l]; omega)
          subst e
          exact ⟨_, _, _, rfl, hB, ho, by omega⟩
    · rintro _u w14 ⟨hhd, rfl⟩
      refine W.seq ?_
      refine W.block ?_
      refine W.cut (σ := Nat × List Nat × Option Addr × Nat) (fun s w1 => match s with | (n, zs, Ao, co) => Below b0 w w1 ∧ (∀ t, i ≤ t → ma ≤ t → zs.getD t 0 = 0) ∧ i < n ∧ ma ≤ n ∧ Lim zs ∧ zs.length = n ∧ (n ≤ max ma mb ∨ (n = max ma mb + 1 ∧ 4294967296 ^ (max ma mb) ≤ nv xa + nv xb)) ∧ nv zs + 4294967296 ^ i * c = nv xa + nv (xb.take i) ∧ Own b0 w1 48 1 Ao n co (us zs)) (fun s => match s with | (n, zs, Ao, co) => [(0, .slice Ao n co), (1, .slice Ab mb cb), (5, .int .u32 ((c : Nat) : Int)), (6, .int .i64 ((i : Nat) : Int))]) ?_ ?_
      · refine W.seq ?_
        refine W.region ?_
        refine WL.move rfl rfl ?_
        refine WL.move rfl rfl ?_
        refine WL.len Try.underlying23 rfl rfl ?_
        refine WL.eql rfl rfl rfl (fun c15 => ?_) (fun c15 => ?_)
        · refine WL.done ?_
          refine W.condT rfl ?_
          refine W.region ?_
          refine WL.move rfl rfl ?_
          refine WL.lit1 (b := w11.heap.size) Try.underlying23 Try.el48 rfl rfl rfl rfl (by intro v hv; simp only [List.mem_cons, List.not_mem_nil, or_false] at hv; rcases hv with rfl <;> rfl) (Nat.le_refl _) rfl ?_
          rintro A16 w17 - hO18 hGw17
          have hO18 := hO18.low (b' := b0) (Nat.le_trans hb0s hB.size)
          have hB := hB.grown hGw17 (Nat.le_trans hb0s hB.size) (fun _ h => by cases h)
          have ho := ho.ext hGw17
          change Own _ _ _ _ _ _ _ (us [0]) at hO18
          refine WL.append (n + 1) ((us (zs ++ ([0])))) Try.underlying23 Try.el48 rfl rfl ho hO18.rd (us_one _) (by simp only [maxLen]; omega) (by omega) (Nat.le_trans hb0s hB.size) (by omega) (us_app rfl) rfl ?_
          have hOld22 := ho
          intro A19 cp20 w21 ho hGw21 hblw21
          have hB := hB.grown hGw21 (Nat.le_trans hb0s hB.size) (fun g hg => (hOld22.bl_ge g hg).1)
          refine WL.assign rfl rfl ?_
          refine WL.done ?_
          refine ⟨(n + 1, zs ++ [0], _, _), ⟨rfl, rfl, iv (by omega), iv (by omega), trivial⟩, ?_⟩
          exact ⟨hB, fun t ht h => by rw [getD_snoc_zero]; exact hz0 t ht h, by omega, by omega, hLz.append (Lim.one (by decide)), by simp [hlz], inc_grow hlz (by omega) hhd hc hc0 hnn heq, by rw [nv_append]; simpa [nv] using heq, ho⟩
        · refine WL.done ?_
          refine W.condF rfl ?_
          refine W.skip ?_
          refine ⟨(n, zs, Ao, co), ⟨rfl, rfl, iv (by omega), iv (by omega), trivial⟩, ?_⟩
          exact ⟨hB, hz0, by omega, hn, hLz, hlz, hnn, heq, ho⟩
      · rintro ⟨n, zs, Ao, co⟩ w23 ⟨hB, hz0, hi, hn, hLz, hlz, hnn, heq, ho⟩
        have hb := hb0.below hB
        have ho_x := ho.rd.max
        simp only [maxLen] at ho_x
        have ho_c := ho.rd.cap
        have hz := hLz.getD i
        have hxb := hLb.getD i
        refine W.draw [⟨[], [0], true⟩, ⟨[], [6], true⟩, ⟨[], [0], true⟩, ⟨[], [6], true⟩, ⟨[2, 3], [], true⟩, ⟨[4], [], false⟩, ⟨[], [1], true⟩, ⟨[], [6], true⟩, ⟨[6, 7], [], false⟩, ⟨[], [5], true⟩, ⟨[5, 8, 9], [], false⟩, ⟨[10], [], true⟩, ⟨[11], [], true⟩, ⟨[11], [], true⟩, ⟨[0, 1], [], true⟩, ⟨[14, 12], [], false⟩, ⟨[13], [], true⟩] [[(0, .slice Ao n co)], [(6, .int .i64 ((i : Nat) : Int))], [(0, .slice Ao n co)], [(6, .int .i64 ((i : Nat) : Int))], [], [], [(1, .slice Ab mb cb)], [(6, .int .i64 ((i : Nat) : Int))], [], [(5, .int .u32 ((c : Nat) : Int))], [], [], [], [], [], [], []] (fun iQ => [fun v _ => v = .slice Ao n co, fun v _ => v = .int .i64 ((i : Nat) : Int), fun v _ => v = .slice Ao n co, fun v _ => v = .int .i64 ((i : Nat) : Int), fun v _ => v = .pointer (some ((adOf Ao).add i)), fun v _ => v = .int .u32 ((zs.getD i 0 : Nat) : Int), fun v _ => v = .slice Ab mb cb, fun v _ => v = .int .i64 ((i : Nat) : Int), fun v _ => v = .int .u32 ((xb.getD i 0 : Nat) : Int), fun v _ => v = .int .u32 ((c : Nat) : Int), fun v _ => v = .tuple #[.int .u32 (((zs.getD i 0 + xb.getD i 0 + c) % 4294967296 : Nat) : Int), .int .u32 (((zs.getD i 0 + xb.getD i 0 + c) / 4294967296 : Nat) : Int)], fun v _ => v = .tuple #[.int .u32 (((zs.getD i 0 + xb.getD i 0 + c) % 4294967296 : Nat) : Int), .int .u32 (((zs.getD i 0 + xb.getD i 0 + c) / 4294967296 : Nat) : Int)], fun v _ => v = .int .u32 (((zs.getD i 0 + xb.getD i 0 + c) % 4294967296 : Nat) : Int), fun v _ => v = .int .u32 (((zs.getD i 0 + xb.getD i 0 + c) / 4294967296 : Nat) : Int), fun v _ => v = .pointer (some ((adOf Ao).add i)), fun _ _ => True, fun v _ => v = .int .u32 (((zs.getD i 0 + xb.getD i 0 + c) / 4294967296 : Nat) : Int)].getD iQ (fun _ _ => True)) (fun w1 => Below b0 w w1 ∧ Own b0 w1 48 1 Ao n co (us (zs.set i ((zs.getD i 0 + xb.getD i 0 + c) % 4294967296)))) 15 Try.mixed (by kernel_rfl) ?_ ?_ ?_
        · refine Vs_mono _ ?_
          intro VQ hVQ vQ wQ1 wQ2 hQ1 hQ2
          simp only [List.mem_cons, List.not_mem_nil, or_false] at hVQ
          rcases hVQ with rfl | rfl | rfl | rfl | rfl | rfl | rfl | rfl | rfl | rfl | rfl | rfl | rfl | rfl | rfl | rfl | rfl <;> exact hQ1
        · refine ⟨⟨rfl, ⟨rfl, trivial⟩, ?_⟩, ⟨rfl, ⟨rfl, trivial⟩, ?_⟩, ⟨rfl, ⟨rfl, trivial⟩, ?_⟩, ⟨rfl, ⟨rfl, trivial⟩, ?_⟩, ⟨rfl, trivial, ?_⟩, ⟨rfl, trivial, ?_⟩, ⟨rfl, ⟨rfl, trivial⟩, ?_⟩, ⟨rfl, ⟨rfl, trivial⟩, ?_⟩, ⟨rfl, trivial, ?_⟩, ⟨rfl, ⟨rfl, trivial⟩, ?_⟩, ⟨rfl, trivial, ?_⟩, ⟨rfl, trivial, ?_⟩, ⟨rfl, trivial, ?_⟩, ⟨rfl, trivial, ?_⟩, ⟨rfl, trivial, ?_⟩, ⟨rfl, trivial, ?_⟩, ⟨rfl, trivial, ?_⟩, trivial⟩
          · intro w24 hE
            intro R
            refine WL.move rfl rfl ?_
            exact WL.done ⟨_, rfl, rfl, rfl⟩
          · intro w25 hE
            intro R
            refine WL.move rfl rfl ?_
            exact WL.done ⟨_, rfl, rfl, rfl⟩
          · intro w26 hE
            intro R
            refine WL.move rfl rfl ?_
            exact WL.done ⟨_, rfl, rfl, rfl⟩
          · intro w27 hE
            intro R
            refine WL.move rfl rfl ?_
            exact WL.done ⟨_, rfl, rfl, rfl⟩
          · intro w28 hE
            rintro _ rfl
            rintro _ rfl
            intro R
            refine WL.index1 (i) Try.underlying23 Try.el48 rfl rfl (by omega) (by omega) ho.rd rfl ?_
            exact WL.done ⟨_, rfl, rfl, rfl⟩
          · intro w29 hE
            have hE := hE rfl
            have hB := hB.grown hE (Nat.le_trans hb0s hB.size) (fun _ h => by cases h)
            have ho := ho.ext hE
            rintro _ rfl
            intro R
            refine WL.load Try.underlying48 rfl rfl (Rd.at_ ho.rd (us_at (by omega))) rfl ?_
            exact WL.done ⟨_, rfl, ext_refl _, rfl⟩
          · intro w30 hE
            intro R
            refine WL.move rfl rfl ?_
            exact WL.done ⟨_, rfl, rfl, rfl⟩
          · intro w31 hE
            intro R
            refine WL.move rfl rfl ?_
            exact WL.done ⟨_, rfl, rfl, rfl⟩
          · intro w32 hE
            have hE := hE rfl
            have hB := hB.grown hE (Nat.le_trans hb0s hB.size) (fun _ h => by cases h)
            have hb := hb0.below hB
            rintro _ rfl
            rintro _ rfl
            intro R
            refine WL.call Try.func79 rfl Try.nm79 rfl rfl (limbAt_c hb (i) (by omega)) ?_
            rintro _ w33 ⟨rfl, hGw33⟩
            have hB := hB.grown hGw33 (Nat.le_trans hb0s hB.size) (fun _ h => by cases h)
            exact WL.done ⟨_, rfl, hGw33, rfl⟩
          · intro w34 hE
            intro R
            refine WL.move rfl rfl ?_
            exact WL.done ⟨_, rfl, rfl, rfl⟩
          · intro w35 hE
            have hE := hE rfl
            have hB := hB.grown hE (Nat.le_trans hb0s hB.size) (fun _ h => by cases h)
            rintro _ rfl
            rintro _ rfl
            rintro _ rfl
            intro R
            refine WL.call Try.func78 rfl Try.nm78 rfl rfl (Add32_c (zs.getD i 0) (xb.getD i 0) c (by omega) (by omega) (by omega) (by omega) (by omega) (by omega)) ?_
            rintro _ w36 ⟨rfl, hGw36⟩
            have hB := hB.grown hGw36 (Nat.le_trans hb0s hB.size) (fun _ h => by cases h)
            exact WL.done ⟨_, rfl, hGw36, rfl⟩
          · intro w37 hE
            rintro _ rfl
            intro R
            refine WL.move rfl rfl ?_
            exact WL.done ⟨_, rfl, rfl, rfl⟩
          · intro w38 hE
            rintro _ rfl
            intro R
            refine WL.extract rfl rfl rfl ?_
            exact WL.done ⟨_, rfl, rfl, rfl⟩
          · intro w39 hE
            rintro _ rfl
            intro R
            refine WL.extract rfl rfl rfl ?_
            exact WL.done ⟨_, rfl, rfl, rfl⟩
          · intro w40 hE
            rintro _ rfl
            rintro _ rfl
            intro R
            refine WL.index1 (i) Try.underlying23 Try.el48 rfl rfl (by omega) (by omega) ho.rd rfl ?_
            exact WL.done ⟨_, rfl, rfl, rfl⟩
          · intro w41 hE
            have hE := hE rfl
            have hB := hB.grown hE (Nat.le_trans hb0s hB.size) (fun _ h => by cases h)
            have ho := ho.ext hE
            rintro _ rfl
            rintro _ rfl
            intro R
            refine WL.store Try.el48 rfl rfl rfl (by omega) ho ?_
            have hOld43 := ho
            intro w42 ho hGw42
            change Own _ _ _ _ _ _ _ ((us zs).set i (.int .u32 (((zs.getD i 0 + xb.getD i 0 + c) % 4294967296 : Nat) : Int))) at ho
            rw [us_set] at ho
            have hB := hB.grown hGw42 (Nat.le_trans hb0s hB.size) (fun g hg => (hOld43.bl_ge g hg).1)
            have := ho.rd.ulen
            exact WL.done ⟨rfl, ⟨hB, ho⟩⟩
          · intro w44 hE
            rintro _ rfl
            intro R
            refine WL.assign rfl rfl ?_
            exact WL.done ⟨_, rfl, rfl, rfl⟩
        · intro vals w45 hT hVs
          rw [if_pos (by decide)] at hT
          obtain ⟨hB, ho⟩ := hT
          have hv0 : vals 0 = _ := hVs 0 (by decide) (by decide)
          have hv1 : vals 1 = _ := hVs 1 (by decide) (by decide)
          have hv2 : vals 2 = _ := hVs 2 (by decide) (by decide)
          have hv3 : vals 3 = _ := hVs 3 (by decide) (by decide)
          have hv4 : vals 4 = _ := hVs 4 (by decide) (by decide)
          have hv5 : vals 5 = _ := hVs 5 (by decide) (by decide)
          have hv6 : vals 6 = _ := hVs 6 (by decide) (by decide)
          have hv7 : vals 7 = _ := hVs 7 (by decide) (by decide)
          have hv8 : vals 8 = _ := hVs 8 (by decide) (by decide)
          have hv9 : vals 9 = _ := hVs 9 (by decide) (by decide)
          have hv10 : vals 10 = _ := hVs 10 (by decide) (by decide)
          have hv11 : vals 11 = _ := hVs 11 (by decide) (by decide)
          have hv12 : vals 12 = _ := hVs 12 (by decide) (by decide)
          have hv13 : vals 13 = _ := hVs 13 (by decide) (by decide)
          have hv14 : vals 14 = _ := hVs 14 (by decide) (by decide)
          have hv16 : vals 16 = _ := hVs 16 (by decide) (by decide)
          rw [show (List.filterMap (fun i => Option.map (fun t => (t, vals i)) (dstAt _ i)) (List.range _)) = [(25, .slice Ao n co), (26, .int .i64 ((i : Nat) : Int)), (27, .slice Ao n co), (28, .int .i64 ((i : Nat) : Int)), (29, .pointer (some ((adOf Ao).add i))), (30, .int .u32 ((zs.getD i 0 : Nat) : Int)), (31, .slice Ab mb cb), (32, .int .i64 ((i : Nat) : Int)), (33, .int .u32 ((xb.getD i 0 : Nat) : Int)), (34, .int .u32 ((c : Nat) : Int)), (35, .tuple #[.int .u32 (((zs.getD i 0 + xb.getD i 0 + c) % 4294967296 : Nat) : Int), .int .u32 (((zs.getD i 0 + xb.getD i 0 + c) / 4294967296 : Nat) : Int)]), (24, .tuple #[.int .u32 (((zs.getD i 0 + xb.getD i 0 + c) % 4294967296 : Nat) : Int), .int .u32 (((zs.getD i 0 + xb.getD i 0 + c) / 4294967296 : Nat) : Int)]), (36, .int .u32 (((zs.getD i 0 + xb.getD i 0 + c) % 4294967296 : Nat) : Int)), (37, .int .u32 (((zs.getD i 0 + xb.getD i 0 + c) / 4294967296 : Nat) : Int)), (38, .pointer (some ((adOf Ao).add i))), (5, .int .u32 (((zs.getD i 0 + xb.getD i 0 + c) / 4294967296 : Nat) : Int))] from by
            show [(25, vals 0), (26, vals 1), (27, vals 2), (28, vals 3), (29, vals 4), (30, vals 5), (31, vals 6), (32, vals 7), (33, vals 8), (34, vals 9), (35, vals 10), (24, vals 11), (36, vals 12), (37, vals 13), (38, vals 14), (5, vals 16)] = _
            rw [hv0, hv1, hv2, hv3, hv4, hv5, hv6, hv7, hv8, hv9, hv10, hv11, hv12, hv13, hv14, hv16]]
          refine W.region ?_
          refine WL.move rfl rfl ?_
          refine WL.add (r := ((i + 1 : Nat) : Int)) rfl rfl (wi64 (by omega) (by omega) (by omega)) rfl ?_
          refine WL.assign rfl rfl ?_
          refine WL.done ?_
          refine ⟨(i + 1, (zs.getD i 0 + xb.getD i 0 + c) / 4294967296, n, zs.set i ((zs.getD i 0 + xb.getD i 0 + c) % 4294967296), Ao, co), ⟨rfl, rfl, iv (by omega), iv (by omega), trivial⟩, by (dsimp only; omega), ?_⟩
          exact ⟨hB, fun t ht h => by rw [getD_set_ne (by omega)]; exact hz0 t (by omega) h, by omega, by omega, by omega, hLz.set _ (by omega), by simp [hlz], by omega, fun h => by rw [getD_out (l := xb) (by omega), hz0 i (by omega) (by omega)]; omega, hnn, by rw [nv_take_succ]; exact inc_step (by omega) heq rfl, ho⟩

theorem Add_c {w : World} {B : Nat} {A : Option Addr} {m c : Nat} {cells : List Value} (hT : Rd B w 1 A m c cells) {B2 : Nat} {xss : List (List Nat)} (hN : NatsR B2 w cells xss) (hL : LimAll xss) (K : Nat) (hK : LenAll K xss) (hKK : K ≤ 1099511627776) (hcnt : xss.length < 4294967296) :
    Calls Try.prog 25 #[.slice A m c] w fun e w2 => ∃ v, e = .returned v ∧ (fun v w2 => ∃ A2 m2 c2, v = .slice A2 m2 c2 ∧ w.grownBy w2 none ∧ Own w.heap.size w2 48 1 A2 m2 c2 (us (digs (sumN xss))) ∧ m2 ≤ K + 1) v w2 := by
  have hT := hT.norm
  have hN := hN.norm
  have hT0 := hT
  have hN0 := hN
  have hT_l := hT.len
  have hN_l := hN.len
  have hT_x := hT.max
  simp only [maxLen] at hT_x
  have hT_c := hT.cap
  have hml : xss.length = m := by omega
  have hB := ext_refl w
  refine calls_of_W (vs := [.slice A m c]) [2] Try.func25 rfl rfl rfl rfl ?_
  refine W.seq ?_
  refine W.region ?_
  refine WL.assign rfl rfl ?_
  refine WL.done ?_
  refine W.seq ?_
  refine W.region ?_
  refine WL.assign rfl rfl ?_
  refine WL.done ?_
  refine W.seq ?_
  refine W.seq ?_
  refine W.region ?_
  refine WL.move rfl rfl ?_
  refine WL.len Try.underlying63 rfl rfl ?_
  refine WL.move rfl rfl ?_
  refine WL.done ?_
  refine W.block ?_
  refine W.loop (σ := Nat × Nat × Option Addr × Nat) (fun s w1 => match s with | (i, n, Ao, co) => w.grownBy w1 none ∧ i ≤ m ∧ n ≤ K + 1 ∧ Own w.heap.size w1 48 1 Ao n co (us (digs (sumN (xss.take i))))) (fun s => match s with | (i, n, Ao, co) => [(0, .slice A m c), (3, .slice Ao n co), (6, .slice A m c), (7, .int .i64 ((m : Nat) : Int)), (8, .int .i64 ((i : Nat) : Int))]) (fun s => match s with | (i, n, Ao, co) => m - i) (0, 0, none, 0) ?_ ?_ ?_
  · exact ⟨hB, by omega, by omega, World.ownsRow_nil _ _ _ _⟩
  · exact ⟨rfl, rfl, rfl, iv (by omega), iv (by omega), trivial⟩
  · rintro ⟨i, n, Ao, co⟩ w11 ⟨hB, hi, hn, ho⟩
    have hT := hT0.ext hB
    have hN := hN0.ext hB
    have ho_l := ho.rd.ulen
    have hKi := fun h => hK i h
    have hsg := sigL_le (xss.getD i [])
    refine W.seq ?_
    refine W.region ?_
    refine WL.lss rfl rfl rfl (fun c12 => ?_) (fun c12 => ?_)
    · refine WL.done ?_
      refine W.seq ?_
      refine W.condT rfl ?_
      refine W.skip ?_
      refine W.seq ?_
      refine W.block ?_
      refine W.seq ?_
      refine W.region ?_
      refine WL.index1 (i) Try.underlying63 Try.el23 rfl rfl (by omega) (by omega) hT rfl ?_
      refine WL.load Try.underlying23 rfl rfl (Rd.at_ hT (hN.cell (i) (by omega))) rfl ?_
      refine WL.assign rfl rfl ?_
      refine WL.done ?_
      refine W.region ?_
      refine WL.move rfl rfl ?_
      refine WL.move rfl rfl ?_
      refine WL.call Try.func46 rfl Try.nm46 rfl rfl (sig_c (hN.at_ (i) (by omega)).2) ?_
      rintro _ w13 ⟨rfl, hGw13⟩
      have hB := ext_trans hB hGw13
      have hN := hN0.ext hB
      have ho := ho.ext hGw13
      refine WL.call Try.func52 rfl Try.nm52 rfl rfl (inc_c ho (Rd.sig (hN.at_ (i) (by omega)).2) hB.size (digs_lim _) (Lim.trim (hL (i) (by omega))) (by omega) (by omega) (trimL_digs_self _) (trimL_trimL (hL (i) (by omega)))) ?_
      rintro _ w14 ⟨A15, m16, cp17, rfl, hGw14, ho, hm18⟩
      have hB := ext_bel hB hGw14
      have ho_l := ho.rd.ulen
      refine WL.assign rfl rfl ?_
      refine WL.done ?_
      refine W.region ?_
      refine WL.add (r := ((i + 1 : Nat) : Int)) rfl rfl (wi64 (by omega) (by omega) (by omega)) rfl ?_
      refine WL.move rfl rfl ?_
      refine WL.done ?_
      refine ⟨(i + 1, _, _, _), ⟨rfl, rfl, rfl, iv (by omega), iv (by omega), trivial⟩, by (dsimp only; omega), ?_⟩
      rw [nv_digs, nv_trimL, ← sumN_take xss i (by omega)] at ho
      have := ho.rd.ulen
      have := sum_len (i := i + 1) hL hK hcnt
      exact ⟨hB, by omega, by omega, ho⟩
    · refine WL.done ?_
      refine W.seq ?_
      refine W.condF rfl ?_
      refine W.exit ?_
      refine W.seq ?_
      refine W.region ?_
      refine WL.move rfl rfl ?_
      refine WL.assign rfl rfl ?_
      refine WL.done ?_
      refine W.ret ?_
      refine ⟨_, rfl, ?_⟩
      obtain rfl : i = m := by omega
      rw [List.take_of_length_le (by omega)] at ho
      exact ⟨_, _, _, rfl, hB, ho, hn⟩

theorem Mul_step {w : World} {B : Nat} {A : Option Addr} {m c : Nat} {cells : List Value} (hT : Rd B w 1 A m c cells) {B2 : Nat} {xss : List (List Nat)} (hN : NatsR B2 w cells xss) (hL : LimAll xss) {K : Nat} (hK : LenAll K xss) (hKK : xss.length * K + 1 ≤ 1099511627776) (ih : ∀ {w : World} {B : Nat} {A : Option Addr} {m c : Nat} {cells : List Value} (_ : Rd B w 1 A m c cells) {B2 : Nat} {ys : List (List Nat)} (_ : NatsR B2 w cells ys) (_ : LimAll ys) (_ : LenAll K ys) (_ : ys.length * K + 1 ≤ 1099511627776) (_ : ys.length < xss.length), Calls Try.prog 36 #[.slice A m c] w fun e w2 => ∃ v, e = .returned v ∧ (fun v w2 => ∃ A2 m2 c2, v = .slice A2 m2 c2 ∧ w.grownBy w2 none ∧ Own w.heap.size w2 48 1 A2 m2 c2 (us (digs (prodN ys))) ∧ (0 < ys.length → m2 ≤ ys.length * K) ∧ m2 ≤ ys.length * K + 1) v w2) :
    Calls Try.prog 36 #[.slice A m c] w fun e w2 => ∃ v, e = .returned v ∧ (fun v w2 => ∃ A2 m2 c2, v = .slice A2 m2 c2 ∧ w.grownBy w2 none ∧ Own w.heap.size w2 48 1 A2 m2 c2 (us (digs (prodN xss))) ∧ (0 < xss.length → m2 ≤ xss.length * K) ∧ m2 ≤ xss.length * K + 1) v w2 := by
  have hT := hT.norm
  have hN := hN.norm
  have hT0 := hT
  have hN0 := hN
  have hT_l := hT.len
  have hN_l := hN.len
  have hT_x := hT.max
  simp only [maxLen] at hT_x
  have hT_c := hT.cap
  have hml : xss.length = m := by omega
  have hB := ext_refl w
  refine calls_of_W (vs := [.slice A m c]) [2] Try.func36 rfl rfl rfl rfl ?_
  refine W.seq ?_
  refine W.region ?_
  refine WL.assign rfl rfl ?_
  refine WL.done ?_
  refine W.seq ?_
  refine W.seq ?_
  refine W.region ?_
  refine WL.move rfl rfl ?_
  refine WL.len Try.underlying63 rfl rfl ?_
  refine WL.done ?_
  refine W.block ?_
  refine W.seq ?_
  refine W.region ?_
  refine WL.eql rfl rfl rfl (fun c11 => ?_) (fun c11 => ?_)
  · refine WL.assign rfl rfl ?_
    refine WL.done ?_
    refine W.condT rfl ?_
    refine W.seq ?_
    refine W.region ?_
    refine WL.lit1 (b := w.heap.size) Try.underlying23 Try.el48 rfl rfl rfl rfl (by intro v hv; simp only [List.mem_cons, List.not_mem_nil, or_false] at hv; rcases hv with rfl <;> rfl) (Nat.le_refl _) rfl ?_
    rintro A12 w13 - hO14 hGw13
    have hO14 := hO14.low (b' := w.heap.size) hB.size
    have hB := ext_trans hB hGw13
    change Own _ _ _ _ _ _ _ (us [1]) at hO14
    refine WL.assign rfl rfl ?_
    refine WL.done ?_
    refine W.ret ?_
    refine ⟨_, rfl, ?_⟩
    have e : xss = [] := List.eq_nil_of_length_eq_zero (by omega)
    subst e
    exact ⟨_, _, _, rfl, hB, hO14, (fun h => absurd h (by simp)), by simp⟩
  · refine WL.assign rfl rfl ?_
    refine WL.done ?_
    refine W.condF rfl ?_
    refine W.seq ?_
    refine W.region ?_
    refine WL.eql rfl rfl rfl (fun c15 => ?_) (fun c15 => ?_)
    · refine WL.assign rfl rfl ?_
      refine WL.done ?_
      refine W.condT rfl ?_
      refine W.seq ?_
      refine W.region ?_
      refine WL.move rfl rfl ?_
      refine WL.index1 (0) Try.underlying63 Try.el23 rfl rfl (by omega) (by omega) hT rfl ?_
      refine WL.load Try.underlying23 rfl rfl (Rd.at_ hT (hN.cell (0) (by omega))) rfl ?_
      refine WL.call Try.func47 rfl Try.nm47 rfl rfl (Trim_c (hN.at_ (0) (by omega)).2 (by have := hK 0 (by omega); have := (hN.at_ 0 (by omega)).2.ulen; rw [show xss.length = 1 by omega, Nat.one_mul] at hKK; omega)) ?_
      rintro _ w16 ⟨A17, m18, cp19, rfl, hGw16, hO, hm20⟩
      have hO := hO.low (b' := w.heap.size) hB.size
      have hB := ext_trans hB hGw16
      have hN := hN0.ext hB
      have hO_l := hO.rd.ulen
      refine WL.assign rfl rfl ?_
      refine WL.done ?_
      refine W.ret ?_
      refine ⟨_, rfl, ?_⟩
      have h1 : xss.length = 1 := by omega
      rw [trimL_digs _ (hL 0 (by omega)), ← prodN_one h1] at hO
      have := hK 0 (by omega)
      have := (hN.at_ 0 (by omega)).2.ulen
      rw [h1, Nat.one_mul]
      exact ⟨_, _, _, rfl, hB, hO, fun _ => by omega, by omega⟩
    · refine WL.assign rfl rfl ?_
      refine WL.done ?_
      refine W.condF rfl ?_
      refine W.seq ?_
      refine W.region ?_
      refine WL.eql rfl rfl rfl (fun c21 => ?_) (fun c21 => ?_)
      · refine WL.assign rfl rfl ?_
        refine WL.done ?_
        refine W.condT rfl ?_
        refine W.seq ?_
        refine W.draw [⟨[], [0], true⟩, ⟨[0], [], true⟩, ⟨[1], [], false⟩, ⟨[2], [], false⟩, ⟨[], [0], true⟩, ⟨[4], [], true⟩, ⟨[5], [], false⟩, ⟨[6], [], false⟩, ⟨[3, 7], [], false⟩, ⟨[8], [], true⟩] [[(0, .slice A m c)], [], [], [], [(0, .slice A m c)], [], [], [], [], []] (fun iQ => [fun v _ => v = .slice A m c, fun v _ => v = .pointer (some ((adOf A).add 0)), fun v _ => v = .slice (sA (cells.getD 0 undef)) (sM (cells.getD 0 undef)) (sC (cells.getD 0 undef)), fun v _ => v = .slice (sA (cells.getD 0 undef)) (sigL (xss.getD 0 [])) (sC (cells.getD 0 undef)), fun v _ => v = .slice A m c, fun v _ => v = .pointer (some ((adOf A).add 1)), fun v _ => v = .slice (sA (cells.getD 1 undef)) (sM (cells.getD 1 undef)) (sC (cells.getD 1 undef)), fun v _ => v = .slice (sA (cells.getD 1 undef)) (sigL (xss.getD 1 [])) (sC (cells.getD 1 undef)), fun v wq => ∃ A2 m2 c2, v = .slice A2 m2 c2 ∧ Own w.heap.size wq 48 1 A2 m2 c2 (us (digs (prodN xss))) ∧ m2 ≤ xss.length * K, fun v wq => ∃ A2 m2 c2, v = .slice A2 m2 c2 ∧ Own w.heap.size wq 48 1 A2 m2 c2 (us (digs (prodN xss))) ∧ m2 ≤ xss.length * K].getD iQ (fun _ _ => True)) (fun _ => True) 10 Try.mixed (by kernel_rfl) ?_ ?_ ?_
        · refine Vs_mono _ ?_
          intro VQ hVQ vQ wQ1 wQ2 hQ1 hQ2
          simp only [List.mem_cons, List.not_mem_nil, or_false] at hVQ
          rcases hVQ with rfl | rfl | rfl | rfl | rfl | rfl | rfl | rfl | rfl | rfl
          all_goals first
            | exact hQ1
            | (obtain ⟨A2, m2, c2, q1, q2, q3⟩ := hQ1; rcases hQ2 with hQ2 | hQ2; exact ⟨A2, m2, c2, q1, q2.ext hQ2, q3⟩; exact absurd hQ2 (by decide))
        · refine ⟨⟨rfl, ⟨rfl, trivial⟩, ?_⟩, ⟨rfl, trivial, ?_⟩, ⟨rfl, trivial, ?_⟩, ⟨rfl, trivial, ?_⟩, ⟨rfl, ⟨rfl, trivial⟩, ?_⟩, ⟨rfl, trivial, ?_⟩, ⟨rfl, trivial, ?_⟩, ⟨rfl, trivial, ?_⟩, ⟨rfl, trivial, ?_⟩, ⟨rfl, trivial, ?_⟩, trivial⟩
          · intro w22 hE
            intro R
            refine WL.move rfl rfl ?_
            exact WL.done ⟨_, rfl, rfl, rfl⟩
          · intro w23 hE
            rintro _ rfl
            intro R
            refine WL.index1 (0) Try.underlying63 Try.el23 rfl rfl (by omega) (by omega) hT rfl ?_
            exact WL.done ⟨_, rfl, rfl, rfl⟩
          · intro w24 hE
            have hE := hE rfl
            have hB := ext_trans hB hE
            have hT := hT0.ext hB
            have hN := hN0.ext hB
            rintro _ rfl
            intro R
            refine WL.load Try.underlying23 rfl rfl (Rd.at_ hT (hN.cell (0) (by omega))) rfl ?_
            exact WL.done ⟨_, rfl, ext_refl _, rfl⟩
          · intro w25 hE
            have hE := hE rfl
            have hB := ext_trans hB hE
            have hN := hN0.ext hB
            rintro _ rfl
            intro R
            refine WL.call Try.func46 rfl Try.nm46 rfl rfl (sig_c (hN.at_ (0) (by omega)).2) ?_
            rintro _ w26 ⟨rfl, hGw26⟩
            have hB := ext_trans hB hGw26
            exact WL.done ⟨_, rfl, hGw26, rfl⟩
          · intro w27 hE
            intro R
            refine WL.move rfl rfl ?_
            exact WL.done ⟨_, rfl, rfl, rfl⟩
          · intro w28 hE
            rintro _ rfl
            intro R
            refine WL.index1 (1) Try.underlying63 Try.el23 rfl rfl (by omega) (by omega) hT rfl ?_
            exact WL.done ⟨_, rfl, rfl, rfl⟩
          · intro w29 hE
            have hE := hE rfl
            have hB := ext_trans hB hE
            have hT := hT0.ext hB
            have hN := hN0.ext hB
            rintro _ rfl
            intro R
            refine WL.load Try.underlying23 rfl rfl (Rd.at_ hT (hN.cell (1) (by omega))) rfl ?_
            exact WL.done ⟨_, rfl, ext_refl _, rfl⟩
          · intro w30 hE
            have hE := hE rfl
            have hB := ext_trans hB hE
            have hN := hN0.ext hB
            rintro _ rfl
            intro R
            refine WL.call Try.func46 rfl Try.nm46 rfl rfl (sig_c (hN.at_ (1) (by omega)).2) ?_
            rintro _ w31 ⟨rfl, hGw31⟩
            have hB := ext_trans hB hGw31
            exact WL.done ⟨_, rfl, hGw31, rfl⟩
          · intro w32 hE
            have hE := hE rfl
            have hB := ext_trans hB hE
            have hN := hN0.ext hB
            rintro _ rfl
            rintro _ rfl
            have h20 := hK 0 (by omega)
            have h21 := hK 1 (by omega)
            have hs0 := sigL_le (xss.getD 0 [])
            have hs1 := sigL_le (xss.getD 1 [])
            have hl2 : xss.length = 2 := by omega
            rw [hl2] at hKK
            intro R
            refine WL.call Try.func63 rfl Try.nm63 rfl rfl (product_c (Rd.sig (hN.at_ (0) (by omega)).2) (Rd.sig (hN.at_ (1) (by omega)).2) (Lim.trim (hL (0) (by omega))) (Lim.trim (hL (1) (by omega))) (by omega) (by omega)) ?_
            rintro _ w33 ⟨A34, m35, cp36, rfl, hGw33, hO, hm37⟩
            have hO := hO.low (b' := w.heap.size) hB.size
            have hB := ext_trans hB hGw33
            have hO_l := hO.rd.ulen
            rw [nv_trimL, nv_trimL, ← prodN_two (by omega)] at hO
            rw [hl2]
            exact WL.done ⟨_, rfl, hGw33, ⟨_, _, _, rfl, hO, by omega⟩⟩
          · intro w38 hE
            rintro _ ⟨A8, m8, c8, rfl, hO8, hm8⟩
            intro R
            refine WL.assign rfl rfl ?_
            exact WL.done ⟨_, rfl, rfl, ⟨_, _, _, rfl, hO8, hm8⟩⟩
        · intro vals w39 hT hVs
          rw [if_neg (by decide)] at hT
          have hB := ext_trans hB hT
          have hv0 : vals 0 = _ := hVs 0 (by decide) (by decide)
          have hv1 : vals 1 = _ := hVs 1 (by decide) (by decide)
          have hv2 : vals 2 = _ := hVs 2 (by decide) (by decide)
          have hv3 : vals 3 = _ := hVs 3 (by decide) (by decide)
          have hv4 : vals 4 = _ := hVs 4 (by decide) (by decide)
          have hv5 : vals 5 = _ := hVs 5 (by decide) (by decide)
          have hv6 : vals 6 = _ := hVs 6 (by decide) (by decide)
          have hv7 : vals 7 = _ := hVs 7 (by decide) (by decide)
          obtain ⟨A8, m8, c8, hv8, hO8, hm8⟩ := hVs 8 (by decide) (by decide)
          obtain ⟨A9, m9, c9, hv9, hO9, hm9⟩ := hVs 9 (by decide) (by decide)
          rw [show (List.filterMap (fun i => Option.map (fun t => (t, vals i)) (dstAt _ i)) (List.range _)) = [(17, .slice A m c), (18, .pointer (some ((adOf A).add 0))), (19, .slice (sA (cells.getD 0 undef)) (sM (cells.getD 0 undef)) (sC (cells.getD 0 undef))), (20, .slice (sA (cells.getD 0 undef)) (sigL (xss.getD 0 [])) (sC (cells.getD 0 undef))), (21, .slice A m c), (22, .pointer (some ((adOf A).add 1))), (23, .slice (sA (cells.getD 1 undef)) (sM (cells.getD 1 undef)) (sC (cells.getD 1 undef))), (24, .slice (sA (cells.getD 1 undef)) (sigL (xss.getD 1 [])) (sC (cells.getD 1 undef))), (25, .slice A8 m8 c8), (2, .slice A9 m9 c9)] from by
            show [(17, vals 0), (18, vals 1), (19, vals 2), (20, vals 3), (21, vals 4), (22, vals 5), (23, vals 6), (24, vals 7), (25, vals 8), (2, vals 9)] = _
            rw [hv0, hv1, hv2, hv3, hv4, hv5, hv6, hv7, hv8, hv9]]
          refine W.ret ?_
          refine ⟨_, rfl, ?_⟩
          exact ⟨_, _, _, rfl, hB, hO9, fun _ => hm9, by omega⟩
      · refine WL.assign rfl rfl ?_
        refine WL.done ?_
        refine W.condF rfl ?_
        refine W.skip ?_
        refine W.seq ?_
        refine W.region ?_
        refine WL.move rfl rfl ?_
        refine WL.len Try.underlying63 rfl rfl ?_
        refine WL.quo (r := ((xss.length / 2 : Nat) : Int)) rfl rfl (by omega) (qi64 (a := m) (b := 2) (by omega) (by omega) (by omega) |>.trans (by rw [hml])) rfl ?_
        refine WL.assign rfl rfl ?_
        refine WL.done ?_
        refine W.seq ?_
        refine W.draw [⟨[], [0], true⟩, ⟨[], [3], true⟩, ⟨[0, 1], [], true⟩, ⟨[2], [], false⟩, ⟨[], [0], true⟩, ⟨[], [3], true⟩, ⟨[4, 5], [], true⟩, ⟨[6], [], false⟩, ⟨[3, 7], [], false⟩, ⟨[8], [], true⟩] [[(0, .slice A m c)], [(3, .int .i64 ((xss.length / 2 : Nat) : Int))], [], [], [(0, .slice A m c)], [(3, .int .i64 ((xss.length / 2 : Nat) : Int))], [], [], [], []] (fun iQ => [fun v _ => v = .slice A m c, fun v _ => v = .int .i64 ((xss.length / 2 : Nat) : Int), fun v _ => v = .slice A (xss.length / 2) c, fun v wq => ∃ A2 m2 c2, v = .slice A2 m2 c2 ∧ Own w.heap.size wq 48 1 A2 m2 c2 (us (digs (prodN (xss.take (xss.length / 2))))) ∧ m2 ≤ xss.length / 2 * K, fun v _ => v = .slice A m c, fun v _ => v = .int .i64 ((xss.length / 2 : Nat) : Int), fun v _ => v = .slice (if c = xss.length / 2 then A else A.map (·.add (xss.length / 2 * 1))) (m - (xss.length / 2)) (c - (xss.length / 2)), fun v wq => ∃ A2 m2 c2, v = .slice A2 m2 c2 ∧ Own w.heap.size wq 48 1 A2 m2 c2 (us (digs (prodN (xss.drop (xss.length / 2))))) ∧ m2 ≤ (xss.length - xss.length / 2) * K, fun v wq => ∃ A2 m2 c2, v = .slice A2 m2 c2 ∧ Own w.heap.size wq 48 1 A2 m2 c2 (us (digs (prodN xss))) ∧ m2 ≤ xss.length * K, fun v wq => ∃ A2 m2 c2, v = .slice A2 m2 c2 ∧ Own w.heap.size wq 48 1 A2 m2 c2 (us (digs (prodN xss))) ∧ m2 ≤ xss.length * K].getD iQ (fun _ _ => True)) (fun _ => True) 10 Try.mixed (by kernel_rfl) ?_ ?_ ?_
        · refine Vs_mono _ ?_
          intro VQ hVQ vQ wQ1 wQ2 hQ1 hQ2
          simp only [List.mem_cons, List.not_mem_nil, or_false] at hVQ
          rcases hVQ with rfl | rfl | rfl | rfl | rfl | rfl | rfl | rfl | rfl | rfl
          all_goals first
            | exact hQ1
            | (obtain ⟨A2, m2, c2, q1, q2, q3⟩ := hQ1; rcases hQ2 with hQ2 | hQ2; exact ⟨A2, m2, c2, q1, q2.ext hQ2, q3⟩; exact absurd hQ2 (by decide))
        · refine ⟨⟨rfl, ⟨rfl, trivial⟩, ?_⟩, ⟨rfl, ⟨rfl, trivial⟩, ?_⟩, ⟨rfl, trivial, ?_⟩, ⟨rfl, trivial, ?_⟩, ⟨rfl, ⟨rfl, trivial⟩, ?_⟩, ⟨rfl, ⟨rfl, trivial⟩, ?_⟩, ⟨rfl, trivial, ?_⟩, ⟨rfl, trivial, ?_⟩, ⟨rfl, trivial, ?_⟩, ⟨rfl, trivial, ?_⟩, trivial⟩
          · intro w40 hE
            intro R
            refine WL.move rfl rfl ?_
            exact WL.done ⟨_, rfl, rfl, rfl⟩
          · intro w41 hE
            intro R
            refine WL.move rfl rfl ?_
            exact WL.done ⟨_, rfl, rfl, rfl⟩
          · intro w42 hE
            rintro _ rfl
            rintro _ rfl
            intro R
            refine WL.slTo (xss.length / 2) Try.underlying63 Try.el23 rfl rfl (by omega) (by omega) rfl ?_
            exact WL.done ⟨_, rfl, rfl, rfl⟩
          · intro w43 hE
            have hE := hE rfl
            have hB := ext_trans hB hE
            have hT := hT0.ext hB
            have hN := hN0.ext hB
            rintro _ rfl
            have hTt := hT.take (k := xss.length / 2) (by omega)
            rw [Nat.mul_one] at hTt
            have hNt := hN.take (xss.length / 2)
            intro R
            refine WL.call Try.func36 rfl Try.nm36 rfl rfl (ih hTt hNt (hL.take _) (hK.take _) (by have := Nat.mul_le_mul_right K (show (xss.take (xss.length / 2)).length ≤ xss.length by simp; omega); omega) (by simp; omega)) ?_
            rintro _ w44 ⟨A45, m46, cp47, rfl, hGw44, hO, hmq⟩
            have hO := hO.low (b' := w.heap.size) hB.size
            have hB := ext_trans hB hGw44
            have hO_l := hO.rd.ulen
            exact WL.done ⟨_, rfl, hGw44, ⟨_, _, _, rfl, hO, by have h := hmq.1 (by simp; omega); rwa [List.length_take, Nat.min_eq_left (by omega)] at h⟩⟩
          · intro w48 hE
            intro R
            refine WL.move rfl rfl ?_
            exact WL.done ⟨_, rfl, rfl, rfl⟩
          · intro w49 hE
            intro R
            refine WL.move rfl rfl ?_
            exact WL.done ⟨_, rfl, rfl, rfl⟩
          · intro w50 hE
            rintro _ rfl
            rintro _ rfl
            intro R
            refine WL.slFrom (xss.length / 2) Try.underlying63 Try.el23 rfl rfl (by omega) (by omega) rfl ?_
            exact WL.done ⟨_, rfl, rfl, rfl⟩
          · intro w51 hE
            have hE := hE rfl
            have hB := ext_trans hB hE
            have hT := hT0.ext hB
            have hN := hN0.ext hB
            rintro _ rfl
            have hTd := hT.drop (k := xss.length / 2) (by omega)
            rw [Nat.mul_one (xss.length / 2)] at hTd
            rw [Nat.mul_one (xss.length / 2)]
            have hNd := hN.drop (xss.length / 2)
            intro R
            refine WL.call Try.func36 rfl Try.nm36 rfl rfl (ih hTd hNd (hL.drop _) (hK.drop _) (by have := Nat.mul_le_mul_right K (show (xss.drop (xss.length / 2)).length ≤ xss.length by simp); omega) (by simp; omega)) ?_
            rintro _ w52 ⟨A53, m54, cp55, rfl, hGw52, hO, hmq⟩
            have hO := hO.low (b' := w.heap.size) hB.size
            have hB := ext_trans hB hGw52
            have hO_l := hO.rd.ulen
            exact WL.done ⟨_, rfl, hGw52, ⟨_, _, _, rfl, hO, by have h := hmq.1 (by simp; omega); rwa [List.length_drop] at h⟩⟩
          · intro w56 hE
            have hE := hE rfl
            have hB := ext_trans hB hE
            rintro _ ⟨A3, m3, c3, rfl, hO3, hm3⟩
            rintro _ ⟨A7, m7, c7, rfl, hO7, hm7⟩
            have := Nat.mul_le_mul_right K (show xss.length / 2 ≤ xss.length by omega)
            have := Nat.mul_le_mul_right K (show xss.length - xss.length / 2 ≤ xss.length by omega)
            intro R
            refine WL.call Try.func63 rfl Try.nm63 rfl rfl (product_c hO3.rd hO7.rd (digs_lim _) (digs_lim _) (by omega) (by omega)) ?_
            rintro _ w57 ⟨A58, m59, cp60, rfl, hGw57, hO, hm61⟩
            have hO := hO.low (b' := w.heap.size) hB.size
            have hB := ext_trans hB hGw57
            have hO_l := hO.rd.ulen
            rw [nv_digs, nv_digs, prodN_split] at hO
            exact WL.done ⟨_, rfl, hGw57, ⟨_, _, _, rfl, hO, by have := Nat.add_mul (xss.length / 2) (xss.length - xss.length / 2) K; rw [show xss.length / 2 + (xss.length - xss.length / 2) = xss.length by omega] at this; omega⟩⟩
          · intro w62 hE
            rintro _ ⟨A8, m8, c8, rfl, hO8, hm8⟩
            intro R
            refine WL.assign rfl rfl ?_
            exact WL.done ⟨_, rfl, rfl, ⟨_, _, _, rfl, hO8, hm8⟩⟩
        · intro vals w63 hT hVs
          rw [if_neg (by decide)] at hT
          have hB := ext_trans hB hT
          have hv0 : vals 0 = _ := hVs 0 (by decide) (by decide)
          have hv1 : vals 1 = _ := hVs 1 (by decide) (by decide)
          have hv2 : vals 2 = _ := hVs 2 (by decide) (by decide)
          obtain ⟨A3, m3, c3, hv3, hO3, hm3⟩ := hVs 3 (by decide) (by decide)
          have hv4 : vals 4 = _ := hVs 4 (by decide) (by decide)
          have hv5 : vals 5 = _ := hVs 5 (by decide) (by decide)
          have hv6 : vals 6 = _ := hVs 6 (by decide) (by decide)
          obtain ⟨A7, m7, c7, hv7, hO7, hm7⟩ := hVs 7 (by decide) (by decide)
          obtain ⟨A8, m8, c8, hv8, hO8, hm8⟩ := hVs 8 (by decide) (by decide)
          obtain ⟨A9, m9, c9, hv9, hO9, hm9⟩ := hVs 9 (by decide) (by decide)
          rw [show (List.filterMap (fun i => Option.map (fun t => (t, vals i)) (dstAt _ i)) (List.range _)) = [(29, .slice A m c), (30, .int .i64 ((xss.length / 2 : Nat) : Int)), (31, .slice A (xss.length / 2) c), (32, .slice A3 m3 c3), (33, .slice A m c), (34, .int .i64 ((xss.length / 2 : Nat) : Int)), (35, .slice (if c = xss.length / 2 then A else A.map (·.add (xss.length / 2 * 1))) (m - (xss.length / 2)) (c - (xss.length / 2))), (36, .slice A7 m7 c7), (37, .slice A8 m8 c8), (2, .slice A9 m9 c9)] from by
            show [(29, vals 0), (30, vals 1), (31, vals 2), (32, vals 3), (33, vals 4), (34, vals 5), (35, vals 6), (36, vals 7), (37, vals 8), (2, vals 9)] = _
            rw [hv0, hv1, hv2, hv3, hv4, hv5, hv6, hv7, hv8, hv9]]
          refine W.ret ?_
          refine ⟨_, rfl, ?_⟩
          exact ⟨_, _, _, rfl, hB, hO9, fun _ => hm9, by omega⟩

theorem Mul_c {w : World} {B : Nat} {A : Option Addr} {m c : Nat} {cells : List Value} (hT : Rd B w 1 A m c cells) {B2 : Nat} {xss : List (List Nat)} (hN : NatsR B2 w cells xss) (hL : LimAll xss) (K : Nat) (hK : LenAll K xss) (hKK : xss.length * K + 1 ≤ 1099511627776) :
    Calls Try.prog 36 #[.slice A m c] w fun e w2 => ∃ v, e = .returned v ∧ (fun v w2 => ∃ A2 m2 c2, v = .slice A2 m2 c2 ∧ w.grownBy w2 none ∧ Own w.heap.size w2 48 1 A2 m2 c2 (us (digs (prodN xss))) ∧ (0 < xss.length → m2 ≤ xss.length * K) ∧ m2 ≤ xss.length * K + 1) v w2 := by
  induction hn : xss.length using Nat.strongRecOn generalizing w B A m c cells B2 xss with
  | _ n ih => rw [← hn]; exact Mul_step hT hN hL hK hKK (fun {_ _ _ _ _ _} hT {_ _} hN hL hK hKK hl => ih _ (hn ▸ hl) hT hN hL hK hKK rfl)

theorem Sub32_c {w : World} (x y c : Nat) {X Y Z : Int} (hX : X = x) (hY : Y = y) (hZ : Z = c) (hx : x < 4294967296) (hy : y < 4294967296) (hc : c ≤ 1) :
    Calls Try.prog 81 #[.int .u32 X, .int .u32 Y, .int .u32 Z] w fun e w2 => ∃ v, e = .returned v ∧ (fun v w2 => v = .tuple #[.int .u32 (((x + 8589934592 - y - c) % 4294967296 : Nat) : Int), .int .u32 ((if x < y + c then 1 else 0 : Nat) : Int)] ∧ w.grownBy w2 none) v w2 := by
  have hB := ext_refl w
  refine calls_of_W (vs := [.int .u32 X, .int .u32 Y, .int .u32 Z]) [6, 7] Try.func81 rfl rfl rfl rfl ?_
  refine W.seq ?_
  refine W.region ?_
  refine WL.assign rfl rfl ?_
  refine WL.assign rfl rfl ?_
  refine WL.done ?_
  refine W.seq ?_
  refine W.region ?_
  refine WL.move rfl rfl ?_
  refine WL.move rfl rfl ?_
  refine WL.sub (r := (((x + 4294967296 - y) % 4294967296 : Nat) : Int)) rfl rfl (wu32m (by omega)) rfl ?_
  refine WL.move rfl rfl ?_
  refine WL.sub (r := (((x + 8589934592 - y - c) % 4294967296 : Nat) : Int)) rfl rfl (wu32m (by omega)) rfl ?_
  refine WL.assign rfl rfl ?_
  refine WL.done ?_
  refine W.seq ?_
  refine W.region ?_
  refine WL.move rfl rfl ?_
  refine WL.compl32 (hx := rfl) (a := x) (by omega) (by omega) rfl ?_
  refine WL.move rfl rfl ?_
  refine WL.bits (r := (((4294967295 - x) &&& y : Nat) : Int)) rfl rfl (.inl rfl) (and32 (by omega) (by omega) (by omega) (by omega)) rfl ?_
  refine WL.move rfl rfl ?_
  refine WL.move rfl rfl ?_
  refine WL.bits (r := ((x ^^^ y : Nat) : Int)) rfl rfl (.inr (.inr (.inl rfl))) (xor32 (by omega) (by omega) (by omega) (by omega)) rfl ?_
  refine WL.compl32 (hx := rfl) (a := x ^^^ y) (by omega) (Nat.xor_lt_two_pow (n := 32) hx hy) rfl ?_
  refine WL.move rfl rfl ?_
  refine WL.bits (r := (((4294967295 - (x ^^^ y)) &&& ((x + 8589934592 - y - c) % 4294967296) : Nat) : Int)) rfl rfl (.inl rfl) (and32 (by omega) (by omega) (by omega) (by omega)) rfl ?_
  refine WL.bits (r := ((((4294967295 - x) &&& y) ||| ((4294967295 - (x ^^^ y)) &&& ((x + 8589934592 - y - c) % 4294967296)) : Nat) : Int)) rfl rfl (.inr (.inl rfl)) (or32 (by omega) (by omega) (by exact Nat.lt_of_le_of_lt Nat.and_le_right (by omega)) (by exact Nat.lt_of_le_of_lt Nat.and_le_right (by omega))) rfl ?_
  refine WL.shr (r := (((((4294967295 - x) &&& y) ||| ((4294967295 - (x ^^^ y)) &&& ((x + 8589934592 - y - c) % 4294967296))) / 2147483648 : Nat) : Int)) rfl rfl (by omega) (shr_nat (a := ((4294967295 - x) &&& y) ||| ((4294967295 - (x ^^^ y)) &&& ((x + 8589934592 - y - c) % 4294967296))) (s := 31) (by omega) (by omega) 32 (by omega)) rfl ?_
  refine WL.assign rfl rfl ?_
  refine WL.done ?_
  refine W.ret ?_
  refine ⟨_, rfl, ?_⟩
  rw [borrow32 hx hy hc]; exact ⟨rfl, hB⟩
end Go.Proofs.Ythfpcebcfjlkmac
set_option linter.unusedSimpArgs false
set_option linter.unusedVariables false
namespace Go.Proofs.Ythfpcebcfjlkmac
open Go.RowKit
theorem Sub_lt {w : World} {Ba : Nat} {Aa : Option Addr} {ma ca : Nat} {xa : List Nat} (ha : Rd Ba w 1 Aa ma ca (us xa)) {Bb : Nat} {Ab : Option Addr} {mb cb : Nat} {xb : List Nat} (hb : Rd Bb w 1 Ab mb cb (us xb)) (hLa : Lim xa) (hLb : Lim xb) (hlt : nv xa < nv xb) :
    Calls Try.prog 64 #[.slice Aa ma ca, .slice Ab mb cb] w fun e w2 => ∃ v, e = .returned v ∧ (fun v w2 => v = .tuple #[.slice none 0 0, .int .i64 6] ∧ w.grownBy w2 none) v w2 := by
  have ha := ha.norm
  have ha_l := ha.ulen
  have ha_x := ha.max
  simp only [maxLen] at ha_x
  have ha_c := ha.cap
  have hb := hb.norm
  have hb_l := hb.ulen
  have hb_x := hb.max
  simp only [maxLen] at hb_x
  have hb_c := hb.cap
  have ha0 := ha
  have hb0 := hb
  have hcm := cmpI_lt hlt
  have hB := ext_refl w
  refine calls_of_W (vs := [.slice Aa ma ca, .slice Ab mb cb]) [4, 5] Try.func64 rfl rfl rfl rfl ?_
  refine W.seq ?_
  refine W.region ?_
  refine WL.assign rfl rfl ?_
  refine WL.assign rfl rfl ?_
  refine WL.done ?_
  refine W.seq ?_
  refine W.seq ?_
  refine W.region ?_
  refine WL.move rfl rfl ?_
  refine WL.move rfl rfl ?_
  refine WL.call Try.func35 rfl Try.nm35 rfl rfl (Cmp_c ha hb hLa hLb) ?_
  rintro _ w11 ⟨rfl, hGw11⟩
  have hB := ext_trans hB hGw11
  refine WL.lss rfl rfl rfl (fun c12 => ?_) (fun c12 => ?_)
  · refine WL.done ?_
    refine W.condT rfl ?_
    refine W.seq ?_
    refine W.region ?_
    refine WL.assign rfl rfl ?_
    refine WL.assign rfl rfl ?_
    refine WL.done ?_
    refine W.ret ?_
    refine ⟨_, rfl, ?_⟩
    exact ⟨rfl, hB⟩
  · exfalso
    omega

theorem Sub_ge {w : World} {Ba : Nat} {Aa : Option Addr} {ma ca : Nat} {xa : List Nat} (ha : Rd Ba w 1 Aa ma ca (us xa)) {Bb : Nat} {Ab : Option Addr} {mb cb : Nat} {xb : List Nat} (hb : Rd Bb w 1 Ab mb cb (us xb)) (hLa : Lim xa) (hLb : Lim xb) (hsa : ma ≤ 1099511627776) (hge : nv xb ≤ nv xa) :
    Calls Try.prog 64 #[.slice Aa ma ca, .slice Ab mb cb] w fun e w2 => ∃ v, e = .returned v ∧ (fun v w2 => ∃ A2 m2 c2, v = .tuple #[.slice A2 m2 c2, .int .i64 0] ∧ w.grownBy w2 none ∧ Own w.heap.size w2 48 1 A2 m2 c2 (us (digs (nv xa - nv xb))) ∧ m2 ≤ ma) v w2 := by
  have ha := ha.norm
  have ha_l := ha.ulen
  have ha_x := ha.max
  simp only [maxLen] at ha_x
  have ha_c := ha.cap
  have hb := hb.norm
  have hb_l := hb.ulen
  have hb_x := hb.max
  simp only [maxLen] at hb_x
  have hb_c := hb.cap
  have ha0 := ha
  have hb0 := hb
  have hcm := cmpI_ge hge
  have hsg := sigL_mono hLa hLb hge
  have hsa2 := sigL_le xa
  have hB := ext_refl w
  refine calls_of_W (vs := [.slice Aa ma ca, .slice Ab mb cb]) [4, 5] Try.func64 rfl rfl rfl rfl ?_
  refine W.seq ?_
  refine W.region ?_
  refine WL.assign rfl rfl ?_
  refine WL.assign rfl rfl ?_
  refine WL.done ?_
  refine W.seq ?_
  refine W.seq ?_
  refine W.region ?_
  refine WL.move rfl rfl ?_
  refine WL.move rfl rfl ?_
  refine WL.call Try.func35 rfl Try.nm35 rfl rfl (Cmp_c ha hb hLa hLb) ?_
  rintro _ w11 ⟨rfl, hGw11⟩
  have hB := ext_trans hB hGw11
  have ha := ha0.ext hB
  have hb := hb0.ext hB
  refine WL.lss rfl rfl rfl (fun c12 => ?_) (fun c12 => ?_)
  · exfalso
    omega
  · refine WL.done ?_
    refine W.condF rfl ?_
    refine W.skip ?_
    refine W.seq ?_
    refine W.region ?_
    refine WL.move rfl rfl ?_
    refine WL.call Try.func47 rfl Try.nm47 rfl rfl (Trim_c ha (by omega)) ?_
    rintro _ w13 ⟨A14, m15, cp16, rfl, hGw13, ho, hm17⟩
    have ho := ho.low (b' := w.heap.size) hB.size
    have hB := ext_trans hB hGw13
    have hb := hb0.ext hB
    have ho_l := ho.rd.ulen
    have ho_e : (trimL xa).length = sigL xa := rfl
    refine WL.move rfl rfl ?_
    refine WL.call Try.func46 rfl Try.nm46 rfl rfl (sig_c hb) ?_
    rintro _ w18 ⟨rfl, hGw18⟩
    have hB := ext_trans hB hGw18
    have hb := hb0.ext hB
    have ho := ho.ext hGw18
    refine WL.assign rfl rfl ?_
    refine WL.assign rfl rfl ?_
    refine WL.done ?_
    refine W.seq ?_
    refine W.region ?_
    refine WL.assign rfl rfl ?_
    refine WL.done ?_
    refine W.seq ?_
    refine W.seq ?_
    refine W.region ?_
    refine WL.assign rfl rfl ?_
    refine WL.done ?_
    refine W.block ?_
    refine W.loop (σ := Nat × Nat × Nat × List Nat × Option Addr × Nat) (fun s w1 => match s with | (i, c, n, ys, Ao, co) => w.grownBy w1 none ∧ c ≤ 1 ∧ i ≤ n ∧ n = sigL xa ∧ Lim ys ∧ ys.length = n ∧ nv ys + nv (xb.take i) = nv xa + 4294967296 ^ i * c ∧ Own w.heap.size w1 48 1 Ao n co (us ys)) (fun s => match s with | (i, c, n, ys, Ao, co) => [(1, .slice Ab (sigL xb) cb), (6, .slice Ao n co), (7, .int .u32 ((c : Nat) : Int)), (8, .int .i64 ((i : Nat) : Int))]) (fun s => match s with | (i, c, n, ys, Ao, co) => sigL xa - i) (0, 0, m15, trimL xa, A14, cp16) ?_ ?_ ?_
    · exact ⟨hB, by omega, by omega, by omega, hLa.trim, by omega, by simp, ho⟩
    · exact ⟨rfl, rfl, iv (by omega), iv (by omega), trivial⟩
    · rintro ⟨i, c, n, ys, Ao, co⟩ w19 ⟨hB, hc, hi, hn, hLy, hly, heq, ho⟩
      have hb := hb0.ext hB
      have ho_x := ho.rd.max
      simp only [maxLen] at ho_x
      have ho_c := ho.rd.cap
      have hlb : (trimL xb).length = sigL xb := rfl
      refine W.cut (σ := Unit) (fun _u w1 => i < n ∧ w19 = w1) (fun _u => [(1, .slice Ab (sigL xb) cb), (6, .slice Ao n co), (7, .int .u32 ((c : Nat) : Int)), (8, .int .i64 ((i : Nat) : Int))]) ?_ ?_
      · refine W.seq ?_
        refine W.region ?_
        refine WL.move rfl rfl ?_
        refine WL.move rfl rfl ?_
        refine WL.len Try.underlying23 rfl rfl ?_
        refine WL.lss rfl rfl rfl (fun c20 => ?_) (fun c20 => ?_)
        · refine WL.move rfl rfl ?_
          refine WL.pass rfl rfl rfl ?_
          refine WL.pass rfl rfl rfl ?_
          refine WL.pick rfl rfl rfl ?_
          refine WL.done ?_
          refine W.condT rfl ?_
          refine W.skip ?_
          refine ⟨(), ⟨rfl, rfl, iv (by omega), iv (by omega), trivial⟩, ?_⟩
          exact ⟨sub_room hly hLy hLb hge heq (by omega) hn hi (by omega), rfl⟩
        · refine WL.move rfl rfl ?_
          refine WL.take rfl ?_
          refine WL.move rfl rfl ?_
          refine WL.take rfl ?_
          refine WL.neq rfl rfl rfl (fun c21 => ?_) (fun c21 => ?_)
          · refine WL.pick rfl rfl rfl ?_
            refine WL.done ?_
            refine W.condT rfl ?_
            refine W.skip ?_
            refine ⟨(), ⟨rfl, rfl, iv (by omega), iv (by omega), trivial⟩, ?_⟩
            exact ⟨sub_room hly hLy hLb hge heq (by omega) hn hi (by omega), rfl⟩
          · refine WL.pick rfl rfl rfl ?_
            refine WL.done ?_
            refine W.condF rfl ?_
            refine W.exit ?_
            refine W.seq ?_
            refine W.region ?_
            refine WL.move rfl rfl ?_
            refine WL.call Try.func46 rfl Try.nm46 rfl rfl (sig_c ho.rd) ?_
            rintro _ w22 ⟨rfl, hGw22⟩
            have hB := ext_trans hB hGw22
            have ho := ho.ext hGw22
            refine WL.assign rfl rfl ?_
            refine WL.assign rfl rfl ?_
            refine WL.done ?_
            refine W.ret ?_
            refine ⟨_, rfl, ?_⟩
            have hO := ho.sig
            have hsl := sigL_le ys
            have hc2 : c = 0 := by omega
            subst hc2
            rw [Nat.mul_zero, Nat.add_zero, nv_take_sig (by omega)] at heq
            rw [digs_trim hLy, show nv ys = nv xa - nv xb by omega] at hO
            exact ⟨_, _, _, rfl, hB, hO, by omega⟩
      · rintro _u w23 ⟨hin, rfl⟩
        have hyi := hLy.getD i
        have hxb := hLb.getD i
        have htb := hLb.trim.getD i
        refine W.seq ?_
        refine W.block ?_
        refine W.draw [⟨[], [6], true⟩, ⟨[], [8], true⟩, ⟨[], [6], true⟩, ⟨[], [8], true⟩, ⟨[2, 3], [], true⟩, ⟨[4], [], false⟩, ⟨[], [1], true⟩, ⟨[], [8], true⟩, ⟨[6, 7], [], false⟩, ⟨[], [7], true⟩, ⟨[5, 8, 9], [], false⟩, ⟨[10], [], true⟩, ⟨[11], [], true⟩, ⟨[11], [], true⟩, ⟨[0, 1], [], true⟩, ⟨[14, 12], [], false⟩, ⟨[13], [], true⟩] [[(6, .slice Ao n co)], [(8, .int .i64 ((i : Nat) : Int))], [(6, .slice Ao n co)], [(8, .int .i64 ((i : Nat) : Int))], [], [], [(1, .slice Ab (sigL xb) cb)], [(8, .int .i64 ((i : Nat) : Int))], [], [(7, .int .u32 ((c : Nat) : Int))], [], [], [], [], [], [], []] (fun iQ => [fun v _ => v = .slice Ao n co, fun v _ => v = .int .i64 ((i : Nat) : Int), fun v _ => v = .slice Ao n co, fun v _ => v = .int .i64 ((i : Nat) : Int), fun v _ => v = .pointer (some ((adOf Ao).add i)), fun v _ => v = .int .u32 ((ys.getD i 0 : Nat) : Int), fun v _ => v = .slice Ab (sigL xb) cb, fun v _ => v = .int .i64 ((i : Nat) : Int), fun v _ => v = .int .u32 (((trimL xb).getD i 0 : Nat) : Int), fun v _ => v = .int .u32 ((c : Nat) : Int), fun v _ => v = .tuple #[.int .u32 (((ys.getD i 0 + 8589934592 - (trimL xb).getD i 0 - c) % 4294967296 : Nat) : Int), .int .u32 ((if ys.getD i 0 < (trimL xb).getD i 0 + c then 1 else 0 : Nat) : Int)], fun v _ => v = .tuple #[.int .u32 (((ys.getD i 0 + 8589934592 - (trimL xb).getD i 0 - c) % 4294967296 : Nat) : Int), .int .u32 ((if ys.getD i 0 < (trimL xb).getD i 0 + c then 1 else 0 : Nat) : Int)], fun v _ => v = .int .u32 (((ys.getD i 0 + 8589934592 - (trimL xb).getD i 0 - c) % 4294967296 : Nat) : Int), fun v _ => v = .int .u32 ((if ys.getD i 0 < (trimL xb).getD i 0 + c then 1 else 0 : Nat) : Int), fun v _ => v = .pointer (some ((adOf Ao).add i)), fun _ _ => True, fun v _ => v = .int .u32 ((if ys.getD i 0 < (trimL xb).getD i 0 + c then 1 else 0 : Nat) : Int)].getD iQ (fun _ _ => True)) (fun w1 => w.grownBy w1 none ∧ Own w.heap.size w1 48 1 Ao n co (us (ys.set i ((ys.getD i 0 + 8589934592 - (trimL xb).getD i 0 - c) % 4294967296)))) 15 Try.mixed (by kernel_rfl) ?_ ?_ ?_
        · refine Vs_mono _ ?_
          intro VQ hVQ vQ wQ1 wQ2 hQ1 hQ2
          simp only [List.mem_cons, List.not_mem_nil, or_false] at hVQ
          rcases hVQ with rfl | rfl | rfl | rfl | rfl | rfl | rfl | rfl | rfl | rfl | rfl | rfl | rfl | rfl | rfl | rfl | rfl <;> exact hQ1
        · refine ⟨⟨rfl, ⟨rfl, trivial⟩, ?_⟩, ⟨rfl, ⟨rfl, trivial⟩, ?_⟩, ⟨rfl, ⟨rfl, trivial⟩, ?_⟩, ⟨rfl, ⟨rfl, trivial⟩, ?_⟩, ⟨rfl, trivial, ?_⟩, ⟨rfl, trivial, ?_⟩, ⟨rfl, ⟨rfl, trivial⟩, ?_⟩, ⟨rfl, ⟨rfl, trivial⟩, ?_⟩, ⟨rfl, trivial, ?_⟩, ⟨rfl, ⟨rfl, trivial⟩, ?_⟩, ⟨rfl, trivial, ?_⟩, ⟨rfl, trivial, ?_⟩, ⟨rfl, trivial, ?_⟩, ⟨rfl, trivial, ?_⟩, ⟨rfl, trivial, ?_⟩, ⟨rfl, trivial, ?_⟩, ⟨rfl, trivial, ?_⟩, trivial⟩
          · intro w24 hE
            intro R
            refine WL.move rfl rfl ?_
            exact WL.done ⟨_, rfl, rfl, rfl⟩
          · intro w25 hE
            intro R
            refine WL.move rfl rfl ?_
            exact WL.done ⟨_, rfl, rfl, rfl⟩
          · intro w26 hE
            intro R
            refine WL.move rfl rfl ?_
            exact WL.done ⟨_, rfl, rfl, rfl⟩
          · intro w27 hE
            intro R
            refine WL.move rfl rfl ?_
            exact WL.done ⟨_, rfl, rfl, rfl⟩
          · intro w28 hE
            rintro _ rfl
            rintro _ rfl
            intro R
            refine WL.index1 (i) Try.underlying23 Try.el48 rfl rfl (by omega) (by omega) ho.rd rfl ?_
            exact WL.done ⟨_, rfl, rfl, rfl⟩
          · intro w29 hE
            have hE := hE rfl
            have hB := ext_trans hB hE
            have ho := ho.ext hE
            rintro _ rfl
            intro R
            refine WL.load Try.underlying48 rfl rfl (Rd.at_ ho.rd (us_at (by omega))) rfl ?_
            exact WL.done ⟨_, rfl, ext_refl _, rfl⟩
          · intro w30 hE
            intro R
            refine WL.move rfl rfl ?_
            exact WL.done ⟨_, rfl, rfl, rfl⟩
          · intro w31 hE
            intro R
            refine WL.move rfl rfl ?_
            exact WL.done ⟨_, rfl, rfl, rfl⟩
          · intro w32 hE
            have hE := hE rfl
            have hB := ext_trans hB hE
            have hb := hb0.ext hB
            rintro _ rfl
            rintro _ rfl
            intro R
            refine WL.call Try.func79 rfl Try.nm79 rfl rfl (limbAt_c hb.sig (i) (by omega)) ?_
            rintro _ w33 ⟨rfl, hGw33⟩
            have hB := ext_trans hB hGw33
            exact WL.done ⟨_, rfl, hGw33, rfl⟩
          · intro w34 hE
            intro R
            refine WL.move rfl rfl ?_
            exact WL.done ⟨_, rfl, rfl, rfl⟩
          · intro w35 hE
            have hE := hE rfl
            have hB := ext_trans hB hE
            rintro _ rfl
            rintro _ rfl
            rintro _ rfl
            intro R
            refine WL.call Try.func81 rfl Try.nm81 rfl rfl (Sub32_c (ys.getD i 0) ((trimL xb).getD i 0) c (by omega) (by omega) (by omega) (by omega) (by omega) (by omega)) ?_
            rintro _ w36 ⟨rfl, hGw36⟩
            have hB := ext_trans hB hGw36
            exact WL.done ⟨_, rfl, hGw36, rfl⟩
          · intro w37 hE
            rintro _ rfl
            intro R
            refine WL.move rfl rfl ?_
            exact WL.done ⟨_, rfl, rfl, rfl⟩
          · intro w38 hE
            rintro _ rfl
            intro R
            refine WL.extract rfl rfl rfl ?_
            exact WL.done ⟨_, rfl, rfl, rfl⟩
          · intro w39 hE
            rintro _ rfl
            intro R
            refine WL.extract rfl rfl rfl ?_
            exact WL.done ⟨_, rfl, rfl, rfl⟩
          · intro w40 hE
            rintro _ rfl
            rintro _ rfl
            intro R
            refine WL.index1 (i) Try.underlying23 Try.el48 rfl rfl (by omega) (by omega) ho.rd rfl ?_
            exact WL.done ⟨_, rfl, rfl, rfl⟩
          · intro w41 hE
            have hE := hE rfl
            have hB := ext_trans hB hE
            have ho := ho.ext hE
            rintro _ rfl
            rintro _ rfl
            intro R
            refine WL.store Try.el48 rfl rfl rfl (by omega) ho ?_
            have hOld43 := ho
            intro w42 ho hGw42
            change Own _ _ _ _ _ _ _ ((us ys).set i (.int .u32 (((ys.getD i 0 + 8589934592 - (trimL xb).getD i 0 - c) % 4294967296 : Nat) : Int))) at ho
            rw [us_set] at ho
            have hB := ext_own hB hGw42 (fun g hg => (hOld43.bl_ge g hg).1)
            have := ho.rd.ulen
            exact WL.done ⟨rfl, ⟨hB, ho⟩⟩
          · intro w44 hE
            rintro _ rfl
            intro R
            refine WL.assign rfl rfl ?_
            exact WL.done ⟨_, rfl, rfl, rfl⟩
        · intro vals w45 hT hVs
          rw [if_pos (by decide)] at hT
          obtain ⟨hB, ho⟩ := hT
          have hv0 : vals 0 = _ := hVs 0 (by decide) (by decide)
          have hv1 : vals 1 = _ := hVs 1 (by decide) (by decide)
          have hv2 : vals 2 = _ := hVs 2 (by decide) (by decide)
          have hv3 : vals 3 = _ := hVs 3 (by decide) (by decide)
          have hv4 : vals 4 = _ := hVs 4 (by decide) (by decide)
          have hv5 : vals 5 = _ := hVs 5 (by decide) (by decide)
          have hv6 : vals 6 = _ := hVs 6 (by decide) (by decide)
          have hv7 : vals 7 = _ := hVs 7 (by decide) (by decide)
          have hv8 : vals 8 = _ := hVs 8 (by decide) (by decide)
          have hv9 : vals 9 = _ := hVs 9 (by decide) (by decide)
          have hv10 : vals 10 = _ := hVs 10 (by decide) (by decide)
          have hv11 : vals 11 = _ := hVs 11 (by decide) (by decide)
          have hv12 : vals 12 = _ := hVs 12 (by decide) (by decide)
          have hv13 : vals 13 = _ := hVs 13 (by decide) (by decide)
          have hv14 : vals 14 = _ := hVs 14 (by decide) (by decide)
          have hv16 : vals 16 = _ := hVs 16 (by decide) (by decide)
          rw [show (List.filterMap (fun i => Option.map (fun t => (t, vals i)) (dstAt _ i)) (List.range _)) = [(28, .slice Ao n co), (29, .int .i64 ((i : Nat) : Int)), (30, .slice Ao n co), (31, .int .i64 ((i : Nat) : Int)), (32, .pointer (some ((adOf Ao).add i))), (33, .int .u32 ((ys.getD i 0 : Nat) : Int)), (34, .slice Ab (sigL xb) cb), (35, .int .i64 ((i : Nat) : Int)), (36, .int .u32 (((trimL xb).getD i 0 : Nat) : Int)), (37, .int .u32 ((c : Nat) : Int)), (38, .tuple #[.int .u32 (((ys.getD i 0 + 8589934592 - (trimL xb).getD i 0 - c) % 4294967296 : Nat) : Int), .int .u32 ((if ys.getD i 0 < (trimL xb).getD i 0 + c then 1 else 0 : Nat) : Int)]), (27, .tuple #[.int .u32 (((ys.getD i 0 + 8589934592 - (trimL xb).getD i 0 - c) % 4294967296 : Nat) : Int), .int .u32 ((if ys.getD i 0 < (trimL xb).getD i 0 + c then 1 else 0 : Nat) : Int)]), (39, .int .u32 (((ys.getD i 0 + 8589934592 - (trimL xb).getD i 0 - c) % 4294967296 : Nat) : Int)), (40, .int .u32 ((if ys.getD i 0 < (trimL xb).getD i 0 + c then 1 else 0 : Nat) : Int)), (41, .pointer (some ((adOf Ao).add i))), (7, .int .u32 ((if ys.getD i 0 < (trimL xb).getD i 0 + c then 1 else 0 : Nat) : Int))] from by
            show [(28, vals 0), (29, vals 1), (30, vals 2), (31, vals 3), (32, vals 4), (33, vals 5), (34, vals 6), (35, vals 7), (36, vals 8), (37, vals 9), (38, vals 10), (27, vals 11), (39, vals 12), (40, vals 13), (41, vals 14), (7, vals 16)] = _
            rw [hv0, hv1, hv2, hv3, hv4, hv5, hv6, hv7, hv8, hv9, hv10, hv11, hv12, hv13, hv14, hv16]]
          refine W.region ?_
          refine WL.move rfl rfl ?_
          refine WL.add (r := ((i + 1 : Nat) : Int)) rfl rfl (wi64 (by omega) (by omega) (by omega)) rfl ?_
          refine WL.assign rfl rfl ?_
          refine WL.done ?_
          refine ⟨(i + 1, if ys.getD i 0 < (trimL xb).getD i 0 + c then 1 else 0, n, ys.set i ((ys.getD i 0 + 8589934592 - (trimL xb).getD i 0 - c) % 4294967296), Ao, co), ⟨rfl, rfl, iv (by omega), iv (by omega), trivial⟩, by (dsimp only; omega), ?_⟩
          rw [trimL_getD0] at ho ⊢
          have hst := subin_step (x := xb.getD i 0) (by omega) heq hc hyi hxb
          exact ⟨hB, by split <;> omega, by omega, hn, hLy.set _ (Nat.mod_lt _ (by decide)), by simp [hly], by rw [nv_take_succ]; exact hst, ho⟩
end Go.Proofs.Ythfpcebcfjlkmac
set_option linter.unusedSimpArgs false
set_option linter.unusedVariables false
namespace Go.Proofs.Ythfpcebcfjlkmac
open Go.RowKit
end Go.Proofs.Ythfpcebcfjlkmac
set_option linter.unusedSimpArgs false
set_option linter.unusedVariables false
namespace Go.Proofs.Ythfpcebcfjlkmac
open Go.RowKit
theorem digs_lit {n k : Nat} (h : n = k) (h0 : 0 < k) (hk : k < 4294967296) : digs n = [k] := by
  subst h
  have h1 : trimL [n] = [n] := canon_of_ge (Lim.one hk) (fun _ => by simp; omega)
  have h2 := trimL_digs [n] (Lim.one hk)
  rw [h1, nv_one] at h2
  exact h2.symm
theorem digs_congr {a b : Nat} (h : a = b) : digs a = digs b := by rw [h]

theorem cmpI_cases (a b : Nat) : (a < b ∧ cmpI a b = -1) ∨ (a = b ∧ cmpI a b = 0) ∨ (b < a ∧ cmpI a b = 1) := by
  rcases Nat.lt_trichotomy a b with h | h | h
  · exact .inl ⟨h, cmpI_lt h⟩
  · exact .inr (.inl ⟨h, cmpI_eq h⟩)
  · exact .inr (.inr ⟨h, cmpI_gt h⟩)
theorem trimL_inj {a b : List Nat} (ha : Lim a) (hb : Lim b) : trimL a = trimL b ↔ nv a = nv b := by
  constructor
  · intro h; have := congrArg nv h; simpa using this
  · intro h; rw [trimL_digs _ ha, trimL_digs _ hb, h]

theorem Rd.nilU {w : World} : Rd 0 w 1 none 0 0 (us []) := Rd.nil (by simp [maxLen])
theorem NatsR.one {B : Nat} {w : World} {cells : List Value} {xss : List (List Nat)} (h : NatsR B w cells xss) : ∀ u ∈ cells, u.oneCell' = true := fun u hu => by
  obtain ⟨j, hj, rfl⟩ := List.getElem_of_mem hu
  have h1 := (h.all j (by rw [← h.len]; exact hj)).1
  have h2 : cells.getD j undef = cells[j] := by simp [List.getD_eq_getElem?_getD, hj]
  rw [h2] at h1
  rw [h1]; rfl
theorem NatsR.append {B : Nat} {w : World} {c1 c2 : List Value} {x1 x2 : List (List Nat)} (h : NatsR B w c1 x1) (h' : NatsR B w c2 x2) : NatsR B w (c1 ++ c2) (x1 ++ x2) := by
  have hl := h.len
  refine ⟨by simp [h.len, h'.len], fun j hj => ?_⟩
  rcases Nat.lt_or_ge j x1.length with hc | hc
  · have e1 : (c1 ++ c2).getD j undef = c1.getD j undef := by simp only [List.getD_eq_getElem?_getD]; rw [List.getElem?_append_left (by omega)]
    have e2 : (x1 ++ x2).getD j [] = x1.getD j [] := by simp only [List.getD_eq_getElem?_getD]; rw [List.getElem?_append_left hc]
    rw [e1, e2]; exact h.all j hc
  · have e1 : (c1 ++ c2).getD j undef = c2.getD (j - x1.length) undef := by simp only [List.getD_eq_getElem?_getD]; rw [List.getElem?_append_right (by omega), hl]
    have e2 : (x1 ++ x2).getD j [] = x2.getD (j - x1.length) [] := by simp only [List.getD_eq_getElem?_getD]; rw [List.getElem?_append_right hc]
    rw [e1, e2]; exact h'.all _ (by simp at hj; omega)
theorem getD_app_all {p : List Nat → Prop} {a b : List (List Nat)} (ha : ∀ i, i < a.length → p (a.getD i [])) (hb : ∀ i, i < b.length → p (b.getD i [])) (i : Nat) (hi : i < (a ++ b).length) : p ((a ++ b).getD i []) := by
  rcases Nat.lt_or_ge i a.length with hc | hc
  · have e : (a ++ b).getD i [] = a.getD i [] := by simp only [List.getD_eq_getElem?_getD]; rw [List.getElem?_append_left hc]
    rw [e]; exact ha i hc
  · have e : (a ++ b).getD i [] = b.getD (i - a.length) [] := by simp only [List.getD_eq_getElem?_getD]; rw [List.getElem?_append_right hc]
    rw [e]; exact hb _ (by simp at hi; omega)
theorem LimAll.append {a b : List (List Nat)} (ha : LimAll a) (hb : LimAll b) : LimAll (a ++ b) := getD_app_all ha hb
theorem LenAll.append {K : Nat} {a b : List (List Nat)} (ha : LenAll K a) (hb : LenAll K b) : LenAll K (a ++ b) := getD_app_all (p := fun x => x.length ≤ K) ha hb
theorem sumN_append (a b : List (List Nat)) : sumN (a ++ b) = sumN a + sumN b := by simp [sumN]
theorem prodN_append (a b : List (List Nat)) : prodN (a ++ b) = prodN a * prodN b := by
  induction a with
  | nil => simp
  | cons x l ih => simp [ih, Nat.mul_assoc]
end Go.Proofs.Ythfpcebcfjlkmac
namespace Go.Proofs.Ythfpcebcfjlkmac
open Go.RowKit
/-- The number of binary digits. -/
def bitn (x : Nat) : Nat := if x = 0 then 0 else Nat.log2 x + 1
theorem bitn_zero : bitn 0 = 0 := rfl
theorem bitn_le {x k : Nat} : bitn x ≤ k ↔ x < 2 ^ k := by
  unfold bitn
  split
  · rename_i h; subst h; simp [Nat.pow_pos]
  · rename_i h
    rw [← Nat.log2_lt h]; omega
theorem bitn_lt {x k : Nat} : k < bitn x ↔ 2 ^ k ≤ x := by
  have := bitn_le (x := x) (k := k); omega
theorem bitn_uniq {x k : Nat} (h1 : 2 ^ k ≤ x) (h2 : x < 2 ^ (k + 1)) : bitn x = k + 1 := by
  have := bitn_lt.2 h1; have := bitn_le.2 h2; omega
theorem bitn_half {x : Nat} (h : 0 < x) : bitn (x / 2) + 1 = bitn x := by
  rcases Nat.lt_or_ge x 2 with h2 | h2
  · have : x = 1 := by omega
    subst this; decide
  · have e : 0 < bitn (x / 2) := bitn_lt.2 (by omega)
    obtain ⟨k, hk⟩ : ∃ k, bitn (x / 2) = k + 1 := ⟨bitn (x / 2) - 1, by omega⟩
    have h3 : 2 ^ k ≤ x / 2 := bitn_lt.1 (by omega)
    have h4 : x / 2 < 2 ^ (k + 1) := bitn_le.1 (by omega)
    rw [hk, bitn_uniq (k := k + 1) (by rw [Nat.pow_succ]; omega) (by rw [Nat.pow_succ]; omega)]
theorem bitn_shift {x s : Nat} (h : 0 < x / 2 ^ s) : bitn (x / 2 ^ s) + s = bitn x := by
  induction s generalizing x with
  | zero => simp
  | succ s ih =>
    have e : x / 2 ^ (s + 1) = x / 2 / 2 ^ s := by rw [Nat.pow_succ, Nat.mul_comm, Nat.div_div_eq_div_mul]
    rw [e] at h ⊢
    have h1 := ih h
    have hx : 0 < x := by
      rcases Nat.eq_zero_or_pos x with h0 | h0
      · subst h0; simp at h
      · exact h0
    have h2 := bitn_half hx
    omega
theorem bitn_s32 {x : Nat} (h : 4294967296 ≤ x) : bitn (x / 4294967296) + 32 = bitn x := bitn_shift (s := 32) (by omega)
theorem bitn_16 {x : Nat} (h : 65536 ≤ x) : bitn (x / 65536) + 16 = bitn x := bitn_shift (s := 16) (by omega)
theorem bitn_8 {x : Nat} (h : 256 ≤ x) : bitn (x / 256) + 8 = bitn x := bitn_shift (s := 8) (by omega)
theorem bitn_8lt {x : Nat} (h : x < 256) : bitn x ≤ 8 := bitn_le.2 h
theorem bitn_32 {x : Nat} (h : x < 4294967296) : bitn x ≤ 32 := bitn_le.2 h
theorem pow32 (n : Nat) : 4294967296 ^ n = 2 ^ (32 * n) := by rw [Nat.pow_mul]
theorem Lim.take_lt {l : List Nat} (h : Lim l) (i : Nat) : nv (l.take i) < 4294967296 ^ i := by
  have h1 := nv_lt (h.take i)
  have h2 : 4294967296 ^ (l.take i).length ≤ 4294967296 ^ i := Nat.pow_le_pow_right (by decide) (by simp; omega)
  omega
/-- The digits of a number and those of its last limb. -/
theorem bitn_nv {l : List Nat} (h : Lim l) (hp : 0 < sigL l) : bitn (nv l) = 32 * (sigL l - 1) + bitn (l.getD (sigL l - 1) 0) := by
  have ht := sigL_last hp
  have hlim := h.getD (sigL l - 1)
  generalize hs : sigL l - 1 = s at *
  generalize hT : l.getD s 0 = t at *
  have e : nv l = nv (l.take s) + 4294967296 ^ s * t := by
    rw [← nv_take_sig (l := l) (i := s + 1) (by omega), nv_take_succ, hT]
  have hr := h.take_lt s
  obtain ⟨k, hk⟩ : ∃ k, bitn t = k + 1 := ⟨bitn t - 1, by have : 0 < bitn t := bitn_lt.2 (by omega); omega⟩
  have h3 : 2 ^ k ≤ t := bitn_lt.1 (by omega)
  have h4 : t < 2 ^ (k + 1) := bitn_le.1 (by omega)
  rw [hk, e]
  refine bitn_uniq (k := 32 * s + k) ?_ ?_
  · rw [Nat.pow_add, ← pow32]
    have := Nat.mul_le_mul_left (4294967296 ^ s) h3
    omega
  · rw [show 32 * s + k + 1 = 32 * s + (k + 1) by omega, Nat.pow_add, ← pow32]
    have := Nat.mul_le_mul_left (4294967296 ^ s) (show t + 1 ≤ 2 ^ (k + 1) by omega)
    rw [Nat.mul_add] at this
    omega
theorem bitn_len {l : List Nat} (h : Lim l) : bitn (nv l) ≤ 32 * l.length := bitn_le.2 (by rw [← pow32]; exact nv_lt h)
theorem nv_two {l : List Nat} (h : sigL l ≤ 2) : nv l = l.getD 0 0 + 4294967296 * l.getD 1 0 := by
  rw [← nv_take_sig h, nv_take_succ, nv_take_succ]
  simp
theorem nv_big {l : List Nat} (_h : Lim l) (hs : 2 < sigL l) : 18446744073709551616 ≤ nv l := by
  have ht := sigL_last (l := l) (by omega)
  have e : nv l = nv (l.take (sigL l - 1)) + 4294967296 ^ (sigL l - 1) * l.getD (sigL l - 1) 0 := by
    rw [← nv_take_sig (l := l) (i := sigL l - 1 + 1) (by omega), nv_take_succ]
  have h1 : 4294967296 ^ 2 ≤ 4294967296 ^ (sigL l - 1) := Nat.pow_le_pow_right (by decide) (by omega)
  have h2 : 4294967296 ^ (sigL l - 1) * 1 ≤ 4294967296 ^ (sigL l - 1) * l.getD (sigL l - 1) 0 := Nat.mul_le_mul_left _ (by omega)
  omega
theorem nv_pair (a b : Nat) : nv [a, b] = a + 4294967296 * b := by simp [nv]
theorem digs_pair {n : Nat} (h : n < 18446744073709551616) : trimL [n % 4294967296, n / 4294967296] = digs n := by
  have hL : Lim [n % 4294967296, n / 4294967296] := Lim.cons (by omega) (Lim.one (by omega))
  rw [digs_trim hL, nv_pair, show n % 4294967296 + 4294967296 * (n / 4294967296) = n by omega]
theorem or64 {P : Program} {w : World} {a b : Nat} {x y : Int} (hx : x = (a * 4294967296 : Nat)) (hy : y = b) (ha : a < 4294967296) (hb : b < 4294967296) : (Op.intBits .or .u64 x y).run P w = .ok (.int .u64 ((b + 4294967296 * a : Nat) : Int)) w := by
  subst hx; subst hy
  have h0 : a * 4294967296 ||| b = b + 4294967296 * a := by
    rw [show a * 4294967296 = 2 ^ 32 * a by omega, ← Nat.two_pow_add_eq_or_of_lt (by omega : b < 2 ^ 32) a]; omega
  have e1 : (BitVec.ofInt 64 ((a * 4294967296 : Nat) : Int) ||| BitVec.ofInt 64 (b : Int)).toNat = b + 4294967296 * a := by
    rw [BitVec.ofInt_natCast, BitVec.ofInt_natCast, BitVec.toNat_or, BitVec.toNat_ofNat, BitVec.toNat_ofNat, Nat.mod_eq_of_lt (by omega), Nat.mod_eq_of_lt (by omega), h0]
  have e2 : IntKind.u64.wrap ((b + 4294967296 * a : Nat) : Int) = ((b + 4294967296 * a : Nat) : Int) := wu64 (by omega) (by omega) rfl
  show Result.ok (Value.int .u64 (IntKind.u64.wrap ((BitVec.ofInt 64 ((a * 4294967296 : Nat) : Int) ||| BitVec.ofInt 64 (b : Int)).toNat : Int))) w = _
  rw [e1, e2]
/-- A constant table. -/
theorem WL.indexTab {P : Program} {n : Nat} {N : Post} {L : Fr} {w : World} {ops : Array Oper} {rest : List Oper} {d : Nat} {ty : TypeId} {pos : String} {af : Array Edge} {x y : Operand} {tx : TypeId} {s : ByteArray} {k : IntKind} {X : Int} {i : Nat} (g : Nat → Nat)
    (ht : P.underlying tx = some .string) (hx : ev L x = some (.string s)) (hy : ev L y = some (.int k X)) (hX : X = i) (hi : i < 256) (hs : ∀ i : Fin 256, (s[i.val]?).map UInt8.toNat = some (g i.val)) (hn : Nat.blt d n = true)
    (h : WL P n ops rest N ((d, .int .u8 (g i : Nat)) :: L) w) : WL P n ops (⟨some d, .index tx x y, ty, pos, af, none⟩ :: rest) N L w := by
  subst hX
  have h1 := hs ⟨i, hi⟩
  simp only [Option.map_eq_some_iff] at h1
  obtain ⟨b, hb1, hb2⟩ := h1
  exact WL.val rfl rfl hn (fun a ha => by simp [execOp, Instr.index, asIntOf, ha.ev hx, ha.ev hy, run_underlying ht, hb1, hb2]) h
end Go.Proofs.Ythfpcebcfjlkmac
set_option linter.unusedSimpArgs false
set_option linter.unusedVariables false
namespace Go.Proofs.Ythfpcebcfjlkmac
open Go.RowKit
theorem Len32_c {w : World} (x : Nat) {X : Int} (hX : X = x) (hx : x < 4294967296) :
    Calls Try.prog 77 #[.int .u32 X] w fun e w2 => ∃ v, e = .returned v ∧ (fun v w2 => v = .int .i64 ((bitn x : Nat) : Int) ∧ w.grownBy w2 none) v w2 := by
  have hB := ext_refl w
  refine calls_of_W (vs := [.int .u32 X]) [2] Try.func77 rfl rfl rfl rfl ?_
  refine W.seq ?_
  refine W.region ?_
  refine WL.assign rfl rfl ?_
  refine WL.done ?_
  refine W.seq ?_
  refine W.seq ?_
  refine W.region ?_
  refine WL.move rfl rfl ?_
  refine WL.geq rfl rfl rfl (fun c11 => ?_) (fun c11 => ?_)
  · refine WL.done ?_
    refine W.condT rfl ?_
    refine W.seq ?_
    refine W.region ?_
    refine WL.move rfl rfl ?_
    refine WL.shr (r := ((x / 65536 : Nat) : Int)) rfl rfl (by omega) (shr_nat (a := x) (s := 16) (by omega) (by omega) 32 (by omega)) rfl ?_
    refine WL.assign rfl rfl ?_
    refine WL.done ?_
    refine W.region ?_
    refine WL.assign rfl rfl ?_
    refine WL.done ?_
    refine W.seq ?_
    refine W.seq ?_
    refine W.region ?_
    refine WL.move rfl rfl ?_
    refine WL.geq rfl rfl rfl (fun c12 => ?_) (fun c12 => ?_)
    · refine WL.done ?_
      refine W.condT rfl ?_
      refine W.seq ?_
      refine W.region ?_
      refine WL.move rfl rfl ?_
      refine WL.shr (r := (((x / 65536) / 256 : Nat) : Int)) rfl rfl (by omega) (shr_nat (a := x / 65536) (s := 8) (by omega) (by omega) 32 (by omega)) rfl ?_
      refine WL.assign rfl rfl ?_
      refine WL.done ?_
      refine W.region ?_
      refine WL.move rfl rfl ?_
      refine WL.add (r := ((16 + 8 : Nat) : Int)) rfl rfl (wi64 (by omega) (by omega) (by omega)) rfl ?_
      refine WL.assign rfl rfl ?_
      refine WL.done ?_
      refine W.seq ?_
      refine W.region ?_
      refine WL.move rfl rfl ?_
      refine WL.move rfl rfl ?_
      refine WL.conv (r := (((x / 65536) / 256 : Nat) : Int)) Try.underlying48 Try.underlying5 rfl (wu8 (by omega) (by omega) (by omega)) rfl ?_
      have hb8 := bitn_8lt (x := (x / 65536) / 256) (by omega)
      refine WL.indexTab (i := (x / 65536) / 256) bitn Try.underlying9 rfl rfl (by omega) (by omega) (by decide +kernel) rfl ?_
      refine WL.conv (r := ((bitn ((x / 65536) / 256) : Nat) : Int)) Try.underlying5 Try.underlying3 rfl (wi64 (by omega) (by omega) (by omega)) rfl ?_
      refine WL.add (r := (((16 + 8) + (bitn ((x / 65536) / 256)) : Nat) : Int)) rfl rfl (wi64 (by omega) (by omega) (by omega)) rfl ?_
      refine WL.assign rfl rfl ?_
      refine WL.done ?_
      refine W.ret ?_
      refine ⟨_, rfl, ?_⟩
      exact ⟨by congr 1; first | (have := bitn_8 (x := x / 65536) (by omega); have := bitn_16 (x := x) (by omega); omega) | (have := bitn_16 (x := x) (by omega); omega) | (have := bitn_8 (x := x) (by omega); omega) | omega, hB⟩
    · refine WL.done ?_
      refine W.condF rfl ?_
      refine W.skip ?_
      refine W.seq ?_
      refine W.region ?_
      refine WL.move rfl rfl ?_
      refine WL.move rfl rfl ?_
      refine WL.conv (r := ((x / 65536 : Nat) : Int)) Try.underlying48 Try.underlying5 rfl (wu8 (by omega) (by omega) (by omega)) rfl ?_
      have hb8 := bitn_8lt (x := x / 65536) (by omega)
      refine WL.indexTab (i := x / 65536) bitn Try.underlying9 rfl rfl (by omega) (by omega) (by decide +kernel) rfl ?_
      refine WL.conv (r := ((bitn (x / 65536) : Nat) : Int)) Try.underlying5 Try.underlying3 rfl (wi64 (by omega) (by omega) (by omega)) rfl ?_
      refine WL.add (r := ((16 + (bitn (x / 65536)) : Nat) : Int)) rfl rfl (wi64 (by omega) (by omega) (by omega)) rfl ?_
      refine WL.assign rfl rfl ?_
      refine WL.done ?_
      refine W.ret ?_
      refine ⟨_, rfl, ?_⟩
      exact ⟨by congr 1; first | (have := bitn_8 (x := x / 65536) (by omega); have := bitn_16 (x := x) (by omega); omega) | (have := bitn_16 (x := x) (by omega); omega) | (have := bitn_8 (x := x) (by omega); omega) | omega, hB⟩
  · refine WL.done ?_
    refine W.condF rfl ?_
    refine W.skip ?_
    refine W.seq ?_
    refine W.seq ?_
    refine W.region ?_
    refine WL.move rfl rfl ?_
    refine WL.geq rfl rfl rfl (fun c13 => ?_) (fun c13 => ?_)
    · refine WL.done ?_
      refine W.condT rfl ?_
      refine W.seq ?_
      refine W.region ?_
      refine WL.move rfl rfl ?_
      refine WL.shr (r := ((x / 256 : Nat) : Int)) rfl rfl (by omega) (shr_nat (a := x) (s := 8) (by omega) (by omega) 32 (by omega)) rfl ?_
      refine WL.assign rfl rfl ?_
      refine WL.done ?_
      refine W.region ?_
      refine WL.move rfl rfl ?_
      refine WL.add (r := ((0 + 8 : Nat) : Int)) rfl rfl (wi64 (by omega) (by omega) (by omega)) rfl ?_
      refine WL.assign rfl rfl ?_
      refine WL.done ?_
      refine W.seq ?_
      refine W.region ?_
      refine WL.move rfl rfl ?_
      refine WL.move rfl rfl ?_
      refine WL.conv (r := ((x / 256 : Nat) : Int)) Try.underlying48 Try.underlying5 rfl (wu8 (by omega) (by omega) (by omega)) rfl ?_
      have hb8 := bitn_8lt (x := x / 256) (by omega)
      refine WL.indexTab (i := x / 256) bitn Try.underlying9 rfl rfl (by omega) (by omega) (by decide +kernel) rfl ?_
      refine WL.conv (r := ((bitn (x / 256) : Nat) : Int)) Try.underlying5 Try.underlying3 rfl (wi64 (by omega) (by omega) (by omega)) rfl ?_
      refine WL.add (r := (((0 + 8) + (bitn (x / 256)) : Nat) : Int)) rfl rfl (wi64 (by omega) (by omega) (by omega)) rfl ?_
      refine WL.assign rfl rfl ?_
      refine WL.done ?_
      refine W.ret ?_
      refine ⟨_, rfl, ?_⟩
      exact ⟨by congr 1; first | (have := bitn_8 (x := x / 65536) (by omega); have := bitn_16 (x := x) (by omega); omega) | (have := bitn_16 (x := x) (by omega); omega) | (have := bitn_8 (x := x) (by omega); omega) | omega, hB⟩
    · refine WL.done ?_
      refine W.condF rfl ?_
      refine W.skip ?_
      refine W.seq ?_
      refine W.region ?_
      refine WL.move rfl rfl ?_
      refine WL.move rfl rfl ?_
      refine WL.conv (r := X) Try.underlying48 Try.underlying5 rfl (wu8 (by omega) (by omega) (by omega)) rfl ?_
      have hb8 := bitn_8lt (x := x) (by omega)
      refine WL.indexTab (i := x) bitn Try.underlying9 rfl rfl (by omega) (by omega) (by decide +kernel) rfl ?_
      refine WL.conv (r := ((bitn (x) : Nat) : Int)) Try.underlying5 Try.underlying3 rfl (wi64 (by omega) (by omega) (by omega)) rfl ?_
      refine WL.add (r := ((0 + (bitn (x)) : Nat) : Int)) rfl rfl (wi64 (by omega) (by omega) (by omega)) rfl ?_
      refine WL.assign rfl rfl ?_
      refine WL.done ?_
      refine W.ret ?_
      refine ⟨_, rfl, ?_⟩
      exact ⟨by congr 1; first | (have := bitn_8 (x := x / 65536) (by omega); have := bitn_16 (x := x) (by omega); omega) | (have := bitn_16 (x := x) (by omega); omega) | (have := bitn_8 (x := x) (by omega); omega) | omega, hB⟩

theorem word_c {w : World} {Ba : Nat} {Aa : Option Addr} {ma ca : Nat} {xa : List Nat} (ha : Rd Ba w 1 Aa ma ca (us xa)) (hLa : Lim xa) :
    Calls Try.prog 69 #[.slice Aa ma ca] w fun e w2 => ∃ v, e = .returned v ∧ (fun v w2 => v = .int .u64 ((xa.getD 0 0 + 4294967296 * xa.getD 1 0 : Nat) : Int) ∧ w.grownBy w2 none) v w2 := by
  have ha := ha.norm
  have ha_l := ha.ulen
  have ha_x := ha.max
  simp only [maxLen] at ha_x
  have ha_c := ha.cap
  have ha0 := ha
  have hx0 := hLa.getD 0
  have hx1 := hLa.getD 1
  have hB := ext_refl w
  refine calls_of_W (vs := [.slice Aa ma ca]) [2] Try.func69 rfl rfl rfl rfl ?_
  refine W.seq ?_
  refine W.region ?_
  refine WL.assign rfl rfl ?_
  refine WL.done ?_
  refine W.seq ?_
  refine W.region ?_
  refine WL.move rfl rfl ?_
  refine WL.call Try.func79 rfl Try.nm79 rfl rfl (limbAt_c ha (1) (by omega)) ?_
  rintro _ w11 ⟨rfl, hGw11⟩
  have hB := ext_trans hB hGw11
  have ha := ha0.ext hB
  refine WL.conv (r := ((xa.getD 1 0 : Nat) : Int)) Try.underlying48 Try.underlying61 rfl (wu64 (by omega) (by omega) (by omega)) rfl ?_
  refine WL.shl (r := ((xa.getD 1 0 * 4294967296 : Nat) : Int)) rfl rfl (by omega) (by rw [show IntKind.u64.bits = 64 from rfl, shl_nat (a := xa.getD 1 0) (s := 32) (by omega) (by omega) 64 (by omega)]; exact wu64 (by omega) (by omega) (by omega)) rfl ?_
  refine WL.move rfl rfl ?_
  refine WL.call Try.func79 rfl Try.nm79 rfl rfl (limbAt_c ha (0) (by omega)) ?_
  rintro _ w12 ⟨rfl, hGw12⟩
  have hB := ext_trans hB hGw12
  refine WL.conv (r := ((xa.getD 0 0 : Nat) : Int)) Try.underlying48 Try.underlying61 rfl (wu64 (by omega) (by omega) (by omega)) rfl ?_
  refine WL.bits (r := ((xa.getD 0 0 + 4294967296 * xa.getD 1 0 : Nat) : Int)) rfl rfl (.inr (.inl rfl)) (or64 rfl rfl hx1 hx0) rfl ?_
  refine WL.assign rfl rfl ?_
  refine WL.done ?_
  refine W.ret ?_
  refine ⟨_, rfl, ?_⟩
  exact ⟨rfl, hB⟩

theorem Of_c {w : World} (n : Nat) {X : Int} (hX : X = n) (hn : n < 18446744073709551616) :
    Calls Try.prog 49 #[.int .u64 X] w fun e w2 => ∃ v, e = .returned v ∧ (fun v w2 => ∃ A2 m2 c2, v = .slice A2 m2 c2 ∧ w.grownBy w2 none ∧ Own w.heap.size w2 48 1 A2 m2 c2 (us (digs n)) ∧ 0 ≤ m2) v w2 := by
  have hB := ext_refl w
  refine calls_of_W (vs := [.int .u64 X]) [2] Try.func49 rfl rfl rfl rfl ?_
  refine W.seq ?_
  refine W.region ?_
  refine WL.assign rfl rfl ?_
  refine WL.done ?_
  refine W.seq ?_
  refine W.region ?_
  refine WL.move rfl rfl ?_
  refine WL.conv (r := ((n % 4294967296 : Nat) : Int)) Try.underlying61 Try.underlying48 rfl (wu32m (by omega)) rfl ?_
  refine WL.move rfl rfl ?_
  refine WL.shr (r := ((n / 4294967296 : Nat) : Int)) rfl rfl (by omega) (shr_nat (a := n) (s := 32) (by omega) (by omega) 64 (by omega)) rfl ?_
  refine WL.conv (r := ((n / 4294967296 : Nat) : Int)) Try.underlying61 Try.underlying48 rfl (wu32m (by omega)) rfl ?_
  refine WL.lit1 (b := w.heap.size) Try.underlying23 Try.el48 rfl rfl rfl rfl (by intro v hv; simp only [List.mem_cons, List.not_mem_nil, or_false] at hv; rcases hv with rfl | rfl <;> rfl) (Nat.le_refl _) rfl ?_
  rintro A11 w12 - hO13 hGw12
  have hO13 := hO13.low (b' := w.heap.size) hB.size
  have hB := ext_trans hB hGw12
  change Own _ _ _ _ _ _ _ (us [n % 4294967296, n / 4294967296]) at hO13
  refine WL.call Try.func47 rfl Try.nm47 rfl rfl (Trim_c hO13.rd (by omega)) ?_
  rintro _ w14 ⟨A15, m16, cp17, rfl, hGw14, hO, hm18⟩
  have hO := hO.low (b' := w.heap.size) hB.size
  have hB := ext_trans hB hGw14
  have hO_l := hO.rd.ulen
  refine WL.assign rfl rfl ?_
  refine WL.done ?_
  refine W.ret ?_
  refine ⟨_, rfl, ?_⟩
  rw [digs_pair hn] at hO
  exact ⟨_, _, _, rfl, hB, hO, Nat.zero_le _⟩

theorem rOf_c {w : World} (n : Nat) {X : Int} (hX : X = n) (hn : n < 18446744073709551616) :
    Calls Try.prog 80 #[.int .u64 X] w fun e w2 => ∃ v, e = .returned v ∧ (fun v w2 => ∃ A2 m2 c2, v = .slice A2 m2 c2 ∧ w.grownBy w2 none ∧ Own w.heap.size w2 48 1 A2 m2 c2 (us (digs n)) ∧ 0 ≤ m2) v w2 := by
  have hB := ext_refl w
  refine calls_of_W (vs := [.int .u64 X]) [2] Try.func80 rfl rfl rfl rfl ?_
  refine W.seq ?_
  refine W.region ?_
  refine WL.assign rfl rfl ?_
  refine WL.done ?_
  refine W.seq ?_
  refine W.region ?_
  refine WL.move rfl rfl ?_
  refine WL.rem (r := ((n % 4294967296 : Nat) : Int)) rfl rfl (by omega) (tmod_nat (by omega) (by omega)) rfl ?_
  refine WL.conv (r := ((n % 4294967296 : Nat) : Int)) Try.underlying61 Try.underlying48 rfl (wu32m (by omega)) rfl ?_
  refine WL.move rfl rfl ?_
  refine WL.quo (r := ((n / 4294967296 : Nat) : Int)) rfl rfl (by omega) (qu64 (by omega) (by omega) (by omega)) rfl ?_
  refine WL.conv (r := ((n / 4294967296 : Nat) : Int)) Try.underlying61 Try.underlying48 rfl (wu32m (by omega)) rfl ?_
  refine WL.lit1 (b := w.heap.size) Try.underlying23 Try.el48 rfl rfl rfl rfl (by intro v hv; simp only [List.mem_cons, List.not_mem_nil, or_false] at hv; rcases hv with rfl | rfl <;> rfl) (Nat.le_refl _) rfl ?_
  rintro A11 w12 - hO13 hGw12
  have hO13 := hO13.low (b' := w.heap.size) hB.size
  have hB := ext_trans hB hGw12
  change Own _ _ _ _ _ _ _ (us [n % 4294967296, n / 4294967296]) at hO13
  refine WL.call Try.func54 rfl Try.nm54 rfl rfl (rTrim_c hO13.rd (by omega)) ?_
  rintro _ w14 ⟨A15, m16, cp17, rfl, hGw14, hO, hm18⟩
  have hO := hO.low (b' := w.heap.size) hB.size
  have hB := ext_trans hB hGw14
  have hO_l := hO.rd.ulen
  refine WL.assign rfl rfl ?_
  refine WL.done ?_
  refine W.ret ?_
  refine ⟨_, rfl, ?_⟩
  rw [digs_pair hn] at hO
  exact ⟨_, _, _, rfl, hB, hO, Nat.zero_le _⟩

theorem Bits_c {w : World} {Ba : Nat} {Aa : Option Addr} {ma ca : Nat} {xa : List Nat} (ha : Rd Ba w 1 Aa ma ca (us xa)) (hLa : Lim xa) (hs : ma ≤ 1099511627776) :
    Calls Try.prog 51 #[.slice Aa ma ca] w fun e w2 => ∃ v, e = .returned v ∧ (fun v w2 => v = .int .i64 ((bitn (nv xa) : Nat) : Int) ∧ w.grownBy w2 none) v w2 := by
  have ha := ha.norm
  have ha_l := ha.ulen
  have ha_x := ha.max
  simp only [maxLen] at ha_x
  have ha_c := ha.cap
  have ha0 := ha
  have hsa2 := sigL_le xa
  have htl : (trimL xa).length = sigL xa := rfl
  have hbx := bitn_len hLa
  have hB := ext_refl w
  refine calls_of_W (vs := [.slice Aa ma ca]) [2] Try.func51 rfl rfl rfl rfl ?_
  refine W.seq ?_
  refine W.region ?_
  refine WL.assign rfl rfl ?_
  refine WL.done ?_
  refine W.seq ?_
  refine W.region ?_
  refine WL.move rfl rfl ?_
  refine WL.call Try.func46 rfl Try.nm46 rfl rfl (sig_c ha) ?_
  rintro _ w11 ⟨rfl, hGw11⟩
  have hB := ext_trans hB hGw11
  have ha := ha0.ext hB
  refine WL.assign rfl rfl ?_
  refine WL.done ?_
  refine W.seq ?_
  refine W.seq ?_
  refine W.region ?_
  refine WL.move rfl rfl ?_
  refine WL.len Try.underlying23 rfl rfl ?_
  refine WL.eql rfl rfl rfl (fun c12 => ?_) (fun c12 => ?_)
  · refine WL.done ?_
    refine W.condT rfl ?_
    refine W.seq ?_
    refine W.region ?_
    refine WL.assign rfl rfl ?_
    refine WL.done ?_
    refine W.ret ?_
    refine ⟨_, rfl, ?_⟩
    have h0 : bitn (nv xa) = 0 := by rw [← nv_take_sig (l := xa) (i := 0) (by omega)]; rfl
    exact ⟨by rw [h0]; rfl, hB⟩
  · refine WL.done ?_
    refine W.condF rfl ?_
    refine W.skip ?_
    refine W.seq ?_
    refine W.region ?_
    refine WL.move rfl rfl ?_
    refine WL.len Try.underlying23 rfl rfl ?_
    refine WL.sub (r := (((sigL xa) - 1 : Nat) : Int)) rfl rfl (wi64 (by omega) (by omega) (by omega)) rfl ?_
    refine WL.assign rfl rfl ?_
    refine WL.done ?_
    refine W.seq ?_
    refine W.region ?_
    refine WL.move rfl rfl ?_
    refine WL.mul (r := ((((sigL xa) - 1) * 32 : Nat) : Int)) rfl rfl (wi64 (by omega) (by omega) (by omega)) rfl ?_
    refine WL.move rfl rfl ?_
    refine WL.move rfl rfl ?_
    refine WL.index1 ((sigL xa) - 1) Try.underlying23 Try.el48 rfl rfl (by omega) (by omega) (Rd.sig ha) rfl ?_
    refine WL.load Try.underlying48 rfl rfl (Rd.at_ (Rd.sig ha) (us_at (by omega))) rfl ?_
    have htl : (trimL xa).length = sigL xa := rfl
    have hxt := hLa.trim.getD (sigL xa - 1)
    have hb32 := bitn_32 hxt
    refine WL.call Try.func77 rfl Try.nm77 rfl rfl (Len32_c ((trimL xa).getD ((sigL xa) - 1) 0) (by omega) (by omega)) ?_
    rintro _ w13 ⟨rfl, hGw13⟩
    have hB := ext_trans hB hGw13
    refine WL.add (r := (((((sigL xa) - 1) * 32) + (bitn ((trimL xa).getD ((sigL xa) - 1) 0)) : Nat) : Int)) rfl rfl (wi64 (by omega) (by omega) (by omega)) rfl ?_
    refine WL.assign rfl rfl ?_
    refine WL.done ?_
    refine W.ret ?_
    refine ⟨_, rfl, ?_⟩
    have hbn := bitn_nv hLa (by omega)
    rw [trimL_getD0]
    rw [trimL_getD0] at hb32
    exact ⟨by congr 1; omega, hB⟩

theorem rBits_c {w : World} {Ba : Nat} {Aa : Option Addr} {ma ca : Nat} {xa : List Nat} (ha : Rd Ba w 1 Aa ma ca (us xa)) (hLa : Lim xa) (hs : ma ≤ 1099511627776) :
    Calls Try.prog 55 #[.slice Aa ma ca] w fun e w2 => ∃ v, e = .returned v ∧ (fun v w2 => v = .int .i64 ((bitn (nv xa) : Nat) : Int) ∧ w.grownBy w2 none) v w2 := by
  have ha := ha.norm
  have ha_l := ha.ulen
  have ha_x := ha.max
  simp only [maxLen] at ha_x
  have ha_c := ha.cap
  have ha0 := ha
  have hsa2 := sigL_le xa
  have htl : (trimL xa).length = sigL xa := rfl
  have hbx := bitn_len hLa
  have hB := ext_refl w
  refine calls_of_W (vs := [.slice Aa ma ca]) [2] Try.func55 rfl rfl rfl rfl ?_
  refine W.seq ?_
  refine W.region ?_
  refine WL.assign rfl rfl ?_
  refine WL.done ?_
  refine W.seq ?_
  refine W.region ?_
  refine WL.move rfl rfl ?_
  refine WL.call Try.func54 rfl Try.nm54 rfl rfl (rTrim_c ha (by omega)) ?_
  rintro _ w11 ⟨A12, m13, cp14, rfl, hGw11, hO, hm15⟩
  have hO := hO.low (b' := w.heap.size) hB.size
  have hB := ext_trans hB hGw11
  have hO_l := hO.rd.ulen
  have hO_L : (trimL xa).length = sigL xa := rfl
  refine WL.assign rfl rfl ?_
  refine WL.done ?_
  refine W.seq ?_
  refine W.seq ?_
  refine W.region ?_
  refine WL.move rfl rfl ?_
  refine WL.len Try.underlying23 rfl rfl ?_
  refine WL.eql rfl rfl rfl (fun c16 => ?_) (fun c16 => ?_)
  · refine WL.done ?_
    refine W.condT rfl ?_
    refine W.seq ?_
    refine W.region ?_
    refine WL.assign rfl rfl ?_
    refine WL.done ?_
    refine W.ret ?_
    refine ⟨_, rfl, ?_⟩
    have h0 : bitn (nv xa) = 0 := by rw [← nv_take_sig (l := xa) (i := 0) (by omega)]; rfl
    exact ⟨by rw [h0]; rfl, hB⟩
  · refine WL.done ?_
    refine W.condF rfl ?_
    refine W.skip ?_
    refine W.seq ?_
    refine W.region ?_
    refine WL.move rfl rfl ?_
    refine WL.len Try.underlying23 rfl rfl ?_
    refine WL.sub (r := ((m13 - 1 : Nat) : Int)) rfl rfl (wi64 (by omega) (by omega) (by omega)) rfl ?_
    refine WL.mul (r := ((32 * (m13 - 1) : Nat) : Int)) rfl rfl (wi64 (by omega) (by omega) (by omega)) rfl ?_
    refine WL.assign rfl rfl ?_
    refine WL.done ?_
    refine W.seq ?_
    refine W.seq ?_
    refine W.region ?_
    refine WL.move rfl rfl ?_
    refine WL.move rfl rfl ?_
    refine WL.len Try.underlying23 rfl rfl ?_
    refine WL.sub (r := ((m13 - 1 : Nat) : Int)) rfl rfl (wi64 (by omega) (by omega) (by omega)) rfl ?_
    refine WL.index1 (m13 - 1) Try.underlying23 Try.el48 rfl rfl (by omega) (by omega) hO.rd rfl ?_
    have hsl := hO_L
    have hxt := hLa.trim.getD (sigL xa - 1)
    refine WL.load Try.underlying48 rfl rfl (Rd.at_ hO.rd (us_at (by omega))) rfl ?_
    refine WL.assign rfl rfl ?_
    refine WL.done ?_
    refine W.block ?_
    refine W.loop (σ := Nat × Nat) (fun s w1 => match s with | (n, t) => w.grownBy w1 none ∧ n + bitn t = bitn (nv xa) ∧ t < 4294967296) (fun s => match s with | (n, t) => [(3, .int .i64 ((n : Nat) : Int)), (4, .int .u32 ((t : Nat) : Int))]) (fun s => match s with | (n, t) => t) (32 * (m13 - 1), (trimL xa).getD (m13 - 1) 0) ?_ ?_ ?_
    · exact ⟨hB, by rw [show m13 = sigL xa by omega, trimL_getD0]; exact (bitn_nv hLa (by omega)).symm, hLa.trim.getD _⟩
    · exact ⟨iv (by omega), iv (by omega), trivial⟩
    · rintro ⟨n, t⟩ w17 ⟨hB, hn, ht⟩
      have hb32 := bitn_32 ht
      have hbt : bitn (nv xa) ≤ 35184372088864 := by omega
      refine W.seq ?_
      refine W.seq ?_
      refine W.region ?_
      refine WL.move rfl rfl ?_
      refine WL.gtr rfl rfl rfl (fun c18 => ?_) (fun c18 => ?_)
      · refine WL.done ?_
        refine W.condT rfl ?_
        refine W.skip ?_
        refine W.seq ?_
        refine W.block ?_
        refine W.region ?_
        refine WL.move rfl rfl ?_
        refine WL.add (r := ((n + 1 : Nat) : Int)) rfl rfl (wi64 (by omega) (by omega) (by omega)) rfl ?_
        refine WL.assign rfl rfl ?_
        refine WL.done ?_
        refine W.region ?_
        refine WL.move rfl rfl ?_
        refine WL.quo (r := ((t / 2 : Nat) : Int)) rfl rfl (by omega) (qu32 (by omega) (by omega) (by omega)) rfl ?_
        refine WL.assign rfl rfl ?_
        refine WL.done ?_
        refine ⟨(n + 1, t / 2), ⟨iv (by omega), iv (by omega), trivial⟩, by (dsimp only; omega), ?_⟩
        exact ⟨hB, by have := bitn_half (x := t) (by omega); omega, by omega⟩
      · refine WL.done ?_
        refine W.condF rfl ?_
        refine W.exit ?_
        refine W.seq ?_
        refine W.region ?_
        refine WL.move rfl rfl ?_
        refine WL.assign rfl rfl ?_
        refine WL.done ?_
        refine W.ret ?_
        refine ⟨_, rfl, ?_⟩
        have ht0 : t = 0 := by omega
        subst ht0
        rw [bitn_zero] at hn
        exact ⟨by congr 1; omega, hB⟩
end Go.Proofs.Ythfpcebcfjlkmac
namespace Go.Proofs.Ythfpcebcfjlkmac
open Go.RowKit
/-- The greatest number of limbs, and twice that. -/
def c4 : Nat := 4096
def c8 : Nat := 8192
theorem c4_eq : c4 = 4096 := rfl
theorem c8_eq : c8 = 8192 := rfl
theorem c48 : c8 = c4 + c4 := rfl
/-- The least number with more than 4096 limbs. -/
def bigN : Nat := 4294967296 ^ c4
theorem bigN_eq : bigN = 4294967296 ^ c4 := by unfold bigN; rfl
theorem bigN_two : bigN = 2 ^ (32 * c4) := by rw [bigN_eq, pow32]
theorem bigN_gt : 4294967296 ≤ bigN := by
  rw [bigN_eq]
  have : 4294967296 ^ 1 ≤ 4294967296 ^ c4 := Nat.pow_le_pow_right (by decide) (by rw [c4_eq]; decide)
  rwa [Nat.pow_one] at this
theorem digs_len_iff {n k : Nat} : (digs n).length ≤ k ↔ n < 4294967296 ^ k := by
  constructor
  · intro h
    have h1 := nv_lt (digs_lim n)
    rw [nv_digs] at h1
    exact Nat.lt_of_lt_of_le h1 (Nat.pow_le_pow_right (by decide) h)
  · exact digs_len
theorem digs_big {n : Nat} : (digs n).length ≤ 4096 ↔ n < bigN := by rw [← c4_eq, bigN_eq]; exact digs_len_iff
theorem pow_big {a n : Nat} (hb : 2 ≤ bitn a) (h : 131071 / (bitn a - 1) < n) : bigN ≤ a ^ n := by
  have h1 : 2 ^ (bitn a - 1) ≤ a := bitn_lt.1 (by omega)
  have h2 := (Nat.div_lt_iff_lt_mul (by omega : 0 < bitn a - 1)).1 h
  have h3 : (2 ^ (bitn a - 1)) ^ n ≤ a ^ n := Nat.pow_le_pow_left h1 n
  rw [← Nat.pow_mul] at h3
  rw [bigN_two]
  exact Nat.le_trans (Nat.pow_le_pow_right (by decide) (by rw [Nat.mul_comm] at h2; rw [c4_eq]; omega)) h3
theorem pow_small {a n : Nat} (hb : 2 ≤ bitn a) (h : n ≤ 131071 / (bitn a - 1)) : a ^ n < 4294967296 ^ c8 := by
  have h1 : a < 2 ^ bitn a := bitn_le.1 (Nat.le_refl _)
  have h2 := (Nat.le_div_iff_mul_le (by omega : 0 < bitn a - 1)).1 h
  have h3 : a ^ n ≤ (2 ^ bitn a) ^ n := Nat.pow_le_pow_left (by omega) n
  rw [← Nat.pow_mul] at h3
  have h4 : n * bitn a ≤ n * (2 * (bitn a - 1)) := Nat.mul_le_mul_left n (by omega)
  have h5 : n * (2 * (bitn a - 1)) = 2 * (n * (bitn a - 1)) := by rw [Nat.mul_left_comm]
  rw [Nat.mul_comm] at h3
  rw [pow32]
  exact Nat.lt_of_le_of_lt h3 (Nat.pow_lt_pow_right (by decide) (by rw [c8_eq]; omega))
theorem pow_big2 {a n : Nat} (ha : 2 ≤ a) (h : 131072 ≤ n) : bigN ≤ a ^ n := by
  rw [bigN_two]
  have e : 32 * c4 ≤ n := by rw [c4_eq]; omega
  exact Nat.le_trans (Nat.pow_le_pow_right (by decide) e) (Nat.pow_le_pow_left ha n)
theorem pow_len {a k n c : Nat} (ha : 0 < a) (hk : k ≤ n) (h : a ^ n < 4294967296 ^ c) : (digs (a ^ k)).length ≤ c :=
  digs_len (Nat.lt_of_le_of_lt (Nat.pow_le_pow_right ha hk) h)
theorem sq_len {a q : Nat} (h : (digs (a ^ q)).length ≤ 4096) : (digs (a ^ (q + q))).length ≤ 8192 := by
  rw [← c4_eq, digs_len_iff] at h
  rw [← c8_eq, digs_len_iff, Nat.pow_add, c48, Nat.pow_add]
  exact Nat.mul_lt_mul'' h h
theorem half_pow {n j : Nat} (hj : 0 < j) : n / 2 ^ (j - 1) / 2 = n / 2 ^ j := by
  rw [Nat.div_div_eq_div_mul, ← Nat.pow_succ, show (j - 1).succ = j by omega]
theorem top_one {n : Nat} (h : 0 < n) : n / 2 ^ (bitn n - 1) = 1 := by
  have hp : 0 < bitn n := bitn_lt.2 (by omega)
  have h1 : 2 ^ (bitn n - 1) ≤ n := bitn_lt.1 (by omega)
  have h2 : n < 2 ^ (bitn n - 1 + 1) := bitn_le.1 (by omega)
  rw [Nat.pow_succ] at h2
  rw [Nat.div_eq_iff (Nat.pow_pos (by decide))]
  omega
theorem pw_half {k : Nat} (h : 0 < k) : 2 ^ k / 2 = 2 ^ (k - 1) := by
  obtain ⟨j, rfl⟩ : ∃ j, k = j + 1 := ⟨k - 1, by omega⟩
  rw [Nat.pow_succ]; simp
theorem pw_zero {k : Nat} (h : 0 < 2 ^ k / 2) : 0 < k := by
  rcases Nat.eq_zero_or_pos k with h0 | h0
  · subst h0; simp at h
  · exact h0
theorem pw_none {k : Nat} (h : 2 ^ k / 2 = 0) : k = 0 := by
  rcases Nat.eq_zero_or_pos k with h0 | h0
  · exact h0
  · rw [pw_half h0] at h
    have := Nat.pow_pos (n := k - 1) (show 0 < 2 by decide)
    omega
theorem and1_i64 {P : Program} {w : World} {a : Nat} {x : Int} (hx : x = a) (ha : a < 9223372036854775808) : (Op.intBits .and .i64 x 1).run P w = .ok (.int .i64 ((a % 2 : Nat) : Int)) w := by
  subst hx
  have e1 : (BitVec.ofInt 64 (a : Int) &&& BitVec.ofInt 64 (1 : Int)).toNat = a % 2 := by
    rw [show (1 : Int) = ((1 : Nat) : Int) from rfl, BitVec.ofInt_natCast, BitVec.ofInt_natCast, BitVec.toNat_and, BitVec.toNat_ofNat, BitVec.toNat_ofNat, Nat.mod_eq_of_lt (by omega), Nat.mod_eq_of_lt (by omega), Nat.and_one_is_mod]
  have e2 : IntKind.i64.wrap ((a % 2 : Nat) : Int) = ((a % 2 : Nat) : Int) := wi64 (by omega) (by omega) rfl
  show Result.ok (Value.int .i64 (IntKind.i64.wrap ((BitVec.ofInt 64 (a : Int) &&& BitVec.ofInt 64 (1 : Int)).toNat : Int))) w = _
  rw [e1, e2]
theorem bitn_one {a : Nat} (h : bitn a ≤ 1) : a ≤ 1 := by have := bitn_le.1 h; omega
theorem pow_le_one {a n : Nat} (h : a ≤ 1) (hn : 0 < n) : a ^ n = a := by
  rcases (by omega : a = 0 ∨ a = 1) with rfl | rfl
  · exact Nat.zero_pow hn
  · simp
theorem exp_ok {v k : Nat} (h : v < 4294967296 ^ 8) (hk : k ≤ 510) : v ^ k < bigN := by
  have h1 : v ^ k ≤ (4294967296 ^ 8) ^ k := Nat.pow_le_pow_left (by omega) k
  rw [← Nat.pow_mul] at h1
  rw [bigN_eq]
  exact Nat.lt_of_le_of_lt h1 (Nat.pow_lt_pow_right (by decide) (by rw [c4_eq]; omega))
theorem nv_lt8 {l : List Nat} (h : Lim l) (hl : l.length ≤ 8) : nv l < 4294967296 ^ 8 := Nat.lt_of_lt_of_le (nv_lt h) (Nat.pow_le_pow_right (by decide) hl)
theorem prod_lt8 {a b : List Nat} (ha : Lim a) (hb : Lim b) (hl : a.length + b.length ≤ 8) : prodN [a, b] < 4294967296 ^ 8 := by
  have h := Nat.mul_lt_mul'' (nv_lt ha) (nv_lt hb)
  rw [← Nat.pow_add] at h
  simp only [prodN_cons, prodN_nil, Nat.mul_one]
  exact Nat.lt_of_lt_of_le h (Nat.pow_le_pow_right (by decide) hl)
end Go.Proofs.Ythfpcebcfjlkmac
set_option linter.unusedSimpArgs false
set_option linter.unusedVariables false
namespace Go.Proofs.Ythfpcebcfjlkmac
open Go.RowKit
end Go.Proofs.Ythfpcebcfjlkmac
namespace Go.Proofs.Ythfpcebcfjlkmac
open Go.RowKit
/-- Binomial coefficients. -/
def choose : Nat → Nat → Nat
  | _, 0 => 1
  | 0, _ + 1 => 0
  | n + 1, k + 1 => choose n k + choose n (k + 1)
theorem choose_zero (n : Nat) : choose n 0 = 1 := by cases n <;> rfl
theorem choose_succ (n k : Nat) : choose (n + 1) (k + 1) = choose n k + choose n (k + 1) := rfl
theorem choose_big : ∀ {n k : Nat}, n < k → choose n k = 0
  | 0, k + 1, _ => rfl
  | n + 1, k + 1, h => by rw [choose_succ, choose_big (by omega : n < k), choose_big (by omega : n < k + 1)]
theorem choose_self : ∀ n : Nat, choose n n = 1
  | 0 => rfl
  | n + 1 => by rw [choose_succ, choose_self n, choose_big (by omega)]
theorem choose_absorb : ∀ n k : Nat, (n + 1) * choose n k = choose (n + 1) (k + 1) * (k + 1)
  | 0, 0 => rfl
  | 0, k + 1 => by rw [choose_big (by omega : 0 < k + 1), choose_big (by omega : 0 + 1 < k + 1 + 1)]; simp
  | n + 1, 0 => by
    have h := choose_absorb n 0
    rw [choose_zero] at h ⊢
    rw [choose_succ (n + 1) 0, choose_zero]
    omega
  | n + 1, k + 1 => by
    have h1 := choose_absorb n k
    have h2 := choose_absorb n (k + 1)
    rw [choose_succ (n + 1) (k + 1), Nat.add_mul (choose (n + 1) (k + 1)), ← h2]
    rw [show choose (n + 1) (k + 1) * (k + 1 + 1) = choose (n + 1) (k + 1) * (k + 1) + choose (n + 1) (k + 1) by rw [Nat.mul_add, Nat.mul_one], ← h1]
    rw [show (n + 1 + 1) * choose (n + 1) (k + 1) = (n + 1) * choose (n + 1) (k + 1) + choose (n + 1) (k + 1) by rw [Nat.add_mul (n + 1) 1, Nat.one_mul]]
    rw [choose_succ n k, Nat.mul_add]
    omega
theorem choose_next {n k : Nat} (h : k ≤ n) : choose n k * (n - k) = choose n (k + 1) * (k + 1) := by
  have h1 := choose_absorb n k
  rw [choose_succ, Nat.add_mul (choose n k)] at h1
  obtain ⟨d, rfl⟩ : ∃ d, n = k + d := ⟨n - k, by omega⟩
  rw [show k + d - k = d by omega]
  have e : (k + d + 1) * choose (k + d) k = choose (k + d) k * (k + 1) + choose (k + d) k * d := by rw [Nat.mul_comm, show k + d + 1 = (k + 1) + d by omega, Nat.mul_add]
  omega
theorem choose_symm_add : ∀ a b : Nat, choose (a + b) a = choose (a + b) b
  | 0, b => by rw [Nat.zero_add, choose_zero, choose_self]
  | a + 1, 0 => by rw [Nat.add_zero, choose_zero, choose_self]
  | a + 1, b + 1 => by
    have h1 := choose_symm_add a (b + 1)
    have h2 := choose_symm_add (a + 1) b
    rw [show a + 1 + (b + 1) = (a + (b + 1)) + 1 by omega, choose_succ, choose_succ, h1]
    rw [show a + 1 + b = a + (b + 1) by omega] at h2
    rw [h2]; omega
theorem choose_symm {n k : Nat} (h : k ≤ n) : choose n (n - k) = choose n k := by
  have := choose_symm_add (n - k) k
  rw [show n - k + k = n by omega] at this
  exact this
theorem choose_pow : ∀ n k : Nat, choose n k ≤ 2 ^ n
  | _, 0 => by rw [choose_zero]; exact Nat.pow_pos (by decide)
  | 0, k + 1 => by rw [choose_big (by omega)]; exact Nat.zero_le _
  | n + 1, k + 1 => by rw [choose_succ, Nat.pow_succ]; have := choose_pow n k; have := choose_pow n (k + 1); omega
def c129 : Nat := 129
theorem choose_len {n k : Nat} (h : n ≤ 4097) : (digs (choose n k)).length ≤ 129 := by
  have e : n < 32 * c129 := by rw [show c129 = 129 from rfl]; omega
  refine digs_len (k := c129) ?_
  rw [pow32]
  exact Nat.lt_of_le_of_lt (choose_pow n k) (Nat.pow_lt_pow_right (by decide) e)
/-- The same at every whole number below. -/
def chz (n : Nat) (k : Int) : Nat := if k < 0 then 0 else choose n k.toNat
theorem chz_nat (n k : Nat) {K : Int} (h : K = k) : chz n K = choose n k := by
  subst h; unfold chz; rw [if_neg (by omega)]; simp
theorem chz_neg (n : Nat) {K : Int} (h : K < 0) : chz n K = 0 := by unfold chz; rw [if_pos h]
theorem chz_big {n : Nat} {K : Int} (h : (n : Int) < K) : chz n K = 0 := by unfold chz; rw [if_neg (by omega)]; exact choose_big (by omega)
/-! ### division by one limb -/
theorem div_lim {h l y : Nat} (hh : h < y) (hl : l < 4294967296) : (l + 4294967296 * h) / y < 4294967296 := by
  rw [Nat.div_lt_iff_lt_mul (by omega)]
  have : 4294967296 * (h + 1) ≤ 4294967296 * y := Nat.mul_le_mul_left _ hh
  omega
theorem drop_set {l : List Nat} {i : Nat} (v : Nat) (h : i < l.length) : nv ((l.set i v).drop i) = v + 4294967296 * nv (l.drop (i + 1)) := by
  rw [nv_drop, List.drop_set_of_lt (by omega)]
  simp [h]
theorem div_step {xa zs : List Nat} {i d r x q : Nat} (hi : i < zs.length) (h : nv (xa.drop (i + 1)) = nv (zs.drop (i + 1)) * d + r) (hx : xa.getD i 0 = x) (hq : q = (x + 4294967296 * r) / d) :
    nv (xa.drop i) = nv ((zs.set i q).drop i) * d + (x + 4294967296 * r) % d := by
  rw [drop_set _ hi, nv_drop, hx, h]
  have h1 := Nat.div_add_mod (x + 4294967296 * r) d
  rw [← hq, Nat.mul_comm] at h1
  rw [Nat.add_mul, Nat.mul_add, Nat.mul_assoc]
  omega
theorem div_end {a q d r : Nat} (h : a = q * d + r) (hr : r < d) : q = a / d ∧ r = a % d := by
  subst h
  have hd : 0 < d := by omega
  constructor
  · rw [Nat.mul_comm, Nat.mul_add_div hd, Nat.div_eq_of_lt hr]; omega
  · rw [Nat.mul_comm, Nat.mul_add_mod, Nat.mod_eq_of_lt hr]
/-- One step of the multiplication by a limb. -/
theorem smul_step {zs xa : List Nat} {i c f x t s : Nat} (hi : i < zs.length) (hg : zs.getD i 0 = x) (hxa : xa.getD i 0 = x) (h : nv zs + 4294967296 ^ i * c + nv (xa.take i) = nv (xa.take i) * f + t + nv xa) (hs : s = c + x * f) :
    nv (zs.set i (s % 4294967296)) + 4294967296 ^ (i + 1) * (s / 4294967296) + nv (xa.take (i + 1)) = nv (xa.take (i + 1)) * f + t + nv xa := by
  subst hs
  have h1 := nv_set ((c + x * f) % 4294967296) hi
  rw [hg] at h1
  have h2 := Nat.div_add_mod (c + x * f) 4294967296
  have h3 : 4294967296 ^ (i + 1) * ((c + x * f) / 4294967296) + 4294967296 ^ i * ((c + x * f) % 4294967296) = 4294967296 ^ i * c + 4294967296 ^ i * (x * f) := by
    rw [Nat.pow_succ, Nat.mul_assoc, ← Nat.mul_add, h2, Nat.mul_add]
  rw [nv_take_succ, hxa, Nat.add_mul, Nat.mul_assoc]
  omega
theorem wu32n {n : Nat} (h : n < 4294967296) : IntKind.u32.wrap (n : Int) = (n : Int) := wu32 (by omega) (by omega) rfl
theorem wu64n {n : Nat} (h : n < 18446744073709551616) : IntKind.u64.wrap (n : Int) = (n : Int) := wu64 (by omega) (by omega) rfl
theorem wi64n {n : Nat} (h : n < 9223372036854775808) : IntKind.i64.wrap (n : Int) = (n : Int) := wi64 (by omega) (by omega) rfl
end Go.Proofs.Ythfpcebcfjlkmac
set_option linter.unusedSimpArgs false
set_option linter.unusedVariables false
namespace Go.Proofs.Ythfpcebcfjlkmac
open Go.RowKit
theorem Div32_c {w : World} (x y d : Nat) {X Y D : Int} (hX : X = x) (hY : Y = y) (hD : D = d) (hx : x < d) (hy : y < 4294967296) (hd : d < 4294967296) :
    Calls Try.prog 70 #[.int .u32 X, .int .u32 Y, .int .u32 D] w fun e w2 => ∃ v, e = .returned v ∧ (fun v w2 => v = .tuple #[.int .u32 (((y + 4294967296 * x) / d : Nat) : Int), .int .u32 (((y + 4294967296 * x) % d : Nat) : Int)] ∧ w.grownBy w2 none) v w2 := by
  have hq := div_lim hx hy
  have hr := Nat.mod_lt (y + 4294967296 * x) (by omega : d > 0)
  have hB := ext_refl w
  refine calls_of_W (vs := [.int .u32 X, .int .u32 Y, .int .u32 D]) [6, 7] Try.func70 rfl rfl rfl rfl ?_
  refine W.seq ?_
  refine W.region ?_
  refine WL.assign rfl rfl ?_
  refine WL.assign rfl rfl ?_
  refine WL.done ?_
  refine W.seq ?_
  refine W.seq ?_
  refine W.region ?_
  refine WL.move rfl rfl ?_
  refine WL.neq rfl rfl rfl (fun c11 => ?_) (fun c11 => ?_)
  · refine WL.move rfl rfl ?_
    refine WL.take rfl ?_
    refine WL.move rfl rfl ?_
    refine WL.take rfl ?_
    refine WL.move rfl rfl ?_
    refine WL.take rfl ?_
    refine WL.leq rfl rfl rfl (fun c12 => ?_) (fun c12 => ?_)
    · exfalso
      omega
    · refine WL.pick rfl rfl rfl ?_
      refine WL.done ?_
      refine W.condF rfl ?_
      refine W.skip ?_
      refine W.seq ?_
      refine W.region ?_
      refine WL.move rfl rfl ?_
      refine WL.conv (r := X) Try.underlying48 Try.underlying61 rfl (wu64 (by omega) (by omega) (by omega)) rfl ?_
      refine WL.shl (r := ((x * 4294967296 : Nat) : Int)) rfl rfl (by omega) (by rw [show IntKind.u64.bits = 64 from rfl, shl_nat (a := x) (s := 32) (by omega) (by omega) 64 (by omega)]; exact wu64 (by omega) (by omega) (by omega)) rfl ?_
      refine WL.move rfl rfl ?_
      refine WL.conv (r := Y) Try.underlying48 Try.underlying61 rfl (wu64 (by omega) (by omega) (by omega)) rfl ?_
      refine WL.bits (r := ((y + 4294967296 * x : Nat) : Int)) rfl rfl (.inr (.inl rfl)) (or64 rfl (by omega) (by omega) hy) rfl ?_
      refine WL.assign rfl rfl ?_
      refine WL.done ?_
      refine W.seq ?_
      refine W.draw [⟨[], [8], true⟩, ⟨[], [2], true⟩, ⟨[1], [], true⟩, ⟨[0, 2], [], true⟩, ⟨[3], [], true⟩, ⟨[], [8], true⟩, ⟨[], [2], true⟩, ⟨[6], [], true⟩, ⟨[5, 7], [], true⟩, ⟨[8], [], true⟩, ⟨[4], [], true⟩, ⟨[9], [], true⟩] [[(8, .int .u64 ((y + 4294967296 * x : Nat) : Int))], [(2, .int .u32 D)], [], [], [], [(8, .int .u64 ((y + 4294967296 * x : Nat) : Int))], [(2, .int .u32 D)], [], [], [], [], []] (fun iQ => [fun v _ => v = .int .u64 ((y + 4294967296 * x : Nat) : Int), fun v _ => v = .int .u32 D, fun v _ => v = .int .u64 D, fun v _ => v = .int .u64 (((y + 4294967296 * x) / d : Nat) : Int), fun v _ => v = .int .u32 (((y + 4294967296 * x) / d : Nat) : Int), fun v _ => v = .int .u64 ((y + 4294967296 * x : Nat) : Int), fun v _ => v = .int .u32 D, fun v _ => v = .int .u64 D, fun v _ => v = .int .u64 (((y + 4294967296 * x) % d : Nat) : Int), fun v _ => v = .int .u32 (((y + 4294967296 * x) % d : Nat) : Int), fun v _ => v = .int .u32 (((y + 4294967296 * x) / d : Nat) : Int), fun v _ => v = .int .u32 (((y + 4294967296 * x) % d : Nat) : Int)].getD iQ (fun _ _ => True)) (fun _ => True) 12 Try.mixed (by kernel_rfl) ?_ ?_ ?_
      · refine Vs_mono _ ?_
        intro VQ hVQ vQ wQ1 wQ2 hQ1 hQ2
        simp only [List.mem_cons, List.not_mem_nil, or_false] at hVQ
        rcases hVQ with rfl | rfl | rfl | rfl | rfl | rfl | rfl | rfl | rfl | rfl | rfl | rfl <;> exact hQ1
      · refine ⟨⟨rfl, ⟨rfl, trivial⟩, ?_⟩, ⟨rfl, ⟨rfl, trivial⟩, ?_⟩, ⟨rfl, trivial, ?_⟩, ⟨rfl, trivial, ?_⟩, ⟨rfl, trivial, ?_⟩, ⟨rfl, ⟨rfl, trivial⟩, ?_⟩, ⟨rfl, ⟨rfl, trivial⟩, ?_⟩, ⟨rfl, trivial, ?_⟩, ⟨rfl, trivial, ?_⟩, ⟨rfl, trivial, ?_⟩, ⟨rfl, trivial, ?_⟩, ⟨rfl, trivial, ?_⟩, trivial⟩
        · intro w13 hE
          intro R
          refine WL.move rfl rfl ?_
          exact WL.done ⟨_, rfl, rfl, rfl⟩
        · intro w14 hE
          intro R
          refine WL.move rfl rfl ?_
          exact WL.done ⟨_, rfl, rfl, rfl⟩
        · intro w15 hE
          rintro _ rfl
          intro R
          refine WL.conv (r := D) Try.underlying48 Try.underlying61 rfl (wu64 (by omega) (by omega) (by omega)) rfl ?_
          exact WL.done ⟨_, rfl, rfl, rfl⟩
        · intro w16 hE
          rintro _ rfl
          rintro _ rfl
          intro R
          refine WL.quo (r := (((y + 4294967296 * x) / d : Nat) : Int)) rfl rfl (by omega) (qu64 (by omega) (by omega) (by omega)) rfl ?_
          exact WL.done ⟨_, rfl, rfl, rfl⟩
        · intro w17 hE
          rintro _ rfl
          intro R
          refine WL.conv (r := (((y + 4294967296 * x) / d : Nat) : Int)) Try.underlying61 Try.underlying48 rfl (wu32n hq) rfl ?_
          exact WL.done ⟨_, rfl, rfl, rfl⟩
        · intro w18 hE
          intro R
          refine WL.move rfl rfl ?_
          exact WL.done ⟨_, rfl, rfl, rfl⟩
        · intro w19 hE
          intro R
          refine WL.move rfl rfl ?_
          exact WL.done ⟨_, rfl, rfl, rfl⟩
        · intro w20 hE
          rintro _ rfl
          intro R
          refine WL.conv (r := D) Try.underlying48 Try.underlying61 rfl (wu64 (by omega) (by omega) (by omega)) rfl ?_
          exact WL.done ⟨_, rfl, rfl, rfl⟩
        · intro w21 hE
          rintro _ rfl
          rintro _ rfl
          intro R
          refine WL.rem (r := (((y + 4294967296 * x) % d : Nat) : Int)) rfl rfl (by omega) (tmod_nat (by omega) (by omega)) rfl ?_
          exact WL.done ⟨_, rfl, rfl, rfl⟩
        · intro w22 hE
          rintro _ rfl
          intro R
          refine WL.conv (r := (((y + 4294967296 * x) % d : Nat) : Int)) Try.underlying61 Try.underlying48 rfl (wu32n (Nat.lt_trans hr hd)) rfl ?_
          exact WL.done ⟨_, rfl, rfl, rfl⟩
        · intro w23 hE
          rintro _ rfl
          intro R
          refine WL.assign rfl rfl ?_
          exact WL.done ⟨_, rfl, rfl, rfl⟩
        · intro w24 hE
          rintro _ rfl
          intro R
          refine WL.assign rfl rfl ?_
          exact WL.done ⟨_, rfl, rfl, rfl⟩
      · intro vals w25 hT hVs
        rw [if_neg (by decide)] at hT
        have hB := ext_trans hB hT
        have hv0 : vals 0 = _ := hVs 0 (by decide) (by decide)
        have hv1 : vals 1 = _ := hVs 1 (by decide) (by decide)
        have hv2 : vals 2 = _ := hVs 2 (by decide) (by decide)
        have hv3 : vals 3 = _ := hVs 3 (by decide) (by decide)
        have hv4 : vals 4 = _ := hVs 4 (by decide) (by decide)
        have hv5 : vals 5 = _ := hVs 5 (by decide) (by decide)
        have hv6 : vals 6 = _ := hVs 6 (by decide) (by decide)
        have hv7 : vals 7 = _ := hVs 7 (by decide) (by decide)
        have hv8 : vals 8 = _ := hVs 8 (by decide) (by decide)
        have hv9 : vals 9 = _ := hVs 9 (by decide) (by decide)
        have hv10 : vals 10 = _ := hVs 10 (by decide) (by decide)
        have hv11 : vals 11 = _ := hVs 11 (by decide) (by decide)
        rw [show (List.filterMap (fun i => Option.map (fun t => (t, vals i)) (dstAt _ i)) (List.range _)) = [(23, .int .u64 ((y + 4294967296 * x : Nat) : Int)), (24, .int .u32 D), (25, .int .u64 D), (26, .int .u64 (((y + 4294967296 * x) / d : Nat) : Int)), (27, .int .u32 (((y + 4294967296 * x) / d : Nat) : Int)), (28, .int .u64 ((y + 4294967296 * x : Nat) : Int)), (29, .int .u32 D), (30, .int .u64 D), (31, .int .u64 (((y + 4294967296 * x) % d : Nat) : Int)), (32, .int .u32 (((y + 4294967296 * x) % d : Nat) : Int)), (6, .int .u32 (((y + 4294967296 * x) / d : Nat) : Int)), (7, .int .u32 (((y + 4294967296 * x) % d : Nat) : Int))] from by
          show [(23, vals 0), (24, vals 1), (25, vals 2), (26, vals 3), (27, vals 4), (28, vals 5), (29, vals 6), (30, vals 7), (31, vals 8), (32, vals 9), (6, vals 10), (7, vals 11)] = _
          rw [hv0, hv1, hv2, hv3, hv4, hv5, hv6, hv7, hv8, hv9, hv10, hv11]]
        refine W.ret ?_
        refine ⟨_, rfl, ?_⟩
        exact ⟨rfl, hB⟩
  · exfalso
    omega

theorem sdiv_c {w : World} {b0 : Nat} {Aa : Option Addr} {ma ca : Nat} {xa : List Nat} (ho : Own b0 w 48 1 Aa ma ca (us xa)) (hb0s : b0 ≤ w.heap.size) (hLa : Lim xa) (hs : ma ≤ 1099511627776) (d : Nat) {X : Int} (hX : X = d) (hd0 : 0 < d) (hd : d < 4294967296) :
    Calls Try.prog 48 #[.slice Aa ma ca, .int .u32 X] w fun e w2 => ∃ v, e = .returned v ∧ (fun v w2 => ∃ ys, v = .int .u32 ((nv xa % d : Nat) : Int) ∧ Below b0 w w2 ∧ Own b0 w2 48 1 Aa ma ca (us ys) ∧ Lim ys ∧ ys.length = ma ∧ nv ys = nv xa / d) v w2 := by
  have ho_l := ho.rd.ulen
  have ho_x := ho.rd.max
  simp only [maxLen] at ho_x
  have ho_c := ho.rd.cap
  have hB := Below.refl b0 w
  refine calls_of_W (vs := [.slice Aa ma ca, .int .u32 X]) [4] Try.func48 rfl rfl rfl rfl ?_
  refine W.seq ?_
  refine W.region ?_
  refine WL.assign rfl rfl ?_
  refine WL.done ?_
  refine W.seq ?_
  refine W.region ?_
  refine WL.assign rfl rfl ?_
  refine WL.done ?_
  refine W.seq ?_
  refine W.seq ?_
  refine W.region ?_
  refine WL.move rfl rfl ?_
  refine WL.len Try.underlying23 rfl rfl ?_
  refine WL.sub (r := ((ma : Nat) : Int) - 1) rfl rfl (wi64 (by omega) (by omega) (by omega)) rfl ?_
  refine WL.assign rfl rfl ?_
  refine WL.done ?_
  refine W.block ?_
  refine W.loop (σ := Nat × Nat × List Nat) (fun s w1 => match s with | (j, r, zs) => Below b0 w w1 ∧ j ≤ ma ∧ r < d ∧ Lim zs ∧ zs.length = ma ∧ (∀ t, t < j → zs.getD t 0 = xa.getD t 0) ∧ nv (xa.drop j) = nv (zs.drop j) * d + r ∧ Own b0 w1 48 1 Aa ma ca (us (zs))) (fun s => match s with | (j, r, zs) => [(0, .slice Aa ma ca), (1, .int .u32 X), (5, .int .u32 ((r : Nat) : Int)), (6, .int .i64 (((j : Nat) : Int) - 1))]) (fun s => match s with | (j, r, zs) => j) (ma, 0, xa) ?_ ?_ ?_
  · exact ⟨hB, by omega, hd0, hLa, by omega, fun _ _ => rfl, by rw [List.drop_of_length_le (by omega)]; simp, ho⟩
  · exact ⟨rfl, iv (by omega), iv (by omega), iv (by omega), trivial⟩
  · rintro ⟨j, r, zs⟩ w11 ⟨hB, hj, hr, hLz, hlz, hsame, heq, ho⟩
    have hz := hLz.getD (j - 1)
    have hq := div_lim hr hz
    have hmr := Nat.mod_lt (zs.getD (j - 1) 0 + 4294967296 * r) (show d > 0 by omega)
    refine W.seq ?_
    refine W.seq ?_
    refine W.region ?_
    refine WL.move rfl rfl ?_
    refine WL.geq rfl rfl rfl (fun c12 => ?_) (fun c12 => ?_)
    · refine WL.done ?_
      refine W.condT rfl ?_
      refine W.skip ?_
      refine W.seq ?_
      refine W.block ?_
      refine W.region ?_
      refine WL.move rfl rfl ?_
      refine WL.move rfl rfl ?_
      refine WL.move rfl rfl ?_
      refine WL.move rfl rfl ?_
      refine WL.move rfl rfl ?_
      refine WL.index1 (j - 1) Try.underlying23 Try.el48 rfl rfl (by omega) (by omega) ho.rd rfl ?_
      refine WL.load Try.underlying48 rfl rfl (Rd.at_ ho.rd (us_at (by omega))) rfl ?_
      refine WL.move rfl rfl ?_
      refine WL.call Try.func70 rfl Try.nm70 rfl rfl (Div32_c r (zs.getD (j - 1) 0) d (by omega) (by omega) (by omega) (by omega) (by omega) (by omega)) ?_
      rintro _ w13 ⟨rfl, hGw13⟩
      have hB := hB.grown hGw13 (Nat.le_trans hb0s hB.size) (fun _ h => by cases h)
      have ho := ho.ext hGw13
      refine WL.move rfl rfl ?_
      refine WL.extract rfl rfl rfl ?_
      refine WL.extract rfl rfl rfl ?_
      refine WL.index1 (j - 1) Try.underlying23 Try.el48 rfl rfl (by omega) (by omega) ho.rd rfl ?_
      refine WL.store Try.el48 rfl rfl rfl (by omega) ho ?_
      have hOld15 := ho
      intro w14 ho hGw14
      change Own _ _ _ _ _ _ _ ((us zs).set (j - 1) (.int .u32 ((((zs.getD (j - 1) 0) + 4294967296 * r) / d : Nat) : Int))) at ho
      rw [us_set] at ho
      have hB := hB.grown hGw14 (Nat.le_trans hb0s hB.size) (fun g hg => (hOld15.bl_ge g hg).1)
      have := ho.rd.ulen
      refine WL.assign rfl rfl ?_
      refine WL.done ?_
      refine W.region ?_
      refine WL.move rfl rfl ?_
      refine WL.sub (r := ((((j : Nat) : Int) - 1) - (1 : Int))) rfl rfl (wi64 (by omega) (by omega) (by omega)) rfl ?_
      refine WL.assign rfl rfl ?_
      refine WL.done ?_
      refine ⟨(j - 1, (zs.getD (j - 1) 0 + 4294967296 * r) % d, zs.set (j - 1) ((zs.getD (j - 1) 0 + 4294967296 * r) / d)), ⟨rfl, iv (by omega), iv (by omega), iv (by omega), trivial⟩, by (dsimp only; omega), ?_⟩
      exact ⟨hB, by omega, hmr, hLz.set _ hq, by simp [hlz], fun t ht => by rw [getD_set_ne (by omega)]; exact hsame t (by omega), div_step (by omega) (by rw [show j - 1 + 1 = j by omega]; exact heq) (hsame (j - 1) (by omega)).symm rfl, ho⟩
    · refine WL.done ?_
      refine W.condF rfl ?_
      refine W.exit ?_
      refine W.seq ?_
      refine W.region ?_
      refine WL.move rfl rfl ?_
      refine WL.assign rfl rfl ?_
      refine WL.done ?_
      refine W.ret ?_
      refine ⟨_, rfl, ?_⟩
      obtain rfl : j = 0 := by omega
      rw [List.drop_zero, List.drop_zero] at heq
      obtain ⟨e1, e2⟩ := div_end heq hr
      exact ⟨_, by rw [e2], hB, ho, hLz, hlz, e1⟩

theorem binom_step {M s f q : Nat} (hf : f = M + 1) (h : q = choose M s * f + 0) : q / (s + 1) = choose (M + 1) (s + 1) := by
  rw [h, hf, Nat.add_zero, Nat.mul_comm, choose_absorb, Nat.mul_div_cancel _ (by omega)]
theorem small_step {M s : Nat} (h : s ≤ M) : choose M s * (M - s) / (s + 1) = choose M (s + 1) := by
  rw [choose_next h, Nat.mul_div_cancel _ (by omega)]

theorem chz_pascal (n k : Nat) {K K1 : Int} (hK : K = k) (h1 : K1 = k + 1) : chz (n + 1) K1 = chz n K + chz n K1 := by
  rw [chz_nat (n + 1) (k + 1) (by omega), chz_nat n k hK, chz_nat n (k + 1) (by omega), choose_succ]
theorem chz_symm (n k : Nat) {K D : Int} (hK : K = k) (hD : D = (n : Int) - k) : chz n D = chz n K := by
  rw [chz_nat n k hK]
  rcases Nat.lt_or_ge n k with h | h
  · rw [chz_neg n (by omega), choose_big h]
  · rw [chz_nat n (n - k) (by omega), choose_symm h]
end Go.Proofs.Ythfpcebcfjlkmac
namespace Go.Proofs.Ythfpcebcfjlkmac
open Go.RowKit
def sumTo (f : Nat → Nat) : Nat → Nat
  | 0 => 0
  | j + 1 => sumTo f j + f j
theorem sumTo_add (f g : Nat → Nat) : ∀ j, sumTo (fun i => f i + g i) j = sumTo f j + sumTo g j
  | 0 => rfl
  | j + 1 => by simp only [sumTo]; rw [sumTo_add f g j]; omega
theorem sumTo_shift (f : Nat → Nat) : ∀ j, sumTo f (j + 1) = f 0 + sumTo (fun i => f (i + 1)) j
  | 0 => by simp [sumTo]
  | j + 1 => by rw [sumTo, sumTo_shift f j]; simp only [sumTo]; omega
theorem sumTo_zero : ∀ j, sumTo (fun _ => 0) j = 0
  | 0 => rfl
  | j + 1 => by simp only [sumTo]; rw [sumTo_zero j]
theorem sumTo_congr {f g : Nat → Nat} : ∀ {j : Nat}, (∀ i, i < j → f i = g i) → sumTo f j = sumTo g j
  | 0, _ => rfl
  | j + 1, h => by simp only [sumTo]; rw [sumTo_congr (fun i hi => h i (by omega)), h j (by omega)]
theorem sumTo_le (f : Nat → Nat) {j k : Nat} (h : j ≤ k) : sumTo f j ≤ sumTo f k := by
  induction h with
  | refl => exact Nat.le_refl _
  | step _ ih => simp only [sumTo]; omega
/-- The first terms of the identity of Vandermonde. -/
def vs (p q r j : Nat) : Nat := sumTo (fun i => choose p i * choose q (r - i)) j
theorem vs_all : ∀ p q r : Nat, vs p q r (r + 1) = choose (p + q) r
  | 0, q, r => by
    unfold vs
    rw [sumTo_shift, sumTo_congr (g := fun _ => 0) (fun i _ => by rw [choose_big (by omega)]; simp), sumTo_zero, choose_zero]
    simp
  | p + 1, q, 0 => by simp [vs, sumTo, choose_zero]
  | p + 1, q, r + 1 => by
    have h1 := vs_all p q r
    have h2 := vs_all p q (r + 1)
    rw [show p + 1 + q = (p + q) + 1 by omega, choose_succ, ← h1, ← h2]
    unfold vs
    rw [sumTo_shift, sumTo_shift (fun i => choose p i * choose q (r + 1 - i)), choose_zero, choose_zero]
    rw [sumTo_congr (g := fun i => choose p i * choose q (r - i) + choose p (i + 1) * choose q (r + 1 - (i + 1))) (fun i _ => by rw [choose_succ, Nat.add_mul, show r + 1 - (i + 1) = r - i by omega]), sumTo_add]
    omega
theorem vs_len {p q r j : Nat} (h : p + q ≤ 4096) (hj : j ≤ r + 1) : (digs (vs p q r j)).length ≤ 129 := by
  have h1 : vs p q r j ≤ choose (p + q) r := by rw [← vs_all]; exact sumTo_le _ hj
  have h2 := choose_len (n := p + q) (k := r) (by omega)
  rw [show 129 = c129 from rfl] at h2 ⊢
  exact digs_len (Nat.lt_of_le_of_lt h1 (digs_len_iff.1 h2))
theorem vs_step (p q r j : Nat) : vs p q r (j + 1) = vs p q r j + choose p j * choose q (r - j) := rfl
theorem choose_pos : ∀ {n k : Nat}, k ≤ n → 0 < choose n k
  | n, 0, _ => by rw [choose_zero]; decide
  | n + 1, k + 1, h => by rw [choose_succ]; have := choose_pos (show k ≤ n by omega); omega
theorem chz_len {n r : Nat} {K : Int} (h : K = r) : (n < r → (digs (chz n K)).length = 0) ∧ (r ≤ n → 0 < (digs (chz n K)).length) := by
  rw [chz_nat n r h]
  constructor
  · intro h1; rw [choose_big h1]; rfl
  · intro h1
    have h2 := choose_pos h1
    rcases Nat.eq_zero_or_pos (digs (choose n r)).length with h3 | h3
    · have h4 := nv_digs (choose n r)
      rw [List.eq_nil_of_length_eq_zero h3] at h4
      simp at h4; omega
    · exact h3
end Go.Proofs.Ythfpcebcfjlkmac
set_option linter.unusedSimpArgs false
set_option linter.unusedVariables false
namespace Go.Proofs.Ythfpcebcfjlkmac
open Go.RowKit
end Go.Proofs.Ythfpcebcfjlkmac
namespace Go.Proofs.Ythfpcebcfjlkmac
open Go.RowKit
/-! ### the digits of a long division -/
/-- The estimate never falls below the digit. -/
theorem est_low {D W P v1 v2 D' top w2 W' dg left q : Nat} (hD : D = (v1 * 4294967296 + v2) * P + D') (hW : W = (top * 4294967296 + w2) * P + W') (hW' : W' < P)
    (hq : q * D ≤ W) (hinv : dg * v1 + left = top) (htest : left * 4294967296 + w2 < dg * v2) : q < dg := by
  rcases Nat.lt_or_ge q dg with h | h
  · exact h
  · exfalso
    have h1 : dg * D ≤ q * D := Nat.mul_le_mul_right D h
    have h2 : dg * (v1 * 4294967296 + v2) = (dg * v1) * 4294967296 + dg * v2 := by rw [Nat.mul_add, Nat.mul_assoc]
    have h3 : top * 4294967296 + w2 + 1 ≤ dg * (v1 * 4294967296 + v2) := by rw [h2]; omega
    have h4 : (top * 4294967296 + w2 + 1) * P ≤ dg * (v1 * 4294967296 + v2) * P := Nat.mul_le_mul_right P h3
    have h5 : dg * D = dg * (v1 * 4294967296 + v2) * P + dg * D' := by rw [hD, Nat.mul_add, Nat.mul_assoc]
    rw [Nat.add_mul, Nat.one_mul] at h4
    omega
theorem est_first {D W P v1 v2 D' top w2 W' q : Nat} (hD : D = (v1 * 4294967296 + v2) * P + D') (hW : W = (top * 4294967296 + w2) * P + W') (hW' : W' < P) (hw2 : w2 < 4294967296) (hv : 0 < v1) (hq : q * D ≤ W) : q ≤ top / v1 := by
  rw [Nat.le_div_iff_mul_le hv]
  rcases Nat.lt_or_ge top (q * v1) with h | h
  · exfalso
    have h1 : (top + 1) * (4294967296 * P) ≤ q * v1 * (4294967296 * P) := Nat.mul_le_mul_right _ h
    have h2 : q * D = q * v1 * (4294967296 * P) + q * v2 * P + q * D' := by rw [hD]; simp only [Nat.mul_add, Nat.add_mul, Nat.mul_assoc]
    have h3 : (top * 4294967296 + w2) * P + P ≤ (top + 1) * (4294967296 * P) := by
      have h4 : (top * 4294967296 + w2 + 1) * P ≤ ((top + 1) * 4294967296) * P := Nat.mul_le_mul_right _ (by omega)
      rw [Nat.add_mul _ 1, Nat.one_mul, Nat.mul_assoc (top + 1)] at h4
      exact h4
    omega
  · exact h
/-- At the end it is the digit, or one more. -/
theorem est_high {D W P v1 v2 D' top w2 W' dg left : Nat} (hD : D = (v1 * 4294967296 + v2) * P + D') (hW : W = (top * 4294967296 + w2) * P + W') (hD' : D' < P) (hv : 2147483648 ≤ v1)
    (hinv : dg * v1 + left = top) (hdg : dg < 4294967296) (htest : dg * v2 ≤ left * 4294967296 + w2) : dg * D < W + D := by
  have h2 : dg * (v1 * 4294967296 + v2) = (dg * v1) * 4294967296 + dg * v2 := by rw [Nat.mul_add, Nat.mul_assoc]
  have h3 : dg * (v1 * 4294967296 + v2) ≤ top * 4294967296 + w2 := by rw [h2]; omega
  have h4 := Nat.mul_le_mul_right P h3
  have h5 : dg * D = dg * (v1 * 4294967296 + v2) * P + dg * D' := by rw [hD, Nat.mul_add, Nat.mul_assoc]
  have h6 : dg * D' ≤ 4294967296 * D' := Nat.mul_le_mul_right _ (by omega)
  have h7 : 4294967296 * P ≤ v1 * 4294967296 * P := Nat.mul_le_mul_right _ (by omega)
  have h8 : D = v1 * 4294967296 * P + v2 * P + D' := by rw [hD, Nat.add_mul]
  omega
/-- The digit is below the base where the rest has grown past it. -/
theorem est_stop {D W P v1 v2 D' top w2 W' dg left : Nat} (hD : D = (v1 * 4294967296 + v2) * P + D') (hW : W = (top * 4294967296 + w2) * P + W') (hD' : D' < P) (hv2 : v2 < 4294967296)
    (hWD : W < 4294967296 * D) (hinv : dg * v1 + left = top) (hl : 4294967296 ≤ left) : dg < 4294967296 ∧ dg * v2 ≤ left * 4294967296 + w2 := by
  have h1 : top < 4294967296 * (v1 + 1) := by
    rcases Nat.lt_or_ge top (4294967296 * (v1 + 1)) with h | h
    · exact h
    · exfalso
      have h2 : 4294967296 * (v1 + 1) * (4294967296 * P) ≤ top * (4294967296 * P) := Nat.mul_le_mul_right _ h
      have h3 : D < (v1 + 1) * (4294967296 * P) := by
        have h4 : (v1 * 4294967296 + v2 + 1) * P ≤ ((v1 + 1) * 4294967296) * P := Nat.mul_le_mul_right _ (by omega)
        rw [Nat.add_mul _ 1, Nat.one_mul, Nat.mul_assoc (v1 + 1)] at h4
        omega
      have h5 : 4294967296 * D < 4294967296 * (v1 + 1) * (4294967296 * P) := by rw [Nat.mul_assoc]; omega
      have h6 : top * (4294967296 * P) ≤ W := by
        rw [hW, Nat.add_mul, Nat.mul_assoc]; omega
      omega
  have h2 : dg < 4294967296 := by
    rcases Nat.lt_or_ge dg 4294967296 with h | h
    · exact h
    · exfalso
      have := Nat.mul_le_mul_right v1 h
      omega
  refine ⟨h2, ?_⟩
  have h3 : dg * v2 ≤ 4294967296 * 4294967296 := Nat.mul_le_mul (by omega) (by omega)
  omega
theorem dig_ends {D W q dg : Nat} (hq : q = W / D) (hD : 0 < D) (h1 : q ≤ dg) (h2 : dg * D < W + D) : dg = q ∨ dg = q + 1 := by
  have h3 := Nat.div_add_mod W D
  have h4 := Nat.mod_lt W hD
  rcases Nat.lt_or_ge dg (q + 2) with h | h
  · omega
  · exfalso
    have h5 := Nat.mul_le_mul_right D h
    rw [Nat.add_mul] at h5
    rw [← hq, Nat.mul_comm] at h3
    omega
/-- One step of the subtraction of a multiple. -/
theorem subm_step {zs : List Nat} {o i x c b lo hi v b' base dg l t : Nat} (hk : o + i < zs.length) (hx : zs.getD (o + i) 0 = x) (h : nv zs + 4294967296 ^ o * (dg * t) = base + 4294967296 ^ (o + i) * (c + b))
    (hs : c + dg * l = lo + 4294967296 * hi) (hv : v + lo + b = x + 4294967296 * b') :
    nv (zs.set (o + i) v) + 4294967296 ^ o * (dg * (t + 4294967296 ^ i * l)) = base + 4294967296 ^ (o + (i + 1)) * (hi + b') := by
  have h1 := nv_set v hk
  rw [hx] at h1
  have h2 : 4294967296 ^ o * (dg * (t + 4294967296 ^ i * l)) = 4294967296 ^ o * (dg * t) + 4294967296 ^ (o + i) * (dg * l) := by
    rw [Nat.mul_add, Nat.mul_add, Nat.pow_add, Nat.mul_left_comm dg, Nat.mul_assoc]
  have h3 : 4294967296 ^ (o + (i + 1)) * (hi + b') = 4294967296 ^ (o + i) * (4294967296 * hi + 4294967296 * b') := by
    rw [show o + (i + 1) = (o + i) + 1 by omega, Nat.pow_succ, Nat.mul_assoc, Nat.mul_add 4294967296]
  have h4 : 4294967296 ^ (o + i) * v + 4294967296 ^ (o + i) * (c + dg * l) + 4294967296 ^ (o + i) * b = 4294967296 ^ (o + i) * x + 4294967296 ^ (o + i) * (4294967296 * hi + 4294967296 * b') := by
    rw [← Nat.mul_add, ← Nat.mul_add, ← Nat.mul_add]
    congr 1
    omega
  rw [h2, h3]
  rw [Nat.mul_add] at h h4
  omega
/-- One step of adding back. -/
theorem addb_step {zs : List Nat} {o i x c v c' base l t : Nat} (hk : o + i < zs.length) (hx : zs.getD (o + i) 0 = x) (h : nv zs + 4294967296 ^ (o + i) * c = base + 4294967296 ^ o * t)
    (hv : v + 4294967296 * c' = x + l + c) :
    nv (zs.set (o + i) v) + 4294967296 ^ (o + (i + 1)) * c' = base + 4294967296 ^ o * (t + 4294967296 ^ i * l) := by
  have h1 := nv_set v hk
  rw [hx] at h1
  have h2 : 4294967296 ^ o * (t + 4294967296 ^ i * l) = 4294967296 ^ o * t + 4294967296 ^ (o + i) * l := by rw [Nat.mul_add, Nat.pow_add, Nat.mul_assoc]
  have h3 : 4294967296 ^ (o + (i + 1)) * c' = 4294967296 ^ (o + i) * (4294967296 * c') := by
    rw [show o + (i + 1) = (o + i) + 1 by omega, Nat.pow_succ, Nat.mul_assoc]
  have h4 : 4294967296 ^ (o + i) * v + 4294967296 ^ (o + i) * (4294967296 * c') = 4294967296 ^ (o + i) * x + 4294967296 ^ (o + i) * l + 4294967296 ^ (o + i) * c := by
    rw [← Nat.mul_add, ← Nat.mul_add, ← Nat.mul_add, hv]
  rw [h2, h3]
  omega
/-- One digit of the quotient. -/
theorem digit_none {R F X M : Nat} {b : Nat} (h : F + X = R + M * b) (hX : X ≤ R) (hF : F < M) (hb : b ≤ 1) : b = 0 ∧ F = R - X := by
  rcases (by omega : b = 0 ∨ b = 1) with rfl | rfl
  · omega
  · exfalso; omega
theorem digit_one {R F X M : Nat} {b : Nat} (h : F + X = R + M * b) (hX : R < X) (hb : b ≤ 1) : b = 1 := by
  rcases (by omega : b = 0 ∨ b = 1) with rfl | rfl
  · exfalso; omega
  · rfl
end Go.Proofs.Ythfpcebcfjlkmac
