/- Contracts of functions of the program, and what they lean on. -/
import Derived.Test.YthfpcebcfjlkmabW3
set_option linter.unusedSimpArgs false
set_option linter.unusedVariables false
namespace Go.Proofs.Ythfpcebcfjlkmab
open Go.RowKit
theorem product_c {w : World} {Ba : Nat} {Aa : Option Addr} {ma ca : Nat} {xa : List Nat} (ha : Rd Ba w 1 Aa ma ca (us xa)) {Bb : Nat} {Ab : Option Addr} {mb cb : Nat} {xb : List Nat} (hb : Rd Bb w 1 Ab mb cb (us xb)) (hLa : Lim xa) (hLb : Lim xb) (hsa : ma ≤ 1099511627776) (hsb : mb ≤ 1099511627776) :
    Calls Try.prog 47 #[.slice Aa ma ca, .slice Ab mb cb] w fun e w2 => ∃ v, e = .returned v ∧ (fun v w2 => ∃ A2 m2 c2, v = .slice A2 m2 c2 ∧ w.grownBy w2 none ∧ Own w.heap.size w2 43 1 A2 m2 c2 (us (digs (nv xa * nv xb))) ∧ m2 ≤ ma + mb) v w2 := by
  have ha := ha.norm
  have ha_l := ha.ulen
  have ha_x := ha.max
  simp only [maxLen] at ha_x
  have ha_c := ha.cap
  have hb := hb.norm
  have hb_l := hb.ulen
  have hb_x := hb.max
  simp only [maxLen] at hb_x
  have hb_c := hb.cap
  have ha0 := ha
  have hb0 := hb
  have hB := ext_refl w
  refine calls_of_W (vs := [.slice Aa ma ca, .slice Ab mb cb]) [4] Try.func47 rfl rfl rfl rfl ?_
  refine W.seq ?_
  refine W.region ?_
  refine WL.assign rfl rfl ?_
  refine WL.done ?_
  refine W.seq ?_
  refine W.region ?_
  refine WL.move rfl rfl ?_
  refine WL.len Try.underlying23 rfl rfl ?_
  refine WL.move rfl rfl ?_
  refine WL.len Try.underlying23 rfl rfl ?_
  refine WL.add (r := ((ma + mb : Nat) : Int)) rfl rfl (wi64 (by omega) (by omega) (by omega)) rfl ?_
  refine WL.make (w.heap.size) (ma + mb) Try.underlying23 Try.el43 rfl rfl (by omega) (by omega) (by simp only [maxLen]; omega) (Nat.le_of_eq rfl) rfl ?_
  rintro A11 w12 - ho hGw12
  rw [made_us] at ho
  have ho := ho.low (b' := w.heap.size) hB.size
  have hB := ext_trans hB hGw12
  have ha := ha0.ext hB
  have hb := hb0.ext hB
  refine WL.assign rfl rfl ?_
  refine WL.done ?_
  refine W.seq ?_
  refine W.seq ?_
  refine W.region ?_
  refine WL.move rfl rfl ?_
  refine WL.len Try.underlying23 rfl rfl ?_
  refine WL.move rfl rfl ?_
  refine WL.done ?_
  refine W.block ?_
  refine W.loop (σ := Nat × Nat × List Nat × Option Addr × Nat) (fun s w1 => match s with | (i, n, zs, Ao, co) => w.grownBy w1 none ∧ i ≤ ma ∧ n = ma + mb ∧ Lim zs ∧ zs.length = n ∧ (∀ t, i + mb ≤ t → zs.getD t 0 = 0) ∧ nv zs = nv (xa.take i) * nv xb ∧ Own w.heap.size w1 43 1 Ao n co (us zs)) (fun s => match s with | (i, n, zs, Ao, co) => [(0, .slice Aa ma ca), (1, .slice Ab mb cb), (5, .slice Ao n co), (17, .slice Aa ma ca), (18, .int .i64 ((ma : Nat) : Int)), (19, .int .i64 ((i : Nat) : Int))]) (fun s => match s with | (i, n, zs, Ao, co) => ma - i) (0, ma + mb, List.replicate (ma + mb) 0, A11, ma + mb) ?_ ?_ ?_
  · exact ⟨hB, by omega, rfl, Lim.zeros _, by simp, fun t _ => zeros_getD _ _, by simp [nv_zeros], ho⟩
  · exact ⟨rfl, rfl, rfl, rfl, iv (by omega), iv (by omega), trivial⟩
  · rintro ⟨i, n, zs, Ao, co⟩ w13 ⟨hB, hi, hn, hLz, hlz, h0z, heq, ho⟩
    have ha := ha0.ext hB
    have hb := hb0.ext hB
    have hxa := hLa.getD i
    refine W.seq ?_
    refine W.region ?_
    refine WL.lss rfl rfl rfl (fun c14 => ?_) (fun c14 => ?_)
    · refine WL.done ?_
      refine W.seq ?_
      refine W.condT rfl ?_
      refine W.skip ?_
      refine W.seq ?_
      refine W.block ?_
      refine W.seq ?_
      refine W.region ?_
      refine WL.move rfl rfl ?_
      refine WL.index1 (i) Try.underlying23 Try.el43 rfl rfl (by omega) (by omega) ha rfl ?_
      refine WL.load Try.underlying43 rfl rfl (Rd.at_ ha (us_at (by omega))) rfl ?_
      refine WL.assign rfl rfl ?_
      refine WL.assign rfl rfl ?_
      refine WL.done ?_
      refine W.seq ?_
      refine W.region ?_
      refine WL.assign rfl rfl ?_
      refine WL.done ?_
      refine W.seq ?_
      refine W.seq ?_
      refine W.region ?_
      refine WL.move rfl rfl ?_
      refine WL.len Try.underlying23 rfl rfl ?_
      refine WL.move rfl rfl ?_
      refine WL.done ?_
      refine W.block ?_
      refine W.loop (σ := Nat × Nat × List Nat × Option Addr × Nat) (fun s w1 => match s with | (j, c, zs, Ao, co) => w.grownBy w1 none ∧ j ≤ mb ∧ c < 4294967296 ∧ Lim zs ∧ zs.length = n ∧ (∀ t, i + mb ≤ t → zs.getD t 0 = 0) ∧ nv zs + 4294967296 ^ (i + j) * c = nv (xa.take i) * nv xb + 4294967296 ^ i * (xa.getD i 0 * nv (xb.take j)) ∧ Own w.heap.size w1 43 1 Ao n co (us zs)) (fun s => match s with | (j, c, zs, Ao, co) => [(0, .slice Aa ma ca), (1, .slice Ab mb cb), (5, .slice Ao n co), (6, .int .i64 ((i : Nat) : Int)), (7, .int .u32 ((xa.getD i 0 : Nat) : Int)), (8, .int .u64 ((c : Nat) : Int)), (17, .slice Aa ma ca), (18, .int .i64 ((ma : Nat) : Int)), (19, .int .i64 ((i : Nat) : Int)), (24, .slice Ab mb cb), (25, .int .i64 ((mb : Nat) : Int)), (26, .int .i64 ((j : Nat) : Int))]) (fun s => match s with | (j, c, zs, Ao, co) => mb - j) (0, 0, zs, Ao, co) ?_ ?_ ?_
      · exact ⟨hB, by omega, by omega, hLz, hlz, h0z, by simpa [nv] using heq, ho⟩
      · exact ⟨rfl, rfl, rfl, iv (by omega), iv (by omega), iv (by omega), rfl, iv (by omega), iv (by omega), rfl, iv (by omega), iv (by omega), trivial⟩
      · rintro ⟨j, c, zs, Ao, co⟩ w15 ⟨hB, hj, hc, hLz, hlz, h0z, heq, ho⟩
        have hb := hb0.ext hB
        have hxb := hLb.getD j
        have hz := hLz.getD (i + j)
        have hm1 := mul_lim hxa hxb hz hc
        have hm0 := mul_lim0 hxa hxb
        refine W.seq ?_
        refine W.region ?_
        refine WL.lss rfl rfl rfl (fun c16 => ?_) (fun c16 => ?_)
        · refine WL.done ?_
          refine W.seq ?_
          refine W.condT rfl ?_
          refine W.skip ?_
          refine W.seq ?_
          refine W.block ?_
          refine W.seq ?_
          refine W.region ?_
          refine WL.move rfl rfl ?_
          refine WL.index1 (j) Try.underlying23 Try.el43 rfl rfl (by omega) (by omega) hb rfl ?_
          refine WL.load Try.underlying43 rfl rfl (Rd.at_ hb (us_at (by omega))) rfl ?_
          refine WL.assign rfl rfl ?_
          refine WL.assign rfl rfl ?_
          refine WL.done ?_
          refine W.seq ?_
          refine W.region ?_
          refine WL.move rfl rfl ?_
          refine WL.move rfl rfl ?_
          refine WL.conv (r := ((xa.getD i 0 : Nat) : Int)) Try.underlying43 Try.underlying72 rfl (wu64 (by omega) (by omega) (by omega)) rfl ?_
          refine WL.move rfl rfl ?_
          refine WL.conv (r := ((xb.getD j 0 : Nat) : Int)) Try.underlying43 Try.underlying72 rfl (wu64 (by omega) (by omega) (by omega)) rfl ?_
          refine WL.mul (r := (((xa.getD i 0) * (xb.getD j 0) : Nat) : Int)) rfl rfl (by rw [← Int.natCast_mul]; exact wu64 (by omega) (by omega) rfl) rfl ?_
          refine WL.move rfl rfl ?_
          refine WL.move rfl rfl ?_
          refine WL.move rfl rfl ?_
          refine WL.add (r := ((i + j : Nat) : Int)) rfl rfl (wi64 (by omega) (by omega) (by omega)) rfl ?_
          refine WL.index1 (i + j) Try.underlying23 Try.el43 rfl rfl (by omega) (by omega) ho.rd rfl ?_
          refine WL.load Try.underlying43 rfl rfl (Rd.at_ ho.rd (us_at (by omega))) rfl ?_
          refine WL.conv (r := ((zs.getD (i + j) 0 : Nat) : Int)) Try.underlying43 Try.underlying72 rfl (wu64 (by omega) (by omega) (by omega)) rfl ?_
          refine WL.add (r := ((((xa.getD i 0) * (xb.getD j 0)) + (zs.getD (i + j) 0) : Nat) : Int)) rfl rfl (wu64 (by omega) (by omega) (by omega)) rfl ?_
          refine WL.add (r := ((c + (((xa.getD i 0) * (xb.getD j 0)) + (zs.getD (i + j) 0)) : Nat) : Int)) rfl rfl (wu64 (by omega) (by omega) (by omega)) rfl ?_
          refine WL.assign rfl rfl ?_
          refine WL.done ?_
          refine W.seq ?_
          refine W.region ?_
          refine WL.move rfl rfl ?_
          refine WL.move rfl rfl ?_
          refine WL.move rfl rfl ?_
          refine WL.add (r := ((i + j : Nat) : Int)) rfl rfl (wi64 (by omega) (by omega) (by omega)) rfl ?_
          refine WL.move rfl rfl ?_
          refine WL.conv (r := (((c + (xa.getD i 0 * xb.getD j 0 + zs.getD (i + j) 0)) % 4294967296 : Nat) : Int)) Try.underlying72 Try.underlying43 rfl (wu32m (by omega)) rfl ?_
          refine WL.index1 (i + j) Try.underlying23 Try.el43 rfl rfl (by omega) (by omega) ho.rd rfl ?_
          refine WL.store Try.el43 rfl rfl rfl (by omega) ho ?_
          have hOld18 := ho
          intro w17 ho hGw17
          change Own _ _ _ _ _ _ _ ((us zs).set (i + j) (.int .u32 (((c + (xa.getD i 0 * xb.getD j 0 + zs.getD (i + j) 0)) % 4294967296 : Nat) : Int))) at ho
          rw [us_set] at ho
          have hB := ext_own hB hGw17 (fun g hg => (hOld18.bl_ge g hg).1)
          have := ho.rd.ulen
          refine WL.done ?_
          refine W.region ?_
          refine WL.move rfl rfl ?_
          refine WL.shr (r := (((c + (((xa.getD i 0) * (xb.getD j 0)) + (zs.getD (i + j) 0))) / 4294967296 : Nat) : Int)) rfl rfl (by omega) (shr_nat (a := c + (((xa.getD i 0) * (xb.getD j 0)) + (zs.getD (i + j) 0))) (s := 32) (by omega) (by omega) 64 (by omega)) rfl ?_
          refine WL.assign rfl rfl ?_
          refine WL.done ?_
          refine W.region ?_
          refine WL.add (r := ((j + 1 : Nat) : Int)) rfl rfl (wi64 (by omega) (by omega) (by omega)) rfl ?_
          refine WL.move rfl rfl ?_
          refine WL.done ?_
          refine ⟨(j + 1, (c + (xa.getD i 0 * xb.getD j 0 + zs.getD (i + j) 0)) / 4294967296, zs.set (i + j) ((c + (xa.getD i 0 * xb.getD j 0 + zs.getD (i + j) 0)) % 4294967296), _, _), ⟨rfl, rfl, rfl, iv (by omega), iv (by omega), iv (by omega), rfl, iv (by omega), iv (by omega), rfl, iv (by omega), iv (by omega), trivial⟩, by (dsimp only; omega), ?_⟩
          exact ⟨hB, by omega, by omega, hLz.set _ (by omega), by simp [hlz], fun t ht => by rw [getD_set_ne (by omega)]; exact h0z t (by omega), by rw [nv_take_succ]; exact mul_inner (by omega) heq (by omega), ho⟩
        · refine WL.done ?_
          refine W.seq ?_
          refine W.condF rfl ?_
          refine W.exit ?_
          refine W.region ?_
          refine WL.move rfl rfl ?_
          refine WL.move rfl rfl ?_
          refine WL.move rfl rfl ?_
          refine WL.len Try.underlying23 rfl rfl ?_
          refine WL.add (r := ((i + mb : Nat) : Int)) rfl rfl (wi64 (by omega) (by omega) (by omega)) rfl ?_
          refine WL.move rfl rfl ?_
          refine WL.conv (r := ((c : Nat) : Int)) Try.underlying72 Try.underlying43 rfl (wu32 (by omega) (by omega) (by omega)) rfl ?_
          refine WL.index1 (i + mb) Try.underlying23 Try.el43 rfl rfl (by omega) (by omega) ho.rd rfl ?_
          refine WL.store Try.el43 rfl rfl rfl (by omega) ho ?_
          have hOld20 := ho
          intro w19 ho hGw19
          change Own _ _ _ _ _ _ _ ((us zs).set (i + mb) (.int .u32 ((c : Nat) : Int))) at ho
          rw [us_set] at ho
          have hB := ext_own hB hGw19 (fun g hg => (hOld20.bl_ge g hg).1)
          have := ho.rd.ulen
          refine WL.done ?_
          refine W.region ?_
          refine WL.add (r := ((i + 1 : Nat) : Int)) rfl rfl (wi64 (by omega) (by omega) (by omega)) rfl ?_
          refine WL.move rfl rfl ?_
          refine WL.done ?_
          refine ⟨(i + 1, n, zs.set (i + mb) c, _, _), ⟨rfl, rfl, rfl, rfl, iv (by omega), iv (by omega), trivial⟩, by (dsimp only; omega), ?_⟩
          exact ⟨hB, by omega, hn, hLz.set _ hc, by simp [hlz], fun t ht => by rw [getD_set_ne (by omega)]; exact h0z t (by omega), by rw [mul_outer (u := nv xb) (base := nv (xa.take i) * nv xb) (x := xa.getD i 0) (by omega) (h0z _ (Nat.le_refl _)) (by rw [show i + mb = i + j by omega]; rw [nv_take_all (l := xb) (i := j) (by omega)] at heq; exact heq)]; exact take_mul, ho⟩
    · refine WL.done ?_
      refine W.seq ?_
      refine W.condF rfl ?_
      refine W.exit ?_
      refine W.seq ?_
      refine W.region ?_
      refine WL.move rfl rfl ?_
      refine WL.call Try.func44 rfl Try.nm44 rfl rfl (sig_c ho.rd) ?_
      rintro _ w21 ⟨rfl, hGw21⟩
      have hB := ext_trans hB hGw21
      have ho := ho.ext hGw21
      refine WL.assign rfl rfl ?_
      refine WL.done ?_
      refine W.ret ?_
      refine ⟨_, rfl, ?_⟩
      have hO := ho
      obtain rfl : i = ma := by omega
      rw [nv_take_all (by omega)] at heq
      have hsl := sigL_le zs
      have hO : Own w.heap.size w21 43 1 Ao (sigL zs) co (us (trimL zs)) := hO.sig
      rw [digs_trim hLz, heq] at hO
      exact ⟨_, _, _, rfl, hB, hO, by omega⟩

theorem inc_c {w : World} {b0 : Nat} {Aa : Option Addr} {ma ca : Nat} {xa : List Nat} (ho : Own b0 w 43 1 Aa ma ca (us xa)) {Ab : Option Addr} {mb cb : Nat} {xb : List Nat} (hb : Rd b0 w 1 Ab mb cb (us xb)) (hb0s : b0 ≤ w.heap.size) (hLa : Lim xa) (hLb : Lim xb) (hsa : ma ≤ 4398046511104) (hsb : mb ≤ 4398046511104) (hta : trimL xa = xa) (htb : trimL xb = xb) :
    Calls Try.prog 45 #[.slice Aa ma ca, .slice Ab mb cb] w fun e w2 => ∃ v, e = .returned v ∧ (fun v w2 => ∃ A2 m2 c2, v = .slice A2 m2 c2 ∧ Below b0 w w2 ∧ Own b0 w2 43 1 A2 m2 c2 (us (digs (nv xa + nv xb))) ∧ m2 ≤ max ma mb + 1) v w2 := by
  have ho_l := ho.rd.ulen
  have ho_x := ho.rd.max
  simp only [maxLen] at ho_x
  have ho_c := ho.rd.cap
  have hb_l := hb.ulen
  have hb_x := hb.max
  simp only [maxLen] at hb_x
  have hb_c := hb.cap
  have hb0 := hb
  have hB := Below.refl b0 w
  refine calls_of_W (vs := [.slice Aa ma ca, .slice Ab mb cb]) [4] Try.func45 rfl rfl rfl rfl ?_
  refine W.seq ?_
  refine W.region ?_
  refine WL.assign rfl rfl ?_
  refine WL.done ?_
  refine W.seq ?_
  refine W.region ?_
  refine WL.assign rfl rfl ?_
  refine WL.done ?_
  refine W.seq ?_
  refine W.seq ?_
  refine W.region ?_
  refine WL.assign rfl rfl ?_
  refine WL.done ?_
  refine W.block ?_
  refine W.loop (σ := Nat × Nat × Nat × List Nat × Option Addr × Nat) (fun s w1 => match s with | (i, c, n, zs, Ao, co) => Below b0 w w1 ∧ (∀ t, i ≤ t → ma ≤ t → zs.getD t 0 = 0) ∧ c ≤ 1 ∧ i ≤ n ∧ ma ≤ n ∧ Lim zs ∧ zs.length = n ∧ i ≤ max ma mb + 1 ∧ (max ma mb < i → c = 0) ∧ (n ≤ max ma mb ∨ (n = max ma mb + 1 ∧ 4294967296 ^ (max ma mb) ≤ nv xa + nv xb)) ∧ nv zs + 4294967296 ^ i * c = nv xa + nv (xb.take i) ∧ Own b0 w1 43 1 Ao n co (us zs)) (fun s => match s with | (i, c, n, zs, Ao, co) => [(0, .slice Ao n co), (1, .slice Ab mb cb), (5, .int .u32 ((c : Nat) : Int)), (6, .int .i64 ((i : Nat) : Int))]) (fun s => match s with | (i, c, n, zs, Ao, co) => max ma mb + 1 - i) (0, 0, ma, xa, Aa, ca) ?_ ?_ ?_
  · exact ⟨hB, fun t _ h => getD_out (by omega), by omega, by omega, by omega, hLa, ho_l, by omega, fun _ => rfl, by omega, by simp, ho⟩
  · exact ⟨rfl, rfl, iv (by omega), iv (by omega), trivial⟩
  · rintro ⟨i, c, n, zs, Ao, co⟩ w11 ⟨hB, hz0, hc, hi, hn, hLz, hlz, hi2, hc0, hnn, heq, ho⟩
    have hb := hb0.below hB
    have ho_x := ho.rd.max
    simp only [maxLen] at ho_x
    have ho_c := ho.rd.cap
    refine W.cut (σ := Unit) (fun _u w1 => (i < mb ∨ c ≠ 0) ∧ w11 = w1) (fun _u => [(0, .slice Ao n co), (1, .slice Ab mb cb), (5, .int .u32 ((c : Nat) : Int)), (6, .int .i64 ((i : Nat) : Int))]) ?_ ?_
    · refine W.seq ?_
      refine W.region ?_
      refine WL.move rfl rfl ?_
      refine WL.move rfl rfl ?_
      refine WL.len Try.underlying23 rfl rfl ?_
      refine WL.lss rfl rfl rfl (fun c12 => ?_) (fun c12 => ?_)
      · refine WL.move rfl rfl ?_
        refine WL.pass rfl rfl rfl ?_
        refine WL.pass rfl rfl rfl ?_
        refine WL.pick rfl rfl rfl ?_
        refine WL.done ?_
        refine W.condT rfl ?_
        refine W.skip ?_
        refine ⟨(), ⟨rfl, rfl, iv (by omega), iv (by omega), trivial⟩, ?_⟩
        exact ⟨by omega, rfl⟩
      · refine WL.move rfl rfl ?_
        refine WL.take rfl ?_
        refine WL.move rfl rfl ?_
        refine WL.take rfl ?_
        refine WL.neq rfl rfl rfl (fun c13 => ?_) (fun c13 => ?_)
        · refine WL.pick rfl rfl rfl ?_
          refine WL.done ?_
          refine W.condT rfl ?_
          refine W.skip ?_
          refine ⟨(), ⟨rfl, rfl, iv (by omega), iv (by omega), trivial⟩, ?_⟩
          exact ⟨by omega, rfl⟩
        · refine WL.pick rfl rfl rfl ?_
          refine WL.done ?_
          refine W.condF rfl ?_
          refine W.exit ?_
          refine W.seq ?_
          refine W.region ?_
          refine WL.move rfl rfl ?_
          refine WL.assign rfl rfl ?_
          refine WL.done ?_
          refine W.ret ?_
          refine ⟨_, rfl, ?_⟩
          have hc2 : c = 0 := by omega
          subst hc2
          rw [Nat.mul_zero, Nat.add_zero, nv_take_all (by omega)] at heq
          have e := inc_end hLz heq hta htb (by rw [ho_l, hb_l]; omega)
          subst e
          exact ⟨_, _, _, rfl, hB, ho, by omega⟩
    · rintro _u w14 ⟨hhd, rfl⟩
      refine W.seq ?_
      refine W.block ?_
      refine W.cut (σ := Nat × List Nat × Option Addr × Nat) (fun s w1 => match s with | (n, zs, Ao, co) => Below b0 w w1 ∧ (∀ t, i ≤ t → ma ≤ t → zs.getD t 0 = 0) ∧ i < n ∧ ma ≤ n ∧ Lim zs ∧ zs.length = n ∧ (n ≤ max ma mb ∨ (n = max ma mb + 1 ∧ 4294967296 ^ (max ma mb) ≤ nv xa + nv xb)) ∧ nv zs + 4294967296 ^ i * c = nv xa + nv (xb.take i) ∧ Own b0 w1 43 1 Ao n co (us zs)) (fun s => match s with | (n, zs, Ao, co) => [(0, .slice Ao n co), (1, .slice Ab mb cb), (5, .int .u32 ((c : Nat) : Int)), (6, .int .i64 ((i : Nat) : Int))]) ?_ ?_
      · refine W.seq ?_
        refine W.region ?_
        refine WL.move rfl rfl ?_
        refine WL.move rfl rfl ?_
        refine WL.len Try.underlying23 rfl rfl ?_
        refine WL.eql rfl rfl rfl (fun c15 => ?_) (fun c15 => ?_)
        · refine WL.done ?_
          refine W.condT rfl ?_
          refine W.region ?_
          refine WL.move rfl rfl ?_
          refine WL.lit1 (b := w11.heap.size) Try.underlying23 Try.el43 rfl rfl rfl rfl (by intro v hv; simp only [List.mem_cons, List.not_mem_nil, or_false] at hv; rcases hv with rfl <;> rfl) (Nat.le_refl _) rfl ?_
          rintro A16 w17 - hO18 hGw17
          have hO18 := hO18.low (b' := b0) (Nat.le_trans hb0s hB.size)
          have hB := hB.grown hGw17 (Nat.le_trans hb0s hB.size) (fun _ h => by cases h)
          have ho := ho.ext hGw17
          change Own _ _ _ _ _ _ _ (us [0]) at hO18
          refine WL.append (n + 1) ((us (zs ++ ([0])))) Try.underlying23 Try.el43 rfl rfl ho hO18.rd (us_one _) (by simp only [maxLen]; omega) (by omega) (Nat.le_trans hb0s hB.size) (by omega) (us_app rfl) rfl ?_
          have hOld22 := ho
          intro A19 cp20 w21 ho hGw21 hblw21
          have hB := hB.grown hGw21 (Nat.le_trans hb0s hB.size) (fun g hg => (hOld22.bl_ge g hg).1)
          refine WL.assign rfl rfl ?_
          refine WL.done ?_
          refine ⟨(n + 1, zs ++ [0], _, _), ⟨rfl, rfl, iv (by omega), iv (by omega), trivial⟩, ?_⟩
          exact ⟨hB, fun t ht h => by rw [getD_snoc_zero]; exact hz0 t ht h, by omega, by omega, hLz.append (Lim.one (by decide)), by simp [hlz], inc_grow hlz (by omega) hhd hc hc0 hnn heq, by rw [nv_append]; simpa [nv] using heq, ho⟩
        · refine WL.done ?_
          refine W.condF rfl ?_
          refine W.skip ?_
          refine ⟨(n, zs, Ao, co), ⟨rfl, rfl, iv (by omega), iv (by omega), trivial⟩, ?_⟩
          exact ⟨hB, hz0, by omega, hn, hLz, hlz, hnn, heq, ho⟩
      · rintro ⟨n, zs, Ao, co⟩ w23 ⟨hB, hz0, hi, hn, hLz, hlz, hnn, heq, ho⟩
        have hb := hb0.below hB
        have ho_x := ho.rd.max
        simp only [maxLen] at ho_x
        have ho_c := ho.rd.cap
        have hz := hLz.getD i
        have hxb := hLb.getD i
        refine W.draw [⟨[], [0], true⟩, ⟨[], [6], true⟩, ⟨[], [0], true⟩, ⟨[], [6], true⟩, ⟨[2, 3], [], true⟩, ⟨[4], [], false⟩, ⟨[], [1], true⟩, ⟨[], [6], true⟩, ⟨[6, 7], [], false⟩, ⟨[], [5], true⟩, ⟨[5, 8, 9], [], false⟩, ⟨[10], [], true⟩, ⟨[11], [], true⟩, ⟨[11], [], true⟩, ⟨[0, 1], [], true⟩, ⟨[14, 12], [], false⟩, ⟨[13], [], true⟩] [[(0, .slice Ao n co)], [(6, .int .i64 ((i : Nat) : Int))], [(0, .slice Ao n co)], [(6, .int .i64 ((i : Nat) : Int))], [], [], [(1, .slice Ab mb cb)], [(6, .int .i64 ((i : Nat) : Int))], [], [(5, .int .u32 ((c : Nat) : Int))], [], [], [], [], [], [], []] (fun iQ => [fun v _ => v = .slice Ao n co, fun v _ => v = .int .i64 ((i : Nat) : Int), fun v _ => v = .slice Ao n co, fun v _ => v = .int .i64 ((i : Nat) : Int), fun v _ => v = .pointer (some ((adOf Ao).add i)), fun v _ => v = .int .u32 ((zs.getD i 0 : Nat) : Int), fun v _ => v = .slice Ab mb cb, fun v _ => v = .int .i64 ((i : Nat) : Int), fun v _ => v = .int .u32 ((xb.getD i 0 : Nat) : Int), fun v _ => v = .int .u32 ((c : Nat) : Int), fun v _ => v = .tuple #[.int .u32 (((zs.getD i 0 + xb.getD i 0 + c) % 4294967296 : Nat) : Int), .int .u32 (((zs.getD i 0 + xb.getD i 0 + c) / 4294967296 : Nat) : Int)], fun v _ => v = .tuple #[.int .u32 (((zs.getD i 0 + xb.getD i 0 + c) % 4294967296 : Nat) : Int), .int .u32 (((zs.getD i 0 + xb.getD i 0 + c) / 4294967296 : Nat) : Int)], fun v _ => v = .int .u32 (((zs.getD i 0 + xb.getD i 0 + c) % 4294967296 : Nat) : Int), fun v _ => v = .int .u32 (((zs.getD i 0 + xb.getD i 0 + c) / 4294967296 : Nat) : Int), fun v _ => v = .pointer (some ((adOf Ao).add i)), fun _ _ => True, fun v _ => v = .int .u32 (((zs.getD i 0 + xb.getD i 0 + c) / 4294967296 : Nat) : Int)].getD iQ (fun _ _ => True)) (fun w1 => Below b0 w w1 ∧ Own b0 w1 43 1 Ao n co (us (zs.set i ((zs.getD i 0 + xb.getD i 0 + c) % 4294967296)))) 15 Try.mixed (by kernel_rfl) ?_ ?_ ?_
        · refine Vs_mono _ ?_
          intro VQ hVQ vQ wQ1 wQ2 hQ1 hQ2
          simp only [List.mem_cons, List.not_mem_nil, or_false] at hVQ
          rcases hVQ with rfl | rfl | rfl | rfl | rfl | rfl | rfl | rfl | rfl | rfl | rfl | rfl | rfl | rfl | rfl | rfl | rfl <;> exact hQ1
        · refine ⟨⟨rfl, ⟨rfl, trivial⟩, ?_⟩, ⟨rfl, ⟨rfl, trivial⟩, ?_⟩, ⟨rfl, ⟨rfl, trivial⟩, ?_⟩, ⟨rfl, ⟨rfl, trivial⟩, ?_⟩, ⟨rfl, trivial, ?_⟩, ⟨rfl, trivial, ?_⟩, ⟨rfl, ⟨rfl, trivial⟩, ?_⟩, ⟨rfl, ⟨rfl, trivial⟩, ?_⟩, ⟨rfl, trivial, ?_⟩, ⟨rfl, ⟨rfl, trivial⟩, ?_⟩, ⟨rfl, trivial, ?_⟩, ⟨rfl, trivial, ?_⟩, ⟨rfl, trivial, ?_⟩, ⟨rfl, trivial, ?_⟩, ⟨rfl, trivial, ?_⟩, ⟨rfl, trivial, ?_⟩, ⟨rfl, trivial, ?_⟩, trivial⟩
          · intro w24 hE
            intro R
            refine WL.move rfl rfl ?_
            exact WL.done ⟨_, rfl, rfl, rfl⟩
          · intro w25 hE
            intro R
            refine WL.move rfl rfl ?_
            exact WL.done ⟨_, rfl, rfl, rfl⟩
          · intro w26 hE
            intro R
            refine WL.move rfl rfl ?_
            exact WL.done ⟨_, rfl, rfl, rfl⟩
          · intro w27 hE
            intro R
            refine WL.move rfl rfl ?_
            exact WL.done ⟨_, rfl, rfl, rfl⟩
          · intro w28 hE
            rintro _ rfl
            rintro _ rfl
            intro R
            refine WL.index1 (i) Try.underlying23 Try.el43 rfl rfl (by omega) (by omega) ho.rd rfl ?_
            exact WL.done ⟨_, rfl, rfl, rfl⟩
          · intro w29 hE
            have hE := hE rfl
            have hB := hB.grown hE (Nat.le_trans hb0s hB.size) (fun _ h => by cases h)
            have ho := ho.ext hE
            rintro _ rfl
            intro R
            refine WL.load Try.underlying43 rfl rfl (Rd.at_ ho.rd (us_at (by omega))) rfl ?_
            exact WL.done ⟨_, rfl, ext_refl _, rfl⟩
          · intro w30 hE
            intro R
            refine WL.move rfl rfl ?_
            exact WL.done ⟨_, rfl, rfl, rfl⟩
          · intro w31 hE
            intro R
            refine WL.move rfl rfl ?_
            exact WL.done ⟨_, rfl, rfl, rfl⟩
          · intro w32 hE
            have hE := hE rfl
            have hB := hB.grown hE (Nat.le_trans hb0s hB.size) (fun _ h => by cases h)
            have hb := hb0.below hB
            rintro _ rfl
            rintro _ rfl
            intro R
            refine WL.call Try.func79 rfl Try.nm79 rfl rfl (limbAt_c hb (i) (by omega)) ?_
            rintro _ w33 ⟨rfl, hGw33⟩
            have hB := hB.grown hGw33 (Nat.le_trans hb0s hB.size) (fun _ h => by cases h)
            exact WL.done ⟨_, rfl, hGw33, rfl⟩
          · intro w34 hE
            intro R
            refine WL.move rfl rfl ?_
            exact WL.done ⟨_, rfl, rfl, rfl⟩
          · intro w35 hE
            have hE := hE rfl
            have hB := hB.grown hE (Nat.le_trans hb0s hB.size) (fun _ h => by cases h)
            rintro _ rfl
            rintro _ rfl
            rintro _ rfl
            intro R
            refine WL.call Try.func78 rfl Try.nm78 rfl rfl (Add32_c (zs.getD i 0) (xb.getD i 0) c (by omega) (by omega) (by omega) (by omega) (by omega) (by omega)) ?_
            rintro _ w36 ⟨rfl, hGw36⟩
            have hB := hB.grown hGw36 (Nat.le_trans hb0s hB.size) (fun _ h => by cases h)
            exact WL.done ⟨_, rfl, hGw36, rfl⟩
          · intro w37 hE
            rintro _ rfl
            intro R
            refine WL.move rfl rfl ?_
            exact WL.done ⟨_, rfl, rfl, rfl⟩
          · intro w38 hE
            rintro _ rfl
            intro R
            refine WL.extract rfl rfl rfl ?_
            exact WL.done ⟨_, rfl, rfl, rfl⟩
          · intro w39 hE
            rintro _ rfl
            intro R
            refine WL.extract rfl rfl rfl ?_
            exact WL.done ⟨_, rfl, rfl, rfl⟩
          · intro w40 hE
            rintro _ rfl
            rintro _ rfl
            intro R
            refine WL.index1 (i) Try.underlying23 Try.el43 rfl rfl (by omega) (by omega) ho.rd rfl ?_
            exact WL.done ⟨_, rfl, rfl, rfl⟩
          · intro w41 hE
            have hE := hE rfl
            have hB := hB.grown hE (Nat.le_trans hb0s hB.size) (fun _ h => by cases h)
            have ho := ho.ext hE
            rintro _ rfl
            rintro _ rfl
            intro R
            refine WL.store Try.el43 rfl rfl rfl (by omega) ho ?_
            have hOld43 := ho
            intro w42 ho hGw42
            change Own _ _ _ _ _ _ _ ((us zs).set i (.int .u32 (((zs.getD i 0 + xb.getD i 0 + c) % 4294967296 : Nat) : Int))) at ho
            rw [us_set] at ho
            have hB := hB.grown hGw42 (Nat.le_trans hb0s hB.size) (fun g hg => (hOld43.bl_ge g hg).1)
            have := ho.rd.ulen
            exact WL.done ⟨rfl, ⟨hB, ho⟩⟩
          · intro w44 hE
            rintro _ rfl
            intro R
            refine WL.assign rfl rfl ?_
            exact WL.done ⟨_, rfl, rfl, rfl⟩
        · intro vals w45 hT hVs
          rw [if_pos (by decide)] at hT
          obtain ⟨hB, ho⟩ := hT
          have hv0 : vals 0 = _ := hVs 0 (by decide) (by decide)
          have hv1 : vals 1 = _ := hVs 1 (by decide) (by decide)
          have hv2 : vals 2 = _ := hVs 2 (by decide) (by decide)
          have hv3 : vals 3 = _ := hVs 3 (by decide) (by decide)
          have hv4 : vals 4 = _ := hVs 4 (by decide) (by decide)
          have hv5 : vals 5 = _ := hVs 5 (by decide) (by decide)
          have hv6 : vals 6 = _ := hVs 6 (by decide) (by decide)
          have hv7 : vals 7 = _ := hVs 7 (by decide) (by decide)
          have hv8 : vals 8 = _ := hVs 8 (by decide) (by decide)
          have hv9 : vals 9 = _ := hVs 9 (by decide) (by decide)
          have hv10 : vals 10 = _ := hVs 10 (by decide) (by decide)
          have hv11 : vals 11 = _ := hVs 11 (by decide) (by decide)
          have hv12 : vals 12 = _ := hVs 12 (by decide) (by decide)
          have hv13 : vals 13 = _ := hVs 13 (by decide) (by decide)
          have hv14 : vals 14 = _ := hVs 14 (by decide) (by decide)
          have hv16 : vals 16 = _ := hVs 16 (by decide) (by decide)
          rw [show (List.filterMap (fun i => Option.map (fun t => (t, vals i)) (dstAt _ i)) (List.range _)) = [(25, .slice Ao n co), (26, .int .i64 ((i : Nat) : Int)), (27, .slice Ao n co), (28, .int .i64 ((i : Nat) : Int)), (29, .pointer (some ((adOf Ao).add i))), (30, .int .u32 ((zs.getD i 0 : Nat) : Int)), (31, .slice Ab mb cb), (32, .int .i64 ((i : Nat) : Int)), (33, .int .u32 ((xb.getD i 0 : Nat) : Int)), (34, .int .u32 ((c : Nat) : Int)), (35, .tuple #[.int .u32 (((zs.getD i 0 + xb.getD i 0 + c) % 4294967296 : Nat) : Int), .int .u32 (((zs.getD i 0 + xb.getD i 0 + c) / 4294967296 : Nat) : Int)]), (24, .tuple #[.int .u32 (((zs.getD i 0 + xb.getD i 0 + c) % 4294967296 : Nat) : Int), .int .u32 (((zs.getD i 0 + xb.getD i 0 + c) / 4294967296 : Nat) : Int)]), (36, .int .u32 (((zs.getD i 0 + xb.getD i 0 + c) % 4294967296 : Nat) : Int)), (37, .int .u32 (((zs.getD i 0 + xb.getD i 0 + c) / 4294967296 : Nat) : Int)), (38, .pointer (some ((adOf Ao).add i))), (5, .int .u32 (((zs.getD i 0 + xb.getD i 0 + c) / 4294967296 : Nat) : Int))] from by
            show [(25, vals 0), (26, vals 1), (27, vals 2), (28, vals 3), (29, vals 4), (30, vals 5), (31, vals 6), (32, vals 7), (33, vals 8), (34, vals 9), (35, vals 10), (24, vals 11), (36, vals 12), (37, vals 13), (38, vals 14), (5, vals 16)] = _
            rw [hv0, hv1, hv2, hv3, hv4, hv5, hv6, hv7, hv8, hv9, hv10, hv11, hv12, hv13, hv14, hv16]]
          refine W.region ?_
          refine WL.move rfl rfl ?_
          refine WL.add (r := ((i + 1 : Nat) : Int)) rfl rfl (wi64 (by omega) (by omega) (by omega)) rfl ?_
          refine WL.assign rfl rfl ?_
          refine WL.done ?_
          refine ⟨(i + 1, (zs.getD i 0 + xb.getD i 0 + c) / 4294967296, n, zs.set i ((zs.getD i 0 + xb.getD i 0 + c) % 4294967296), Ao, co), ⟨rfl, rfl, iv (by omega), iv (by omega), trivial⟩, by (dsimp only; omega), ?_⟩
          exact ⟨hB, fun t ht h => by rw [getD_set_ne (by omega)]; exact hz0 t (by omega) h, by omega, by omega, by omega, hLz.set _ (by omega), by simp [hlz], by omega, fun h => by rw [getD_out (l := xb) (by omega), hz0 i (by omega) (by omega)]; omega, hnn, by rw [nv_take_succ]; exact inc_step (by omega) heq rfl, ho⟩

theorem Add_c {w : World} {B : Nat} {A : Option Addr} {m c : Nat} {cells : List Value} (hT : Rd B w 1 A m c cells) {B2 : Nat} {xss : List (List Nat)} (hN : NatsR B2 w cells xss) (hL : LimAll xss) (K : Nat) (hK : LenAll K xss) (hKK : K ≤ 1099511627776) (hcnt : xss.length < 4294967296) :
    Calls Try.prog 14 #[.slice A m c] w fun e w2 => ∃ v, e = .returned v ∧ (fun v w2 => ∃ A2 m2 c2, v = .slice A2 m2 c2 ∧ w.grownBy w2 none ∧ Own w.heap.size w2 43 1 A2 m2 c2 (us (digs (sumN xss))) ∧ m2 ≤ K + 1) v w2 := by
  have hT := hT.norm
  have hN := hN.norm
  have hT0 := hT
  have hN0 := hN
  have hT_l := hT.len
  have hN_l := hN.len
  have hT_x := hT.max
  simp only [maxLen] at hT_x
  have hT_c := hT.cap
  have hml : xss.length = m := by omega
  have hB := ext_refl w
  refine calls_of_W (vs := [.slice A m c]) [2] Try.func14 rfl rfl rfl rfl ?_
  refine W.seq ?_
  refine W.region ?_
  refine WL.assign rfl rfl ?_
  refine WL.done ?_
  refine W.seq ?_
  refine W.region ?_
  refine WL.assign rfl rfl ?_
  refine WL.done ?_
  refine W.seq ?_
  refine W.seq ?_
  refine W.region ?_
  refine WL.move rfl rfl ?_
  refine WL.len Try.underlying59 rfl rfl ?_
  refine WL.move rfl rfl ?_
  refine WL.done ?_
  refine W.block ?_
  refine W.loop (σ := Nat × Nat × Option Addr × Nat) (fun s w1 => match s with | (i, n, Ao, co) => w.grownBy w1 none ∧ i ≤ m ∧ n ≤ K + 1 ∧ Own w.heap.size w1 43 1 Ao n co (us (digs (sumN (xss.take i))))) (fun s => match s with | (i, n, Ao, co) => [(0, .slice A m c), (3, .slice Ao n co), (6, .slice A m c), (7, .int .i64 ((m : Nat) : Int)), (8, .int .i64 ((i : Nat) : Int))]) (fun s => match s with | (i, n, Ao, co) => m - i) (0, 0, none, 0) ?_ ?_ ?_
  · exact ⟨hB, by omega, by omega, World.ownsRow_nil _ _ _ _⟩
  · exact ⟨rfl, rfl, rfl, iv (by omega), iv (by omega), trivial⟩
  · rintro ⟨i, n, Ao, co⟩ w11 ⟨hB, hi, hn, ho⟩
    have hT := hT0.ext hB
    have hN := hN0.ext hB
    have ho_l := ho.rd.ulen
    have hKi := fun h => hK i h
    have hsg := sigL_le (xss.getD i [])
    refine W.seq ?_
    refine W.region ?_
    refine WL.lss rfl rfl rfl (fun c12 => ?_) (fun c12 => ?_)
    · refine WL.done ?_
      refine W.seq ?_
      refine W.condT rfl ?_
      refine W.skip ?_
      refine W.seq ?_
      refine W.block ?_
      refine W.seq ?_
      refine W.region ?_
      refine WL.index1 (i) Try.underlying59 Try.el23 rfl rfl (by omega) (by omega) hT rfl ?_
      refine WL.load Try.underlying23 rfl rfl (Rd.at_ hT (hN.cell (i) (by omega))) rfl ?_
      refine WL.assign rfl rfl ?_
      refine WL.done ?_
      refine W.region ?_
      refine WL.move rfl rfl ?_
      refine WL.move rfl rfl ?_
      refine WL.call Try.func44 rfl Try.nm44 rfl rfl (sig_c (hN.at_ (i) (by omega)).2) ?_
      rintro _ w13 ⟨rfl, hGw13⟩
      have hB := ext_trans hB hGw13
      have hN := hN0.ext hB
      have ho := ho.ext hGw13
      refine WL.call Try.func45 rfl Try.nm45 rfl rfl (inc_c ho (Rd.sig (hN.at_ (i) (by omega)).2) hB.size (digs_lim _) (Lim.trim (hL (i) (by omega))) (by omega) (by omega) (trimL_digs_self _) (trimL_trimL (hL (i) (by omega)))) ?_
      rintro _ w14 ⟨A15, m16, cp17, rfl, hGw14, ho, hm18⟩
      have hB := ext_bel hB hGw14
      have ho_l := ho.rd.ulen
      refine WL.assign rfl rfl ?_
      refine WL.done ?_
      refine W.region ?_
      refine WL.add (r := ((i + 1 : Nat) : Int)) rfl rfl (wi64 (by omega) (by omega) (by omega)) rfl ?_
      refine WL.move rfl rfl ?_
      refine WL.done ?_
      refine ⟨(i + 1, _, _, _), ⟨rfl, rfl, rfl, iv (by omega), iv (by omega), trivial⟩, by (dsimp only; omega), ?_⟩
      rw [nv_digs, nv_trimL, ← sumN_take xss i (by omega)] at ho
      have := ho.rd.ulen
      have := sum_len (i := i + 1) hL hK hcnt
      exact ⟨hB, by omega, by omega, ho⟩
    · refine WL.done ?_
      refine W.seq ?_
      refine W.condF rfl ?_
      refine W.exit ?_
      refine W.seq ?_
      refine W.region ?_
      refine WL.move rfl rfl ?_
      refine WL.assign rfl rfl ?_
      refine WL.done ?_
      refine W.ret ?_
      refine ⟨_, rfl, ?_⟩
      obtain rfl : i = m := by omega
      rw [List.take_of_length_le (by omega)] at ho
      exact ⟨_, _, _, rfl, hB, ho, hn⟩

theorem Mul_step {w : World} {B : Nat} {A : Option Addr} {m c : Nat} {cells : List Value} (hT : Rd B w 1 A m c cells) {B2 : Nat} {xss : List (List Nat)} (hN : NatsR B2 w cells xss) (hL : LimAll xss) {K : Nat} (hK : LenAll K xss) (hKK : xss.length * K + 1 ≤ 1099511627776) (ih : ∀ {w : World} {B : Nat} {A : Option Addr} {m c : Nat} {cells : List Value} (_ : Rd B w 1 A m c cells) {B2 : Nat} {ys : List (List Nat)} (_ : NatsR B2 w cells ys) (_ : LimAll ys) (_ : LenAll K ys) (_ : ys.length * K + 1 ≤ 1099511627776) (_ : ys.length < xss.length), Calls Try.prog 15 #[.slice A m c] w fun e w2 => ∃ v, e = .returned v ∧ (fun v w2 => ∃ A2 m2 c2, v = .slice A2 m2 c2 ∧ w.grownBy w2 none ∧ Own w.heap.size w2 43 1 A2 m2 c2 (us (digs (prodN ys))) ∧ (0 < ys.length → m2 ≤ ys.length * K) ∧ m2 ≤ ys.length * K + 1) v w2) :
    Calls Try.prog 15 #[.slice A m c] w fun e w2 => ∃ v, e = .returned v ∧ (fun v w2 => ∃ A2 m2 c2, v = .slice A2 m2 c2 ∧ w.grownBy w2 none ∧ Own w.heap.size w2 43 1 A2 m2 c2 (us (digs (prodN xss))) ∧ (0 < xss.length → m2 ≤ xss.length * K) ∧ m2 ≤ xss.length * K + 1) v w2 := by
  have hT := hT.norm
  have hN := hN.norm
  have hT0 := hT
  have hN0 := hN
  have hT_l := hT.len
  have hN_l := hN.len
  have hT_x := hT.max
  simp only [maxLen] at hT_x
  have hT_c := hT.cap
  have hml : xss.length = m := by omega
  have hB := ext_refl w
  refine calls_of_W (vs := [.slice A m c]) [2] Try.func15 rfl rfl rfl rfl ?_
  refine W.seq ?_
  refine W.region ?_
  refine WL.assign rfl rfl ?_
  refine WL.done ?_
  refine W.seq ?_
  refine W.seq ?_
  refine W.region ?_
  refine WL.move rfl rfl ?_
  refine WL.len Try.underlying59 rfl rfl ?_
  refine WL.done ?_
  refine W.block ?_
  refine W.seq ?_
  refine W.region ?_
  refine WL.eql rfl rfl rfl (fun c11 => ?_) (fun c11 => ?_)
  · refine WL.assign rfl rfl ?_
    refine WL.done ?_
    refine W.condT rfl ?_
    refine W.seq ?_
    refine W.region ?_
    refine WL.lit1 (b := w.heap.size) Try.underlying23 Try.el43 rfl rfl rfl rfl (by intro v hv; simp only [List.mem_cons, List.not_mem_nil, or_false] at hv; rcases hv with rfl <;> rfl) (Nat.le_refl _) rfl ?_
    rintro A12 w13 - hO14 hGw13
    have hO14 := hO14.low (b' := w.heap.size) hB.size
    have hB := ext_trans hB hGw13
    change Own _ _ _ _ _ _ _ (us [1]) at hO14
    refine WL.assign rfl rfl ?_
    refine WL.done ?_
    refine W.ret ?_
    refine ⟨_, rfl, ?_⟩
    have e : xss = [] := List.eq_nil_of_length_eq_zero (by omega)
    subst e
    exact ⟨_, _, _, rfl, hB, hO14, (fun h => absurd h (by simp)), by simp⟩
  · refine WL.assign rfl rfl ?_
    refine WL.done ?_
    refine W.condF rfl ?_
    refine W.seq ?_
    refine W.region ?_
    refine WL.eql rfl rfl rfl (fun c15 => ?_) (fun c15 => ?_)
    · refine WL.assign rfl rfl ?_
      refine WL.done ?_
      refine W.condT rfl ?_
      refine W.seq ?_
      refine W.region ?_
      refine WL.move rfl rfl ?_
      refine WL.index1 (0) Try.underlying59 Try.el23 rfl rfl (by omega) (by omega) hT rfl ?_
      refine WL.load Try.underlying23 rfl rfl (Rd.at_ hT (hN.cell (0) (by omega))) rfl ?_
      refine WL.call Try.func46 rfl Try.nm46 rfl rfl (Trim_c (hN.at_ (0) (by omega)).2 (by have := hK 0 (by omega); have := (hN.at_ 0 (by omega)).2.ulen; rw [show xss.length = 1 by omega, Nat.one_mul] at hKK; omega)) ?_
      rintro _ w16 ⟨A17, m18, cp19, rfl, hGw16, hO, hm20⟩
      have hO := hO.low (b' := w.heap.size) hB.size
      have hB := ext_trans hB hGw16
      have hN := hN0.ext hB
      have hO_l := hO.rd.ulen
      refine WL.assign rfl rfl ?_
      refine WL.done ?_
      refine W.ret ?_
      refine ⟨_, rfl, ?_⟩
      have h1 : xss.length = 1 := by omega
      rw [trimL_digs _ (hL 0 (by omega)), ← prodN_one h1] at hO
      have := hK 0 (by omega)
      have := (hN.at_ 0 (by omega)).2.ulen
      rw [h1, Nat.one_mul]
      exact ⟨_, _, _, rfl, hB, hO, fun _ => by omega, by omega⟩
    · refine WL.assign rfl rfl ?_
      refine WL.done ?_
      refine W.condF rfl ?_
      refine W.seq ?_
      refine W.region ?_
      refine WL.eql rfl rfl rfl (fun c21 => ?_) (fun c21 => ?_)
      · refine WL.assign rfl rfl ?_
        refine WL.done ?_
        refine W.condT rfl ?_
        refine W.seq ?_
        refine W.draw [⟨[], [0], true⟩, ⟨[0], [], true⟩, ⟨[1], [], false⟩, ⟨[2], [], false⟩, ⟨[], [0], true⟩, ⟨[4], [], true⟩, ⟨[5], [], false⟩, ⟨[6], [], false⟩, ⟨[3, 7], [], false⟩, ⟨[8], [], true⟩] [[(0, .slice A m c)], [], [], [], [(0, .slice A m c)], [], [], [], [], []] (fun iQ => [fun v _ => v = .slice A m c, fun v _ => v = .pointer (some ((adOf A).add 0)), fun v _ => v = .slice (sA (cells.getD 0 undef)) (sM (cells.getD 0 undef)) (sC (cells.getD 0 undef)), fun v _ => v = .slice (sA (cells.getD 0 undef)) (sigL (xss.getD 0 [])) (sC (cells.getD 0 undef)), fun v _ => v = .slice A m c, fun v _ => v = .pointer (some ((adOf A).add 1)), fun v _ => v = .slice (sA (cells.getD 1 undef)) (sM (cells.getD 1 undef)) (sC (cells.getD 1 undef)), fun v _ => v = .slice (sA (cells.getD 1 undef)) (sigL (xss.getD 1 [])) (sC (cells.getD 1 undef)), fun v wq => ∃ A2 m2 c2, v = .slice A2 m2 c2 ∧ Own w.heap.size wq 43 1 A2 m2 c2 (us (digs (prodN xss))) ∧ m2 ≤ xss.length * K, fun v wq => ∃ A2 m2 c2, v = .slice A2 m2 c2 ∧ Own w.heap.size wq 43 1 A2 m2 c2 (us (digs (prodN xss))) ∧ m2 ≤ xss.length * K].getD iQ (fun _ _ => True)) (fun _ => True) 10 Try.mixed (by kernel_rfl) ?_ ?_ ?_
        · refine Vs_mono _ ?_
          intro VQ hVQ vQ wQ1 wQ2 hQ1 hQ2
          simp only [List.mem_cons, List.not_mem_nil, or_false] at hVQ
          rcases hVQ with rfl | rfl | rfl | rfl | rfl | rfl | rfl | rfl | rfl | rfl
          all_goals first
            | exact hQ1
            | (obtain ⟨A2, m2, c2, q1, q2, q3⟩ := hQ1; rcases hQ2 with hQ2 | hQ2; exact ⟨A2, m2, c2, q1, q2.ext hQ2, q3⟩; exact absurd hQ2 (by decide))
        · refine ⟨⟨rfl, ⟨rfl, trivial⟩, ?_⟩, ⟨rfl, trivial, ?_⟩, ⟨rfl, trivial, ?_⟩, ⟨rfl, trivial, ?_⟩, ⟨rfl, ⟨rfl, trivial⟩, ?_⟩, ⟨rfl, trivial, ?_⟩, ⟨rfl, trivial, ?_⟩, ⟨rfl, trivial, ?_⟩, ⟨rfl, trivial, ?_⟩, ⟨rfl, trivial, ?_⟩, trivial⟩
          · intro w22 hE
            intro R
            refine WL.move rfl rfl ?_
            exact WL.done ⟨_, rfl, rfl, rfl⟩
          · intro w23 hE
            rintro _ rfl
            intro R
            refine WL.index1 (0) Try.underlying59 Try.el23 rfl rfl (by omega) (by omega) hT rfl ?_
            exact WL.done ⟨_, rfl, rfl, rfl⟩
          · intro w24 hE
            have hE := hE rfl
            have hB := ext_trans hB hE
            have hT := hT0.ext hB
            have hN := hN0.ext hB
            rintro _ rfl
            intro R
            refine WL.load Try.underlying23 rfl rfl (Rd.at_ hT (hN.cell (0) (by omega))) rfl ?_
            exact WL.done ⟨_, rfl, ext_refl _, rfl⟩
          · intro w25 hE
            have hE := hE rfl
            have hB := ext_trans hB hE
            have hN := hN0.ext hB
            rintro _ rfl
            intro R
            refine WL.call Try.func44 rfl Try.nm44 rfl rfl (sig_c (hN.at_ (0) (by omega)).2) ?_
            rintro _ w26 ⟨rfl, hGw26⟩
            have hB := ext_trans hB hGw26
            exact WL.done ⟨_, rfl, hGw26, rfl⟩
          · intro w27 hE
            intro R
            refine WL.move rfl rfl ?_
            exact WL.done ⟨_, rfl, rfl, rfl⟩
          · intro w28 hE
            rintro _ rfl
            intro R
            refine WL.index1 (1) Try.underlying59 Try.el23 rfl rfl (by omega) (by omega) hT rfl ?_
            exact WL.done ⟨_, rfl, rfl, rfl⟩
          · intro w29 hE
            have hE := hE rfl
            have hB := ext_trans hB hE
            have hT := hT0.ext hB
            have hN := hN0.ext hB
            rintro _ rfl
            intro R
            refine WL.load Try.underlying23 rfl rfl (Rd.at_ hT (hN.cell (1) (by omega))) rfl ?_
            exact WL.done ⟨_, rfl, ext_refl _, rfl⟩
          · intro w30 hE
            have hE := hE rfl
            have hB := ext_trans hB hE
            have hN := hN0.ext hB
            rintro _ rfl
            intro R
            refine WL.call Try.func44 rfl Try.nm44 rfl rfl (sig_c (hN.at_ (1) (by omega)).2) ?_
            rintro _ w31 ⟨rfl, hGw31⟩
            have hB := ext_trans hB hGw31
            exact WL.done ⟨_, rfl, hGw31, rfl⟩
          · intro w32 hE
            have hE := hE rfl
            have hB := ext_trans hB hE
            have hN := hN0.ext hB
            rintro _ rfl
            rintro _ rfl
            have h20 := hK 0 (by omega)
            have h21 := hK 1 (by omega)
            have hs0 := sigL_le (xss.getD 0 [])
            have hs1 := sigL_le (xss.getD 1 [])
            have hl2 : xss.length = 2 := by omega
            rw [hl2] at hKK
            intro R
            refine WL.call Try.func47 rfl Try.nm47 rfl rfl (product_c (Rd.sig (hN.at_ (0) (by omega)).2) (Rd.sig (hN.at_ (1) (by omega)).2) (Lim.trim (hL (0) (by omega))) (Lim.trim (hL (1) (by omega))) (by omega) (by omega)) ?_
            rintro _ w33 ⟨A34, m35, cp36, rfl, hGw33, hO, hm37⟩
            have hO := hO.low (b' := w.heap.size) hB.size
            have hB := ext_trans hB hGw33
            have hO_l := hO.rd.ulen
            rw [nv_trimL, nv_trimL, ← prodN_two (by omega)] at hO
            rw [hl2]
            exact WL.done ⟨_, rfl, hGw33, ⟨_, _, _, rfl, hO, by omega⟩⟩
          · intro w38 hE
            rintro _ ⟨A8, m8, c8, rfl, hO8, hm8⟩
            intro R
            refine WL.assign rfl rfl ?_
            exact WL.done ⟨_, rfl, rfl, ⟨_, _, _, rfl, hO8, hm8⟩⟩
        · intro vals w39 hT hVs
          rw [if_neg (by decide)] at hT
          have hB := ext_trans hB hT
          have hv0 : vals 0 = _ := hVs 0 (by decide) (by decide)
          have hv1 : vals 1 = _ := hVs 1 (by decide) (by decide)
          have hv2 : vals 2 = _ := hVs 2 (by decide) (by decide)
          have hv3 : vals 3 = _ := hVs 3 (by decide) (by decide)
          have hv4 : vals 4 = _ := hVs 4 (by decide) (by decide)
          have hv5 : vals 5 = _ := hVs 5 (by decide) (by decide)
          have hv6 : vals 6 = _ := hVs 6 (by decide) (by decide)
          have hv7 : vals 7 = _ := hVs 7 (by decide) (by decide)
          obtain ⟨A8, m8, c8, hv8, hO8, hm8⟩ := hVs 8 (by decide) (by decide)
          obtain ⟨A9, m9, c9, hv9, hO9, hm9⟩ := hVs 9 (by decide) (by decide)
          rw [show (List.filterMap (fun i => Option.map (fun t => (t, vals i)) (dstAt _ i)) (List.range _)) = [(17, .slice A m c), (18, .pointer (some ((adOf A).add 0))), (19, .slice (sA (cells.getD 0 undef)) (sM (cells.getD 0 undef)) (sC (cells.getD 0 undef))), (20, .slice (sA (cells.getD 0 undef)) (sigL (xss.getD 0 [])) (sC (cells.getD 0 undef))), (21, .slice A m c), (22, .pointer (some ((adOf A).add 1))), (23, .slice (sA (cells.getD 1 undef)) (sM (cells.getD 1 undef)) (sC (cells.getD 1 undef))), (24, .slice (sA (cells.getD 1 undef)) (sigL (xss.getD 1 [])) (sC (cells.getD 1 undef))), (25, .slice A8 m8 c8), (2, .slice A9 m9 c9)] from by
            show [(17, vals 0), (18, vals 1), (19, vals 2), (20, vals 3), (21, vals 4), (22, vals 5), (23, vals 6), (24, vals 7), (25, vals 8), (2, vals 9)] = _
            rw [hv0, hv1, hv2, hv3, hv4, hv5, hv6, hv7, hv8, hv9]]
          refine W.ret ?_
          refine ⟨_, rfl, ?_⟩
          exact ⟨_, _, _, rfl, hB, hO9, fun _ => hm9, by omega⟩
      · refine WL.assign rfl rfl ?_
        refine WL.done ?_
        refine W.condF rfl ?_
        refine W.skip ?_
        refine W.seq ?_
        refine W.region ?_
        refine WL.move rfl rfl ?_
        refine WL.len Try.underlying59 rfl rfl ?_
        refine WL.quo (r := ((xss.length / 2 : Nat) : Int)) rfl rfl (by omega) (qi64 (a := m) (b := 2) (by omega) (by omega) (by omega) |>.trans (by rw [hml])) rfl ?_
        refine WL.assign rfl rfl ?_
        refine WL.done ?_
        refine W.seq ?_
        refine W.draw [⟨[], [0], true⟩, ⟨[], [3], true⟩, ⟨[0, 1], [], true⟩, ⟨[2], [], false⟩, ⟨[], [0], true⟩, ⟨[], [3], true⟩, ⟨[4, 5], [], true⟩, ⟨[6], [], false⟩, ⟨[3, 7], [], false⟩, ⟨[8], [], true⟩] [[(0, .slice A m c)], [(3, .int .i64 ((xss.length / 2 : Nat) : Int))], [], [], [(0, .slice A m c)], [(3, .int .i64 ((xss.length / 2 : Nat) : Int))], [], [], [], []] (fun iQ => [fun v _ => v = .slice A m c, fun v _ => v = .int .i64 ((xss.length / 2 : Nat) : Int), fun v _ => v = .slice A (xss.length / 2) c, fun v wq => ∃ A2 m2 c2, v = .slice A2 m2 c2 ∧ Own w.heap.size wq 43 1 A2 m2 c2 (us (digs (prodN (xss.take (xss.length / 2))))) ∧ m2 ≤ xss.length / 2 * K, fun v _ => v = .slice A m c, fun v _ => v = .int .i64 ((xss.length / 2 : Nat) : Int), fun v _ => v = .slice (if c = xss.length / 2 then A else A.map (·.add (xss.length / 2 * 1))) (m - (xss.length / 2)) (c - (xss.length / 2)), fun v wq => ∃ A2 m2 c2, v = .slice A2 m2 c2 ∧ Own w.heap.size wq 43 1 A2 m2 c2 (us (digs (prodN (xss.drop (xss.length / 2))))) ∧ m2 ≤ (xss.length - xss.length / 2) * K, fun v wq => ∃ A2 m2 c2, v = .slice A2 m2 c2 ∧ Own w.heap.size wq 43 1 A2 m2 c2 (us (digs (prodN xss))) ∧ m2 ≤ xss.length * K, fun v wq => ∃ A2 m2 c2, v = .slice A2 m2 c2 ∧ Own w.heap.size wq 43 1 A2 m2 c2 (us (digs (prodN xss))) ∧ m2 ≤ xss.length * K].getD iQ (fun _ _ => True)) (fun _ => True) 10 Try.mixed (by kernel_rfl) ?_ ?_ ?_
        · refine Vs_mono _ ?_
          intro VQ hVQ vQ wQ1 wQ2 hQ1 hQ2
          simp only [List.mem_cons, List.not_mem_nil, or_false] at hVQ
          rcases hVQ with rfl | rfl | rfl | rfl | rfl | rfl | rfl | rfl | rfl | rfl
          all_goals first
            | exact hQ1
            | (obtain ⟨A2, m2, c2, q1, q2, q3⟩ := hQ1; rcases hQ2 with hQ2 | hQ2; exact ⟨A2, m2, c2, q1, q2.ext hQ2, q3⟩; exact absurd hQ2 (by decide))
        · refine ⟨⟨rfl, ⟨rfl, trivial⟩, ?_⟩, ⟨rfl, ⟨rfl, trivial⟩, ?_⟩, ⟨rfl, trivial, ?_⟩, ⟨rfl, trivial, ?_⟩, ⟨rfl, ⟨rfl, trivial⟩, ?_⟩, ⟨rfl, ⟨rfl, trivial⟩, ?_⟩, ⟨rfl, trivial, ?_⟩, ⟨rfl, trivial, ?_⟩, ⟨rfl, trivial, ?_⟩, ⟨rfl, trivial, ?_⟩, trivial⟩
          · intro w40 hE
            intro R
            refine WL.move rfl rfl ?_
            exact WL.done ⟨_, rfl, rfl, rfl⟩
          · intro w41 hE
            intro R
            refine WL.move rfl rfl ?_
            exact WL.done ⟨_, rfl, rfl, rfl⟩
          · intro w42 hE
            rintro _ rfl
            rintro _ rfl
            intro R
            refine WL.slTo (xss.length / 2) Try.underlying59 Try.el23 rfl rfl (by omega) (by omega) rfl ?_
            exact WL.done ⟨_, rfl, rfl, rfl⟩
          · intro w43 hE
            have hE := hE rfl
            have hB := ext_trans hB hE
            have hT := hT0.ext hB
            have hN := hN0.ext hB
            rintro _ rfl
            have hTt := hT.take (k := xss.length / 2) (by omega)
            rw [Nat.mul_one] at hTt
            have hNt := hN.take (xss.length / 2)
            intro R
            refine WL.call Try.func15 rfl Try.nm15 rfl rfl (ih hTt hNt (hL.take _) (hK.take _) (by have := Nat.mul_le_mul_right K (show (xss.take (xss.length / 2)).length ≤ xss.length by simp; omega); omega) (by simp; omega)) ?_
            rintro _ w44 ⟨A45, m46, cp47, rfl, hGw44, hO, hmq⟩
            have hO := hO.low (b' := w.heap.size) hB.size
            have hB := ext_trans hB hGw44
            have hO_l := hO.rd.ulen
            exact WL.done ⟨_, rfl, hGw44, ⟨_, _, _, rfl, hO, by have h := hmq.1 (by simp; omega); rwa [List.length_take, Nat.min_eq_left (by omega)] at h⟩⟩
          · intro w48 hE
            intro R
            refine WL.move rfl rfl ?_
            exact WL.done ⟨_, rfl, rfl, rfl⟩
          · intro w49 hE
            intro R
            refine WL.move rfl rfl ?_
            exact WL.done ⟨_, rfl, rfl, rfl⟩
          · intro w50 hE
            rintro _ rfl
            rintro _ rfl
            intro R
            refine WL.slFrom (xss.length / 2) Try.underlying59 Try.el23 rfl rfl (by omega) (by omega) rfl ?_
            exact WL.done ⟨_, rfl, rfl, rfl⟩
          · intro w51 hE
            have hE := hE rfl
            have hB := ext_trans hB hE
            have hT := hT0.ext hB
            have hN := hN0.ext hB
            rintro _ rfl
            have hTd := hT.drop (k := xss.length / 2) (by omega)
            rw [Nat.mul_one (xss.length / 2)] at hTd
            rw [Nat.mul_one (xss.length / 2)]
            have hNd := hN.drop (xss.length / 2)
            intro R
            refine WL.call Try.func15 rfl Try.nm15 rfl rfl (ih hTd hNd (hL.drop _) (hK.drop _) (by have := Nat.mul_le_mul_right K (show (xss.drop (xss.length / 2)).length ≤ xss.length by simp); omega) (by simp; omega)) ?_
            rintro _ w52 ⟨A53, m54, cp55, rfl, hGw52, hO, hmq⟩
            have hO := hO.low (b' := w.heap.size) hB.size
            have hB := ext_trans hB hGw52
            have hO_l := hO.rd.ulen
            exact WL.done ⟨_, rfl, hGw52, ⟨_, _, _, rfl, hO, by have h := hmq.1 (by simp; omega); rwa [List.length_drop] at h⟩⟩
          · intro w56 hE
            have hE := hE rfl
            have hB := ext_trans hB hE
            rintro _ ⟨A3, m3, c3, rfl, hO3, hm3⟩
            rintro _ ⟨A7, m7, c7, rfl, hO7, hm7⟩
            have := Nat.mul_le_mul_right K (show xss.length / 2 ≤ xss.length by omega)
            have := Nat.mul_le_mul_right K (show xss.length - xss.length / 2 ≤ xss.length by omega)
            intro R
            refine WL.call Try.func47 rfl Try.nm47 rfl rfl (product_c hO3.rd hO7.rd (digs_lim _) (digs_lim _) (by omega) (by omega)) ?_
            rintro _ w57 ⟨A58, m59, cp60, rfl, hGw57, hO, hm61⟩
            have hO := hO.low (b' := w.heap.size) hB.size
            have hB := ext_trans hB hGw57
            have hO_l := hO.rd.ulen
            rw [nv_digs, nv_digs, prodN_split] at hO
            exact WL.done ⟨_, rfl, hGw57, ⟨_, _, _, rfl, hO, by have := Nat.add_mul (xss.length / 2) (xss.length - xss.length / 2) K; rw [show xss.length / 2 + (xss.length - xss.length / 2) = xss.length by omega] at this; omega⟩⟩
          · intro w62 hE
            rintro _ ⟨A8, m8, c8, rfl, hO8, hm8⟩
            intro R
            refine WL.assign rfl rfl ?_
            exact WL.done ⟨_, rfl, rfl, ⟨_, _, _, rfl, hO8, hm8⟩⟩
        · intro vals w63 hT hVs
          rw [if_neg (by decide)] at hT
          have hB := ext_trans hB hT
          have hv0 : vals 0 = _ := hVs 0 (by decide) (by decide)
          have hv1 : vals 1 = _ := hVs 1 (by decide) (by decide)
          have hv2 : vals 2 = _ := hVs 2 (by decide) (by decide)
          obtain ⟨A3, m3, c3, hv3, hO3, hm3⟩ := hVs 3 (by decide) (by decide)
          have hv4 : vals 4 = _ := hVs 4 (by decide) (by decide)
          have hv5 : vals 5 = _ := hVs 5 (by decide) (by decide)
          have hv6 : vals 6 = _ := hVs 6 (by decide) (by decide)
          obtain ⟨A7, m7, c7, hv7, hO7, hm7⟩ := hVs 7 (by decide) (by decide)
          obtain ⟨A8, m8, c8, hv8, hO8, hm8⟩ := hVs 8 (by decide) (by decide)
          obtain ⟨A9, m9, c9, hv9, hO9, hm9⟩ := hVs 9 (by decide) (by decide)
          rw [show (List.filterMap (fun i => Option.map (fun t => (t, vals i)) (dstAt _ i)) (List.range _)) = [(29, .slice A m c), (30, .int .i64 ((xss.length / 2 : Nat) : Int)), (31, .slice A (xss.length / 2) c), (32, .slice A3 m3 c3), (33, .slice A m c), (34, .int .i64 ((xss.length / 2 : Nat) : Int)), (35, .slice (if c = xss.length / 2 then A else A.map (·.add (xss.length / 2 * 1))) (m - (xss.length / 2)) (c - (xss.length / 2))), (36, .slice A7 m7 c7), (37, .slice A8 m8 c8), (2, .slice A9 m9 c9)] from by
            show [(29, vals 0), (30, vals 1), (31, vals 2), (32, vals 3), (33, vals 4), (34, vals 5), (35, vals 6), (36, vals 7), (37, vals 8), (2, vals 9)] = _
            rw [hv0, hv1, hv2, hv3, hv4, hv5, hv6, hv7, hv8, hv9]]
          refine W.ret ?_
          refine ⟨_, rfl, ?_⟩
          exact ⟨_, _, _, rfl, hB, hO9, fun _ => hm9, by omega⟩

theorem Mul_c {w : World} {B : Nat} {A : Option Addr} {m c : Nat} {cells : List Value} (hT : Rd B w 1 A m c cells) {B2 : Nat} {xss : List (List Nat)} (hN : NatsR B2 w cells xss) (hL : LimAll xss) (K : Nat) (hK : LenAll K xss) (hKK : xss.length * K + 1 ≤ 1099511627776) :
    Calls Try.prog 15 #[.slice A m c] w fun e w2 => ∃ v, e = .returned v ∧ (fun v w2 => ∃ A2 m2 c2, v = .slice A2 m2 c2 ∧ w.grownBy w2 none ∧ Own w.heap.size w2 43 1 A2 m2 c2 (us (digs (prodN xss))) ∧ (0 < xss.length → m2 ≤ xss.length * K) ∧ m2 ≤ xss.length * K + 1) v w2 := by
  induction hn : xss.length using Nat.strongRecOn generalizing w B A m c cells B2 xss with
  | _ n ih => rw [← hn]; exact Mul_step hT hN hL hK hKK (fun {_ _ _ _ _ _} hT {_ _} hN hL hK hKK hl => ih _ (hn ▸ hl) hT hN hL hK hKK rfl)

theorem Sub32_c {w : World} (x y c : Nat) {X Y Z : Int} (hX : X = x) (hY : Y = y) (hZ : Z = c) (hx : x < 4294967296) (hy : y < 4294967296) (hc : c ≤ 1) :
    Calls Try.prog 100 #[.int .u32 X, .int .u32 Y, .int .u32 Z] w fun e w2 => ∃ v, e = .returned v ∧ (fun v w2 => v = .tuple #[.int .u32 (((x + 8589934592 - y - c) % 4294967296 : Nat) : Int), .int .u32 ((if x < y + c then 1 else 0 : Nat) : Int)] ∧ w.grownBy w2 none) v w2 := by
  have hB := ext_refl w
  refine calls_of_W (vs := [.int .u32 X, .int .u32 Y, .int .u32 Z]) [6, 7] Try.func100 rfl rfl rfl rfl ?_
  refine W.seq ?_
  refine W.region ?_
  refine WL.assign rfl rfl ?_
  refine WL.assign rfl rfl ?_
  refine WL.done ?_
  refine W.seq ?_
  refine W.region ?_
  refine WL.move rfl rfl ?_
  refine WL.move rfl rfl ?_
  refine WL.sub (r := (((x + 4294967296 - y) % 4294967296 : Nat) : Int)) rfl rfl (wu32m (by omega)) rfl ?_
  refine WL.move rfl rfl ?_
  refine WL.sub (r := (((x + 8589934592 - y - c) % 4294967296 : Nat) : Int)) rfl rfl (wu32m (by omega)) rfl ?_
  refine WL.assign rfl rfl ?_
  refine WL.done ?_
  refine W.seq ?_
  refine W.region ?_
  refine WL.move rfl rfl ?_
  refine WL.compl32 (hx := rfl) (a := x) (by omega) (by omega) rfl ?_
  refine WL.move rfl rfl ?_
  refine WL.bits (r := (((4294967295 - x) &&& y : Nat) : Int)) rfl rfl (.inl rfl) (and32 (by omega) (by omega) (by omega) (by omega)) rfl ?_
  refine WL.move rfl rfl ?_
  refine WL.move rfl rfl ?_
  refine WL.bits (r := ((x ^^^ y : Nat) : Int)) rfl rfl (.inr (.inr (.inl rfl))) (xor32 (by omega) (by omega) (by omega) (by omega)) rfl ?_
  refine WL.compl32 (hx := rfl) (a := x ^^^ y) (by omega) (Nat.xor_lt_two_pow (n := 32) hx hy) rfl ?_
  refine WL.move rfl rfl ?_
  refine WL.bits (r := (((4294967295 - (x ^^^ y)) &&& ((x + 8589934592 - y - c) % 4294967296) : Nat) : Int)) rfl rfl (.inl rfl) (and32 (by omega) (by omega) (by omega) (by omega)) rfl ?_
  refine WL.bits (r := ((((4294967295 - x) &&& y) ||| ((4294967295 - (x ^^^ y)) &&& ((x + 8589934592 - y - c) % 4294967296)) : Nat) : Int)) rfl rfl (.inr (.inl rfl)) (or32 (by omega) (by omega) (by exact Nat.lt_of_le_of_lt Nat.and_le_right (by omega)) (by exact Nat.lt_of_le_of_lt Nat.and_le_right (by omega))) rfl ?_
  refine WL.shr (r := (((((4294967295 - x) &&& y) ||| ((4294967295 - (x ^^^ y)) &&& ((x + 8589934592 - y - c) % 4294967296))) / 2147483648 : Nat) : Int)) rfl rfl (by omega) (shr_nat (a := ((4294967295 - x) &&& y) ||| ((4294967295 - (x ^^^ y)) &&& ((x + 8589934592 - y - c) % 4294967296))) (s := 31) (by omega) (by omega) 32 (by omega)) rfl ?_
  refine WL.assign rfl rfl ?_
  refine WL.done ?_
  refine W.ret ?_
  refine ⟨_, rfl, ?_⟩
  rw [borrow32 hx hy hc]; exact ⟨rfl, hB⟩
end Go.Proofs.Ythfpcebcfjlkmab
