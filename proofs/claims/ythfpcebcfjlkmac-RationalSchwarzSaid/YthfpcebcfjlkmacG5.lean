/- Contracts of functions of the program, and what they lean on: W16, Lm, Cb, Draw2. -/
import Derived.Test.YthfpcebcfjlkmacG4
set_option linter.unusedSimpArgs false
set_option linter.unusedVariables false
namespace Go.Proofs.Ythfpcebcfjlkmac
open Go.RowKit
theorem wordGcd_c {w : World} (a b : Nat) {X Y : Int} (hX : X = a) (hY : Y = b) (ha : a < 18446744073709551616) (hb : b < 18446744073709551616) :
    Calls Try.prog 68 #[.int .u64 X, .int .u64 Y] w fun e w2 => ∃ v, e = .returned v ∧ (fun v w2 => v = .int .u64 ((Nat.gcd a b : Nat) : Int) ∧ w.grownBy w2 none) v w2 := by
  have hB := ext_refl w
  refine calls_of_W (vs := [.int .u64 X, .int .u64 Y]) [4] Try.func68 rfl rfl rfl rfl ?_
  refine W.seq ?_
  refine W.region ?_
  refine WL.assign rfl rfl ?_
  refine WL.done ?_
  refine W.seq ?_
  refine W.block ?_
  refine W.loop (σ := Nat × Nat) (fun s w1 => match s with | (p, q) => w.grownBy w1 none ∧ p < 18446744073709551616 ∧ q < 18446744073709551616 ∧ Nat.gcd p q = Nat.gcd a b) (fun s => match s with | (p, q) => [(0, .int .u64 ((p : Nat) : Int)), (1, .int .u64 ((q : Nat) : Int))]) (fun s => match s with | (p, q) => q) (a, b) ?_ ?_ ?_
  · exact ⟨hB, ha, hb, rfl⟩
  · exact ⟨iv (by omega), iv (by omega), trivial⟩
  · rintro ⟨p, q⟩ w11 ⟨hB, hp, hq, hg⟩
    have hm : q ≠ 0 → p % q < q := fun h => Nat.mod_lt _ (by omega)
    refine W.seq ?_
    refine W.seq ?_
    refine W.region ?_
    refine WL.move rfl rfl ?_
    refine WL.neq rfl rfl rfl (fun c12 => ?_) (fun c12 => ?_)
    · refine WL.done ?_
      refine W.condT rfl ?_
      refine W.skip ?_
      refine W.block ?_
      refine W.draw [⟨[], [1], true⟩, ⟨[], [0], true⟩, ⟨[], [1], true⟩, ⟨[1, 2], [], true⟩, ⟨[0], [], true⟩, ⟨[3], [], true⟩] [[(1, .int .u64 ((q : Nat) : Int))], [(0, .int .u64 ((p : Nat) : Int))], [(1, .int .u64 ((q : Nat) : Int))], [], [], []] (fun iQ => [fun v _ => v = .int .u64 ((q : Nat) : Int), fun v _ => v = .int .u64 ((p : Nat) : Int), fun v _ => v = .int .u64 ((q : Nat) : Int), fun v _ => v = .int .u64 ((p % q : Nat) : Int), fun v _ => v = .int .u64 ((q : Nat) : Int), fun v _ => v = .int .u64 ((p % q : Nat) : Int)].getD iQ (fun _ _ => True)) (fun _ => True) 6 Try.mixed (by kernel_rfl) ?_ ?_ ?_
      · refine Vs_mono _ ?_
        intro VQ hVQ vQ wQ1 wQ2 hQ1 hQ2
        simp only [List.mem_cons, List.not_mem_nil, or_false] at hVQ
        rcases hVQ with rfl | rfl | rfl | rfl | rfl | rfl <;> exact hQ1
      · refine ⟨⟨rfl, ⟨rfl, trivial⟩, ?_⟩, ⟨rfl, ⟨rfl, trivial⟩, ?_⟩, ⟨rfl, ⟨rfl, trivial⟩, ?_⟩, ⟨rfl, trivial, ?_⟩, ⟨rfl, trivial, ?_⟩, ⟨rfl, trivial, ?_⟩, trivial⟩
        · intro w13 hE
          intro R
          refine WL.move rfl rfl ?_
          exact WL.done ⟨_, rfl, rfl, rfl⟩
        · intro w14 hE
          intro R
          refine WL.move rfl rfl ?_
          exact WL.done ⟨_, rfl, rfl, rfl⟩
        · intro w15 hE
          intro R
          refine WL.move rfl rfl ?_
          exact WL.done ⟨_, rfl, rfl, rfl⟩
        · intro w16 hE
          rintro _ rfl
          rintro _ rfl
          intro R
          refine WL.rem (r := ((p % q : Nat) : Int)) rfl rfl (by omega) (tmod_nat (by omega) (by omega)) rfl ?_
          exact WL.done ⟨_, rfl, rfl, rfl⟩
        · intro w17 hE
          rintro _ rfl
          intro R
          refine WL.assign rfl rfl ?_
          exact WL.done ⟨_, rfl, rfl, rfl⟩
        · intro w18 hE
          rintro _ rfl
          intro R
          refine WL.assign rfl rfl ?_
          exact WL.done ⟨_, rfl, rfl, rfl⟩
      · intro vals w19 hT hVs
        rw [if_neg (by decide)] at hT
        have hB := ext_trans hB hT
        have hv0 : vals 0 = _ := hVs 0 (by decide) (by decide)
        have hv1 : vals 1 = _ := hVs 1 (by decide) (by decide)
        have hv2 : vals 2 = _ := hVs 2 (by decide) (by decide)
        have hv3 : vals 3 = _ := hVs 3 (by decide) (by decide)
        have hv4 : vals 4 = _ := hVs 4 (by decide) (by decide)
        have hv5 : vals 5 = _ := hVs 5 (by decide) (by decide)
        rw [show (List.filterMap (fun i => Option.map (fun t => (t, vals i)) (dstAt _ i)) (List.range _)) = [(7, .int .u64 ((q : Nat) : Int)), (8, .int .u64 ((p : Nat) : Int)), (9, .int .u64 ((q : Nat) : Int)), (10, .int .u64 ((p % q : Nat) : Int)), (0, .int .u64 ((q : Nat) : Int)), (1, .int .u64 ((p % q : Nat) : Int))] from by
          show [(7, vals 0), (8, vals 1), (9, vals 2), (10, vals 3), (0, vals 4), (1, vals 5)] = _
          rw [hv0, hv1, hv2, hv3, hv4, hv5]]
        refine ⟨(q, p % q), ⟨iv (by omega), iv (by omega), trivial⟩, by (dsimp only; exact Nat.mod_lt _ (by omega)), ?_⟩
        exact ⟨hB, hq, Nat.lt_of_le_of_lt (Nat.mod_le _ _) hp, by rw [← hg, Nat.gcd_comm p q, Nat.gcd_rec q p, Nat.gcd_comm]⟩
    · refine WL.done ?_
      refine W.condF rfl ?_
      refine W.exit ?_
      refine W.seq ?_
      refine W.region ?_
      refine WL.move rfl rfl ?_
      refine WL.assign rfl rfl ?_
      refine WL.done ?_
      refine W.ret ?_
      refine ⟨_, rfl, ?_⟩
      obtain rfl : q = 0 := by omega
      rw [Nat.gcd_zero_right] at hg
      exact ⟨by rw [hg], hB⟩

theorem size_c {w : World} {X : Int} (hX : -9223372036854775808 < X ∧ X ≤ 9223372036854775807) :
    Calls Try.prog 85 #[.int .i64 X] w fun e w2 => ∃ v, e = .returned v ∧ (fun v w2 => v = .int .i64 ((X.natAbs : Nat) : Int) ∧ w.grownBy w2 none) v w2 := by
  have hB := ext_refl w
  refine calls_of_W (vs := [.int .i64 X]) [2] Try.func85 rfl rfl rfl rfl ?_
  refine W.seq ?_
  refine W.region ?_
  refine WL.assign rfl rfl ?_
  refine WL.done ?_
  refine W.seq ?_
  refine W.seq ?_
  refine W.region ?_
  refine WL.move rfl rfl ?_
  refine WL.lss rfl rfl rfl (fun c11 => ?_) (fun c11 => ?_)
  · refine WL.done ?_
    refine W.condT rfl ?_
    refine W.seq ?_
    refine W.region ?_
    refine WL.move rfl rfl ?_
    refine WL.neg (r := -X) rfl (wi64 (by omega) (by omega) (by omega)) rfl ?_
    refine WL.assign rfl rfl ?_
    refine WL.done ?_
    refine W.ret ?_
    refine ⟨_, rfl, ?_⟩
    exact ⟨by congr 1; omega, hB⟩
  · refine WL.done ?_
    refine W.condF rfl ?_
    refine W.skip ?_
    refine W.seq ?_
    refine W.region ?_
    refine WL.move rfl rfl ?_
    refine WL.assign rfl rfl ?_
    refine WL.done ?_
    refine W.ret ?_
    refine ⟨_, rfl, ?_⟩
    exact ⟨by congr 1; omega, hB⟩

theorem Zero_t {w : World} {Ba : Nat} {Aa : Option Addr} {ma ca : Nat} {xa : List Nat} (ha : Rd Ba w 1 Aa ma ca (us xa)) (hLa : Lim xa) (h0 : nv xa = 0) (hs : ma ≤ 1099511627776) :
    Calls Try.prog 60 #[.slice Aa ma ca] w fun e w2 => ∃ v, e = .returned v ∧ (fun v w2 => v = .bool true ∧ w.grownBy w2 none) v w2 := by
  have ha := ha.norm
  have ha_l := ha.ulen
  have ha_x := ha.max
  simp only [maxLen] at ha_x
  have ha_c := ha.cap
  have ha0 := ha
  have htl : (trimL xa).length = sigL xa := rfl
  have hsp := @sig_pos xa
  have hsn := @sig_none xa
  have hB := ext_refl w
  refine calls_of_W (vs := [.slice Aa ma ca]) [2] Try.func60 rfl rfl rfl rfl ?_
  refine W.seq ?_
  refine W.region ?_
  refine WL.assign rfl rfl ?_
  refine WL.done ?_
  refine W.seq ?_
  refine W.region ?_
  refine WL.move rfl rfl ?_
  refine WL.call Try.func54 rfl Try.nm54 rfl rfl (rTrim_c ha (by omega)) ?_
  rintro _ w11 ⟨A12, m13, cp14, rfl, hGw11, hO15, hm16⟩
  have hO15 := hO15.low (b' := w.heap.size) hB.size
  have hB := ext_trans hB hGw11
  have hO15_l := hO15.rd.ulen
  refine WL.len Try.underlying23 rfl rfl ?_
  refine WL.eql rfl rfl rfl (fun c17 => ?_) (fun c17 => ?_)
  · refine WL.assign rfl rfl ?_
    refine WL.done ?_
    refine W.ret ?_
    refine ⟨_, rfl, ?_⟩
    exact ⟨rfl, hB⟩
  · exfalso
    omega

theorem Zero_f {w : World} {Ba : Nat} {Aa : Option Addr} {ma ca : Nat} {xa : List Nat} (ha : Rd Ba w 1 Aa ma ca (us xa)) (hLa : Lim xa) (h0 : 0 < nv xa) (hs : ma ≤ 1099511627776) :
    Calls Try.prog 60 #[.slice Aa ma ca] w fun e w2 => ∃ v, e = .returned v ∧ (fun v w2 => v = .bool false ∧ w.grownBy w2 none) v w2 := by
  have ha := ha.norm
  have ha_l := ha.ulen
  have ha_x := ha.max
  simp only [maxLen] at ha_x
  have ha_c := ha.cap
  have ha0 := ha
  have htl : (trimL xa).length = sigL xa := rfl
  have hsp := @sig_pos xa
  have hsn := @sig_none xa
  have hB := ext_refl w
  refine calls_of_W (vs := [.slice Aa ma ca]) [2] Try.func60 rfl rfl rfl rfl ?_
  refine W.seq ?_
  refine W.region ?_
  refine WL.assign rfl rfl ?_
  refine WL.done ?_
  refine W.seq ?_
  refine W.region ?_
  refine WL.move rfl rfl ?_
  refine WL.call Try.func54 rfl Try.nm54 rfl rfl (rTrim_c ha (by omega)) ?_
  rintro _ w11 ⟨A12, m13, cp14, rfl, hGw11, hO15, hm16⟩
  have hO15 := hO15.low (b' := w.heap.size) hB.size
  have hB := ext_trans hB hGw11
  have hO15_l := hO15.rd.ulen
  refine WL.len Try.underlying23 rfl rfl ?_
  refine WL.eql rfl rfl rfl (fun c17 => ?_) (fun c17 => ?_)
  · exfalso
    omega
  · refine WL.assign rfl rfl ?_
    refine WL.done ?_
    refine W.ret ?_
    refine ⟨_, rfl, ?_⟩
    exact ⟨rfl, hB⟩

theorem sh_carry {x r c : Nat} (hx : x < 4294967296) (hc : c < 2 ^ r) : (x * 2 ^ r + c) / 4294967296 < 2 ^ r := by
  rw [Nat.div_lt_iff_lt_mul (by decide)]
  have h1 : (x + 1) * 2 ^ r ≤ 4294967296 * 2 ^ r := Nat.mul_le_mul_right _ hx
  rw [Nat.add_mul, Nat.one_mul] at h1
  rw [Nat.mul_comm (2 ^ r) 4294967296]
  omega
theorem sh_pow (k : Nat) : 2 ^ k = 4294967296 ^ (k / 32) * 2 ^ (k % 32) := by
  rw [pow32, ← Nat.pow_add, Nat.div_add_mod]
theorem sh_step {zs xa : List Nat} {i k c x : Nat} (hl : zs.length = k / 32 + i) (h : nv zs + 4294967296 ^ (k / 32 + i) * c = nv (xa.take i) * 2 ^ k) (hx : xa.getD i 0 = x) :
    nv (zs ++ [(x * 2 ^ (k % 32) + c) % 4294967296]) + 4294967296 ^ (k / 32 + (i + 1)) * ((x * 2 ^ (k % 32) + c) / 4294967296) = nv (xa.take (i + 1)) * 2 ^ k := by
  have h2 := Nat.div_add_mod (x * 2 ^ (k % 32) + c) 4294967296
  rw [nv_append, nv_one, hl, nv_take_succ, hx, Nat.add_mul, ← h]
  have h3 : 4294967296 ^ i * x * 2 ^ k = 4294967296 ^ (k / 32 + i) * (x * 2 ^ (k % 32)) := by rw [sh_pow k, Nat.pow_add]; ac_rfl
  have h4 : 4294967296 ^ (k / 32 + (i + 1)) * ((x * 2 ^ (k % 32) + c) / 4294967296) = 4294967296 ^ (k / 32 + i) * (4294967296 * ((x * 2 ^ (k % 32) + c) / 4294967296)) := by
    rw [show k / 32 + (i + 1) = (k / 32 + i) + 1 by omega, Nat.pow_succ, Nat.mul_assoc]
  have h5 : 4294967296 ^ (k / 32 + i) * (4294967296 * ((x * 2 ^ (k % 32) + c) / 4294967296)) + 4294967296 ^ (k / 32 + i) * ((x * 2 ^ (k % 32) + c) % 4294967296) = 4294967296 ^ (k / 32 + i) * (x * 2 ^ (k % 32)) + 4294967296 ^ (k / 32 + i) * c := by
    rw [← Nat.mul_add, h2, Nat.mul_add]
  rw [h3, h4]
  omega

theorem shift_c {w : World} {Ba : Nat} {Aa : Option Addr} {ma ca : Nat} {xa : List Nat} (ha : Rd Ba w 1 Aa ma ca (us xa)) (hLa : Lim xa) (k : Nat) {X : Int} (hX : X = k) (hk : k ≤ 34359738368) (hs : ma ≤ 1073741824) :
    Calls Try.prog 56 #[.slice Aa ma ca, .int .i64 X] w fun e w2 => ∃ v, e = .returned v ∧ (fun v w2 => ∃ A2 m2 c2, v = .slice A2 m2 c2 ∧ w.grownBy w2 none ∧ Own w.heap.size w2 48 1 A2 m2 c2 (us (digs (nv xa * 2 ^ k))) ∧ 0 ≤ m2) v w2 := by
  have ha := ha.norm
  have ha_l := ha.ulen
  have ha_x := ha.max
  simp only [maxLen] at ha_x
  have ha_c := ha.cap
  have ha0 := ha
  have hr31 : k % 32 ≤ 31 := by omega
  have hps : 2 ^ (k % 32) ≤ 2147483648 := Nat.pow_le_pow_right (n := 2) (by decide) hr31
  have hp0 := Nat.pow_pos (n := k % 32) (show 0 < 2 by decide)
  have hB := ext_refl w
  refine calls_of_W (vs := [.slice Aa ma ca, .int .i64 X]) [4] Try.func56 rfl rfl rfl rfl ?_
  refine W.seq ?_
  refine W.region ?_
  refine WL.assign rfl rfl ?_
  refine WL.done ?_
  refine W.seq ?_
  refine W.region ?_
  refine WL.move rfl rfl ?_
  refine WL.quo (r := ((k / 32 : Nat) : Int)) rfl rfl (by omega) (qi64 (by omega) (by omega) (by omega)) rfl ?_
  refine WL.make (w.heap.size) (k / 32) Try.underlying23 Try.el48 rfl rfl (by omega) (by omega) (by simp only [maxLen]; omega) (Nat.le_of_eq rfl) rfl ?_
  rintro A11 w12 - ho hGw12
  rw [made_us] at ho
  have ho := ho.low (b' := w.heap.size) hB.size
  have hB := ext_trans hB hGw12
  have ha := ha0.ext hB
  refine WL.assign rfl rfl ?_
  refine WL.done ?_
  refine W.seq ?_
  refine W.region ?_
  refine WL.assign rfl rfl ?_
  refine WL.done ?_
  refine W.seq ?_
  refine W.seq ?_
  refine W.region ?_
  refine WL.assign rfl rfl ?_
  refine WL.done ?_
  refine W.block ?_
  refine W.loop (σ := Nat × Nat × List Nat × Option Addr × Nat) (fun s w1 => match s with | (i, c, zs, Ao, co) => w.grownBy w1 none ∧ i ≤ ma ∧ c < 2 ^ (k % 32) ∧ Lim zs ∧ zs.length = k / 32 + i ∧ nv zs + 4294967296 ^ (k / 32 + i) * c = nv (xa.take i) * 2 ^ k ∧ Own w.heap.size w1 48 1 Ao (k / 32 + i) co (us (zs))) (fun s => match s with | (i, c, zs, Ao, co) => [(0, .slice Aa ma ca), (1, .int .i64 X), (5, .slice Ao (k / 32 + i) co), (6, .int .u64 ((c : Nat) : Int)), (7, .int .i64 ((i : Nat) : Int))]) (fun s => match s with | (i, c, zs, Ao, co) => ma - i) (0, 0, List.replicate (k / 32) 0, A11, k / 32) ?_ ?_ ?_
  · exact ⟨hB, by omega, hp0, Lim.zeros _, by simp, by simp [nv_zeros], ho⟩
  · exact ⟨rfl, iv (by omega), rfl, iv (by omega), iv (by omega), trivial⟩
  · rintro ⟨i, c, zs, Ao, co⟩ w13 ⟨hB, hi, hc, hLz, hlz, heq, ho⟩
    have ha := ha0.ext hB
    have hx := hLa.getD i
    have hrm := shl_room hx hr31
    have ho_x := ho.rd.max
    simp only [maxLen] at ho_x
    have ho_c := ho.rd.cap
    refine W.seq ?_
    refine W.seq ?_
    refine W.region ?_
    refine WL.move rfl rfl ?_
    refine WL.move rfl rfl ?_
    refine WL.len Try.underlying23 rfl rfl ?_
    refine WL.lss rfl rfl rfl (fun c14 => ?_) (fun c14 => ?_)
    · refine WL.done ?_
      refine W.condT rfl ?_
      refine W.skip ?_
      refine W.seq ?_
      refine W.block ?_
      refine W.seq ?_
      refine W.region ?_
      refine WL.move rfl rfl ?_
      refine WL.move rfl rfl ?_
      refine WL.index1 (i) Try.underlying23 Try.el48 rfl rfl (by omega) (by omega) ha rfl ?_
      refine WL.load Try.underlying48 rfl rfl (Rd.at_ ha (us_at (by omega))) rfl ?_
      refine WL.conv (r := ((xa.getD i 0 : Nat) : Int)) Try.underlying48 Try.underlying61 rfl (wu64 (by omega) (by omega) (by omega)) rfl ?_
      refine WL.move rfl rfl ?_
      refine WL.rem (r := ((k % 32 : Nat) : Int)) rfl rfl (by omega) (tmod_nat (by omega) (by omega)) rfl ?_
      refine WL.shl (r := ((xa.getD i 0 * 2 ^ (k % 32) : Nat) : Int)) rfl rfl (by omega) (by rw [show IntKind.u64.bits = 64 from rfl, shl_nat (a := xa.getD i 0) (s := k % 32) (by omega) (by omega) 64 (by omega)]; exact wu64 (by omega) (by omega) (by omega)) rfl ?_
      refine WL.move rfl rfl ?_
      refine WL.add (r := (((xa.getD i 0 * 2 ^ (k % 32)) + c : Nat) : Int)) rfl rfl (wu64 (by omega) (by omega) (by omega)) rfl ?_
      refine WL.assign rfl rfl ?_
      refine WL.done ?_
      refine W.seq ?_
      refine W.region ?_
      refine WL.move rfl rfl ?_
      refine WL.move rfl rfl ?_
      refine WL.rem (r := ((((xa.getD i 0 * 2 ^ (k % 32)) + c) % 4294967296 : Nat) : Int)) rfl rfl (by omega) (tmod_nat (by omega) (by omega)) rfl ?_
      refine WL.conv (r := ((((xa.getD i 0 * 2 ^ (k % 32)) + c) % 4294967296 : Nat) : Int)) Try.underlying61 Try.underlying48 rfl (wu32 (by omega) (by omega) (by omega)) rfl ?_
      refine WL.lit1 (b := w13.heap.size) Try.underlying23 Try.el48 rfl rfl rfl rfl (by intro v hv; simp only [List.mem_cons, List.not_mem_nil, or_false] at hv; rcases hv with rfl <;> rfl) (Nat.le_refl _) rfl ?_
      rintro A15 w16 - hO17 hGw16
      have hO17 := hO17.low (b' := w.heap.size) hB.size
      have hB := ext_trans hB hGw16
      have ho := ho.ext hGw16
      change Own _ _ _ _ _ _ _ (us [((xa.getD i 0 * 2 ^ (k % 32)) + c) % 4294967296]) at hO17
      refine WL.append ((k / 32 + i) + 1) ((us (zs ++ ([((xa.getD i 0 * 2 ^ (k % 32)) + c) % 4294967296])))) Try.underlying23 Try.el48 rfl rfl ho hO17.rd (us_one _) (by simp only [maxLen]; omega) (by omega) hB.size (by omega) (us_app rfl) rfl ?_
      have hOld21 := ho
      intro A18 cp19 w20 ho hGw20 hblw20
      have hB := ext_own hB hGw20 (fun g hg => (hOld21.bl_ge g hg).1)
      refine WL.assign rfl rfl ?_
      refine WL.done ?_
      refine W.region ?_
      refine WL.move rfl rfl ?_
      refine WL.quo (r := ((((xa.getD i 0 * 2 ^ (k % 32)) + c) / 4294967296 : Nat) : Int)) rfl rfl (by omega) (qu64 (by omega) (by omega) (by omega)) rfl ?_
      refine WL.assign rfl rfl ?_
      refine WL.done ?_
      refine W.region ?_
      refine WL.move rfl rfl ?_
      refine WL.add (r := ((i + 1 : Nat) : Int)) rfl rfl (wi64 (by omega) (by omega) (by omega)) rfl ?_
      refine WL.assign rfl rfl ?_
      refine WL.done ?_
      refine ⟨(i + 1, (xa.getD i 0 * 2 ^ (k % 32) + c) / 4294967296, zs ++ [(xa.getD i 0 * 2 ^ (k % 32) + c) % 4294967296], _, _), ⟨rfl, iv (by omega), rfl, iv (by omega), iv (by omega), trivial⟩, by (dsimp only; omega), ?_⟩
      exact ⟨hB, by omega, sh_carry hx hc, hLz.append (Lim.one (by omega)), by simp [hlz]; omega, sh_step hlz heq rfl, ho⟩
    · refine WL.done ?_
      refine W.condF rfl ?_
      refine W.exit ?_
      refine W.seq ?_
      refine W.region ?_
      refine WL.move rfl rfl ?_
      refine WL.move rfl rfl ?_
      refine WL.conv (r := ((c : Nat) : Int)) Try.underlying61 Try.underlying48 rfl (wu32 (by omega) (by omega) (by omega)) rfl ?_
      refine WL.lit1 (b := w13.heap.size) Try.underlying23 Try.el48 rfl rfl rfl rfl (by intro v hv; simp only [List.mem_cons, List.not_mem_nil, or_false] at hv; rcases hv with rfl <;> rfl) (Nat.le_refl _) rfl ?_
      rintro A22 w23 - hO24 hGw23
      have hO24 := hO24.low (b' := w.heap.size) hB.size
      have hB := ext_trans hB hGw23
      have ho := ho.ext hGw23
      change Own _ _ _ _ _ _ _ (us [c]) at hO24
      refine WL.append ((k / 32 + i) + 1) ((us (zs ++ ([c])))) Try.underlying23 Try.el48 rfl rfl ho hO24.rd (us_one _) (by simp only [maxLen]; omega) (by omega) hB.size (by omega) (us_app rfl) rfl ?_
      have hOld28 := ho
      intro A25 cp26 w27 ho hGw27 hblw27
      have hB := ext_own hB hGw27 (fun g hg => (hOld28.bl_ge g hg).1)
      refine WL.call Try.func54 rfl Try.nm54 rfl rfl (rTrim_c ho.rd (by omega)) ?_
      rintro _ w29 ⟨A30, m31, cp32, rfl, hGw29, hO, hm33⟩
      have hO := hO.low (b' := w.heap.size) hB.size
      have hB := ext_trans hB hGw29
      have hO_l := hO.rd.ulen
      refine WL.assign rfl rfl ?_
      refine WL.done ?_
      refine W.ret ?_
      refine ⟨_, rfl, ?_⟩
      obtain rfl : i = ma := by omega
      rw [nv_take_all (by omega)] at heq
      rw [digs_trim (hLz.append (Lim.one (by omega))), nv_append, nv_one, hlz, heq] at hO
      exact ⟨_, _, _, rfl, hB, hO, Nat.zero_le _⟩

theorem rd_init {a b j : Nat} (hb : 0 < b) (hj : j = bitn a + 1 - bitn b) : a < b * 2 ^ j := by
  have h1 : a < 2 ^ bitn a := bitn_le.1 (Nat.le_refl _)
  have h0 : 0 < bitn b := bitn_lt.2 (by omega)
  have h2 : 2 ^ (bitn b - 1) ≤ b := bitn_lt.1 (by omega)
  have h3 : 2 ^ (bitn b - 1) * 2 ^ j ≤ b * 2 ^ j := Nat.mul_le_mul_right _ h2
  rw [← Nat.pow_add] at h3
  have h4 : 2 ^ bitn a ≤ 2 ^ (bitn b - 1 + j) := Nat.pow_le_pow_right (by decide) (by omega)
  omega
theorem rd_quo {a b q r : Nat} (hb : 0 < b) (h : a = q * b + r) : q ≤ a := by
  have := Nat.le_mul_of_pos_right q hb
  omega
theorem rd_room {b n k c : Nat} (hb : b < 4294967296 ^ n) (hk : k ≤ 32 * c) : b * 2 ^ k < 4294967296 ^ (n + c) := by
  rw [Nat.pow_add, pow32 c]
  exact Nat.lt_of_le_of_lt (Nat.mul_le_mul_left b (Nat.pow_le_pow_right (by decide) hk)) ((Nat.mul_lt_mul_right (Nat.pow_pos (by decide))).2 hb)
theorem rd_take {a b q r i : Nat} (h : a = q * b + r) (hi : b * 2 ^ i ≤ r) : a = (q + 2 ^ i) * b + (r - b * 2 ^ i) := by
  rw [Nat.add_mul, Nat.mul_comm (2 ^ i) b]
  omega
theorem rd_less {b r j : Nat} (hj : 0 < j) (h : r < b * 2 ^ j) (h2 : b * 2 ^ (j - 1) ≤ r) : r - b * 2 ^ (j - 1) < b * 2 ^ (j - 1) := by
  rw [show j = (j - 1) + 1 by omega, Nat.pow_succ, ← Nat.mul_assoc] at h
  omega

theorem rDivMod_c {w : World} {Ba : Nat} {Aa : Option Addr} {ma ca : Nat} {xa : List Nat} (ha : Rd Ba w 1 Aa ma ca (us xa)) {Bb : Nat} {Ab : Option Addr} {mb cb : Nat} {xb : List Nat} (hb : Rd Bb w 1 Ab mb cb (us xb)) (hLa : Lim xa) (hLb : Lim xb) (hpos : 0 < nv xb) (hsa : ma ≤ 67108864) (hsb : mb ≤ 67108864) :
    Calls Try.prog 31 #[.slice Aa ma ca, .slice Ab mb cb] w fun e w2 => ∃ v, e = .returned v ∧ (fun v w2 => ∃ A2 m2 c2 A3 m3 c3, v = .tuple #[.slice A2 m2 c2, .slice A3 m3 c3] ∧ w.grownBy w2 none ∧ Own w.heap.size w2 48 1 A2 m2 c2 (us (digs (nv xa / nv xb))) ∧ Own w.heap.size w2 48 1 A3 m3 c3 (us (digs (nv xa % nv xb))) ∧ 0 ≤ m2) v w2 := by
  have ha := ha.norm
  have ha_l := ha.ulen
  have ha_x := ha.max
  simp only [maxLen] at ha_x
  have ha_c := ha.cap
  have hb := hb.norm
  have hb_l := hb.ulen
  have hb_x := hb.max
  simp only [maxLen] at hb_x
  have hb_c := hb.cap
  have ha0 := ha
  have hb0 := hb
  have hbx := bitn_len hLa
  have hby := bitn_len hLb
  obtain ⟨j0, hj0⟩ : ∃ j0, j0 = bitn (nv xa) + 1 - bitn (nv xb) := ⟨_, rfl⟩
  have hinit := rd_init hpos hj0
  have hb1 : 0 < bitn (nv xb) := bitn_lt.2 (by omega)
  have hxa := nv_lt hLa
  rw [ha_l] at hxa
  have hxb := nv_lt hLb
  rw [hb_l] at hxb
  have hB := ext_refl w
  refine calls_of_W (vs := [.slice Aa ma ca, .slice Ab mb cb]) [4, 5] Try.func31 rfl rfl rfl rfl ?_
  refine W.seq ?_
  refine W.region ?_
  refine WL.assign rfl rfl ?_
  refine WL.assign rfl rfl ?_
  refine WL.done ?_
  refine W.seq ?_
  refine W.region ?_
  refine WL.move rfl rfl ?_
  refine WL.call Try.func54 rfl Try.nm54 rfl rfl (rTrim_c ha (by omega)) ?_
  rintro _ w11 ⟨A12, m13, cp14, rfl, hGw11, hr, hm15⟩
  have hr := hr.low (b' := w.heap.size) hB.size
  have hB := ext_trans hB hGw11
  have ha := ha0.ext hB
  have hb := hb0.ext hB
  have hr_l := hr.rd.ulen
  refine WL.assign rfl rfl ?_
  refine WL.done ?_
  refine W.seq ?_
  refine W.region ?_
  refine WL.move rfl rfl ?_
  refine WL.call Try.func55 rfl Try.nm55 rfl rfl (rBits_c ha hLa (by omega)) ?_
  rintro _ w16 ⟨rfl, hGw16⟩
  have hB := ext_trans hB hGw16
  have hb := hb0.ext hB
  have hr := hr.ext hGw16
  refine WL.move rfl rfl ?_
  refine WL.call Try.func55 rfl Try.nm55 rfl rfl (rBits_c hb hLb (by omega)) ?_
  rintro _ w17 ⟨rfl, hGw17⟩
  have hB := ext_trans hB hGw17
  have hb := hb0.ext hB
  have hr := hr.ext hGw17
  refine WL.sub (r := (((bitn (nv xa) : Nat) : Int) - ((bitn (nv xb) : Nat) : Int))) rfl rfl (wi64 (by omega) (by omega) (by omega)) rfl ?_
  refine WL.assign rfl rfl ?_
  refine WL.done ?_
  refine W.seq ?_
  refine W.seq ?_
  refine W.region ?_
  refine WL.move rfl rfl ?_
  refine WL.assign rfl rfl ?_
  refine WL.done ?_
  refine W.block ?_
  refine W.loop (σ := Nat × Int × Nat × Nat × Option Addr × Nat × Nat × Option Addr × Nat × Nat) (fun s w1 => match s with | (j, z, qq, rm, Aq, mq, cq, Ar, mr, cr) => w.grownBy w1 none ∧ ((0 ≤ z ∧ z = (j : Int) - 1) ∨ (z < 0 ∧ j = 0)) ∧ j ≤ bitn (nv xa) + 1 ∧ nv xa = qq * nv xb + rm ∧ rm < nv xb * 2 ^ j ∧ Own w.heap.size w1 48 1 Aq mq cq (us (digs qq)) ∧ Own w.heap.size w1 48 1 Ar mr cr (us (digs rm))) (fun s => match s with | (j, z, qq, rm, Aq, mq, cq, Ar, mr, cr) => [(1, .slice Ab mb cb), (4, .slice Aq mq cq), (5, .slice Ar mr cr), (7, .int .i64 z)]) (fun s => match s with | (j, z, qq, rm, Aq, mq, cq, Ar, mr, cr) => j) (j0, ((bitn (nv xa) : Nat) : Int) - ((bitn (nv xb) : Nat) : Int), 0, nv xa, none, 0, 0, A12, m13, cp14) ?_ ?_ ?_
  · exact ⟨hB, by omega, by omega, by omega, hinit, World.ownsRow_nil _ _ _ _, by rw [← digs_trim hLa]; exact hr⟩
  · exact ⟨rfl, rfl, rfl, iv (by omega), trivial⟩
  · rintro ⟨j, z, qq, rm, Aq, mq, cq, Ar, mr, cr⟩ w18 ⟨hB, hz, hj, heq, hlt, hq, hr⟩
    have hb := hb0.ext hB
    have hq_l := hq.rd.ulen
    have hr_l := hr.rd.ulen
    have hqa := rd_quo hpos heq
    have hra : rm ≤ nv xa := by omega
    have hql := digs_len (Nat.lt_of_le_of_lt hqa hxa)
    have hrl := digs_len (Nat.lt_of_le_of_lt hra hxa)
    refine W.seq ?_
    refine W.seq ?_
    refine W.region ?_
    refine WL.move rfl rfl ?_
    refine WL.geq rfl rfl rfl (fun c19 => ?_) (fun c19 => ?_)
    · refine WL.done ?_
      refine W.condT rfl ?_
      refine W.skip ?_
      refine W.seq ?_
      refine W.block ?_
      refine W.seq ?_
      refine W.region ?_
      refine WL.move rfl rfl ?_
      refine WL.move rfl rfl ?_
      have hjp : 0 < j := by omega
      have htl : (digs (nv xb * 2 ^ (j - 1))).length ≤ mb + (ma + 1) := digs_len (rd_room hxb (by omega))
      refine WL.call Try.func56 rfl Try.nm56 rfl rfl (shift_c hb hLb (j - 1) (by omega) (by omega) (by omega)) ?_
      rintro _ w20 ⟨A21, m22, cp23, rfl, hGw20, ht, hm24⟩
      have ht := ht.low (b' := w.heap.size) hB.size
      have hB := ext_trans hB hGw20
      have hq := hq.ext hGw20
      have hr := hr.ext hGw20
      have ht_l := ht.rd.ulen
      refine WL.assign rfl rfl ?_
      refine WL.done ?_
      refine W.seq ?_
      refine W.region ?_
      refine WL.move rfl rfl ?_
      refine WL.move rfl rfl ?_
      refine WL.call Try.func57 rfl Try.nm57 rfl rfl (rCmp_c hr.rd ht.rd (digs_lim _) (digs_lim _)) ?_
      rintro _ w25 ⟨rfl, hGw25⟩
      have hB := ext_trans hB hGw25
      have hq := hq.ext hGw25
      have hr := hr.ext hGw25
      have ht := ht.ext hGw25
      have e1 := nv_digs rm
      have e2 := nv_digs (nv xb * 2 ^ (j - 1))
      have hcc := cmpI_cases (nv (digs rm)) (nv (digs (nv xb * 2 ^ (j - 1))))
      refine WL.geq rfl rfl rfl (fun c26 => ?_) (fun c26 => ?_)
      · refine WL.done ?_
        refine W.condT rfl ?_
        refine W.seq ?_
        refine W.region ?_
        refine WL.move rfl rfl ?_
        refine WL.move rfl rfl ?_
        refine WL.call Try.func58 rfl Try.nm58 rfl rfl (rSub_c hr.rd ht.rd (digs_lim _) (digs_lim _) (by omega) (by omega)) ?_
        rintro _ w27 ⟨A28, m29, cp30, rfl, hGw27, hr2, hm31⟩
        have hr2 := hr2.low (b' := w.heap.size) hB.size
        have hB := ext_trans hB hGw27
        have hq := hq.ext hGw27
        have hr2_l := hr2.rd.ulen
        rw [nv_digs, nv_digs] at hr2
        refine WL.assign rfl rfl ?_
        refine WL.done ?_
        refine W.region ?_
        refine WL.move rfl rfl ?_
        refine WL.lit1 (b := w27.heap.size) Try.underlying23 Try.el48 rfl rfl rfl rfl (by intro v hv; simp only [List.mem_cons, List.not_mem_nil, or_false] at hv; rcases hv with rfl <;> rfl) (Nat.le_refl _) rfl ?_
        rintro A32 w33 - hO34 hGw33
        have hO34 := hO34.low (b' := w.heap.size) hB.size
        have hB := ext_trans hB hGw33
        have hq := hq.ext hGw33
        have hr2 := hr2.ext hGw33
        change Own _ _ _ _ _ _ _ (us [1]) at hO34
        refine WL.move rfl rfl ?_
        refine WL.call Try.func56 rfl Try.nm56 rfl rfl (shift_c hO34.rd (by intro x hx; simp only [List.mem_cons, List.not_mem_nil, or_false] at hx; omega) (j - 1) (by omega) (by omega) (by omega)) ?_
        rintro _ w35 ⟨A36, m37, cp38, rfl, hGw35, h1, hm39⟩
        have h1 := h1.low (b' := w.heap.size) hB.size
        have hB := ext_trans hB hGw35
        have hq := hq.ext hGw35
        have hr2 := hr2.ext hGw35
        have h1_l := h1.rd.ulen
        rw [nv_one, Nat.one_mul] at h1
        have h1_k := h1.rd.ulen
        have h1l : (digs (2 ^ (j - 1))).length ≤ mb + (ma + 1) := digs_len (Nat.lt_of_le_of_lt (Nat.le_mul_of_pos_left _ hpos) (rd_room hxb (by omega)))
        refine WL.call Try.func32 rfl Try.nm32 rfl rfl (rAdd_c hq.rd h1.rd (digs_lim _) (digs_lim _) (by omega) (by omega)) ?_
        rintro _ w40 ⟨A41, m42, cp43, rfl, hGw40, hq2, hm44⟩
        have hq2 := hq2.low (b' := w.heap.size) hB.size
        have hB := ext_trans hB hGw40
        have hr2 := hr2.ext hGw40
        have hq2_l := hq2.rd.ulen
        rw [nv_digs, nv_digs] at hq2
        refine WL.assign rfl rfl ?_
        refine WL.done ?_
        refine W.region ?_
        refine WL.move rfl rfl ?_
        refine WL.sub (r := (z - (1 : Int))) rfl rfl (wi64 (by omega) (by omega) (by omega)) rfl ?_
        refine WL.assign rfl rfl ?_
        refine WL.done ?_
        refine ⟨(j - 1, z - 1, qq + 2 ^ (j - 1), rm - nv xb * 2 ^ (j - 1), _, _, _, _, _, _), ⟨rfl, rfl, rfl, iv (by omega), trivial⟩, by (dsimp only; omega), ?_⟩
        exact ⟨hB, by omega, by omega, rd_take heq (by omega), rd_less (by omega) hlt (by omega), hq2, hr2⟩
      · refine WL.done ?_
        refine W.condF rfl ?_
        refine W.skip ?_
        refine W.region ?_
        refine WL.move rfl rfl ?_
        refine WL.sub (r := (z - (1 : Int))) rfl rfl (wi64 (by omega) (by omega) (by omega)) rfl ?_
        refine WL.assign rfl rfl ?_
        refine WL.done ?_
        refine ⟨(j - 1, z - 1, qq, rm, _, _, _, _, _, _), ⟨rfl, rfl, rfl, iv (by omega), trivial⟩, by (dsimp only; omega), ?_⟩
        exact ⟨hB, by omega, by omega, heq, by omega, hq, hr⟩
    · refine WL.done ?_
      refine W.condF rfl ?_
      refine W.exit ?_
      refine W.seq ?_
      refine W.region ?_
      refine WL.move rfl rfl ?_
      refine WL.call Try.func54 rfl Try.nm54 rfl rfl (rTrim_c hq.rd (by omega)) ?_
      rintro _ w45 ⟨A46, m47, cp48, rfl, hGw45, hQ, hm49⟩
      have hQ := hQ.low (b' := w.heap.size) hB.size
      have hB := ext_trans hB hGw45
      have hr := hr.ext hGw45
      have hQ_l := hQ.rd.ulen
      refine WL.move rfl rfl ?_
      refine WL.assign rfl rfl ?_
      refine WL.assign rfl rfl ?_
      refine WL.done ?_
      refine W.ret ?_
      refine ⟨_, rfl, ?_⟩
      obtain rfl : j = 0 := by omega
      rw [Nat.pow_zero, Nat.mul_one] at hlt
      obtain ⟨d1, d2⟩ := div_end heq hlt
      rw [digs_trim (digs_lim _), nv_digs, d1] at hQ
      rw [d2] at hr
      exact ⟨_, _, _, _, _, _, rfl, hB, hQ, hr, Nat.zero_le _⟩

theorem gcd_step (x y : Nat) : Nat.gcd y (x % y) = Nat.gcd x y := by
  have h1 := Nat.gcd_rec y x
  rw [Nat.gcd_comm x y, h1, Nat.gcd_comm]
theorem Zero_c {w : World} {Ba : Nat} {Aa : Option Addr} {ma ca : Nat} {xa : List Nat} (ha : Rd Ba w 1 Aa ma ca (us xa)) (hLa : Lim xa) (hs : ma ≤ 1099511627776) : Calls Try.prog 60 #[.slice Aa ma ca] w fun e w2 => ∃ v, e = .returned v ∧ (fun v w2 => ∃ b : Bool, v = .bool b ∧ w.grownBy w2 none ∧ (b = true → nv xa = 0) ∧ (b = false → 0 < nv xa)) v w2 := by
  rcases Nat.eq_zero_or_pos (nv xa) with h | h
  · exact (Zero_t ha hLa h hs).mono fun e w2 ⟨v, he, hv, hw⟩ => ⟨v, he, true, hv, hw, (fun _ => h), (fun h => by cases h)⟩
  · exact (Zero_f ha hLa h hs).mono fun e w2 ⟨v, he, hv, hw⟩ => ⟨v, he, false, hv, hw, (fun h => by cases h), (fun _ => h)⟩

theorem rGcd_c {w : World} {Ba : Nat} {Aa : Option Addr} {ma ca : Nat} {xa : List Nat} (ha : Rd Ba w 1 Aa ma ca (us xa)) {Bb : Nat} {Ab : Option Addr} {mb cb : Nat} {xb : List Nat} (hb : Rd Bb w 1 Ab mb cb (us xb)) (hLa : Lim xa) (hLb : Lim xb) (hsa : ma ≤ 67108864) (hsb : mb ≤ 67108864) :
    Calls Try.prog 61 #[.slice Aa ma ca, .slice Ab mb cb] w fun e w2 => ∃ v, e = .returned v ∧ (fun v w2 => ∃ A2 m2 c2, v = .slice A2 m2 c2 ∧ w.grownBy w2 none ∧ Own w.heap.size w2 48 1 A2 m2 c2 (us (digs (Nat.gcd (nv xa) (nv xb)))) ∧ 0 ≤ m2) v w2 := by
  have ha := ha.norm
  have ha_l := ha.ulen
  have ha_x := ha.max
  simp only [maxLen] at ha_x
  have ha_c := ha.cap
  have hb := hb.norm
  have hb_l := hb.ulen
  have hb_x := hb.max
  simp only [maxLen] at hb_x
  have hb_c := hb.cap
  have ha0 := ha
  have hb0 := hb
  have hB := ext_refl w
  refine calls_of_W (vs := [.slice Aa ma ca, .slice Ab mb cb]) [4] Try.func61 rfl rfl rfl rfl ?_
  refine W.seq ?_
  refine W.region ?_
  refine WL.assign rfl rfl ?_
  refine WL.done ?_
  refine W.seq ?_
  refine W.block ?_
  refine W.loop (σ := List Nat × List Nat × Option Addr × Nat × Nat × Option Addr × Nat × Nat) (fun s w1 => match s with | (xs, ys, Ax, mx, cx, Ay, my, cy) => w.grownBy w1 none ∧ Lim xs ∧ Lim ys ∧ Nat.gcd (nv xs) (nv ys) = Nat.gcd (nv xa) (nv xb) ∧ mx ≤ 67108864 ∧ my ≤ 67108864 ∧ Rd w1.heap.size w1 1 Ax mx cx (us xs) ∧ Rd w1.heap.size w1 1 Ay my cy (us ys)) (fun s => match s with | (xs, ys, Ax, mx, cx, Ay, my, cy) => [(0, .slice Ax mx cx), (1, .slice Ay my cy)]) (fun s => match s with | (xs, ys, Ax, mx, cx, Ay, my, cy) => nv ys) (xa, xb, Aa, ma, ca, Ab, mb, cb) ?_ ?_ ?_
  · exact ⟨hB, hLa, hLb, rfl, hsa, hsb, ha.norm, hb.norm⟩
  · exact ⟨rfl, rfl, trivial⟩
  · rintro ⟨xs, ys, Ax, mx, cx, Ay, my, cy⟩ w11 ⟨hB, hLx, hLy, hg, hmx, hmy, hx, hy⟩
    have hx_l := hx.ulen
    have hy_l := hy.ulen
    have hyb := nv_lt hLy
    rw [hy_l] at hyb
    refine W.seq ?_
    refine W.seq ?_
    refine W.region ?_
    refine WL.move rfl rfl ?_
    refine WL.call Try.func60 rfl Try.nm60 rfl rfl (Zero_c hy hLy (by omega)) ?_
    rintro _ w12 ⟨bz, rfl, hGw12, hz1, hz2⟩
    have hB := ext_trans hB hGw12
    have hx := hx.ext hGw12
    have hy := hy.ext hGw12
    rcases bz with _ | _
    · have hzp := hz2 rfl
      refine WL.not rfl rfl ?_
      refine WL.done ?_
      refine W.condT rfl ?_
      refine W.skip ?_
      refine W.block ?_
      refine W.seq ?_
      refine W.region ?_
      refine WL.move rfl rfl ?_
      refine WL.move rfl rfl ?_
      refine WL.call Try.func31 rfl Try.nm31 rfl rfl (rDivMod_c hx hy hLx hLy hzp (by omega) (by omega)) ?_
      rintro _ w13 ⟨A2, m2, c2, A3, m3, c3, rfl, hGw13, hdq, hdr, hm9⟩
      have hdq := hdq.low (b' := w.heap.size) hB.size
      have hdr := hdr.low (b' := w.heap.size) hB.size
      have hB := ext_trans hB hGw13
      have hy := hy.ext hGw13
      have hdq_l := hdq.rd.ulen
      have hdr_l := hdr.rd.ulen
      refine WL.move rfl rfl ?_
      refine WL.extract rfl rfl rfl ?_
      refine WL.extract rfl rfl rfl ?_
      refine WL.assign rfl rfl ?_
      refine WL.assign rfl rfl ?_
      refine WL.done ?_
      refine W.seq ?_
      refine W.region ?_
      refine WL.move rfl rfl ?_
      refine WL.assign rfl rfl ?_
      refine WL.done ?_
      refine W.region ?_
      refine WL.move rfl rfl ?_
      refine WL.assign rfl rfl ?_
      refine WL.done ?_
      refine ⟨(ys, digs (nv xs % nv ys), Ay, my, cy, _, _, _), ⟨rfl, rfl, trivial⟩, by (dsimp only; rw [nv_digs]; exact Nat.mod_lt _ hzp), ?_⟩
      have hk := hdr.rd.ulen
      have hk2 := digs_len (Nat.lt_trans (Nat.mod_lt (nv xs) hzp) hyb)
      exact ⟨hB, hLy, digs_lim _, by rw [nv_digs, gcd_step]; exact hg, hmy, by omega, hy.norm, hdr.rd.norm⟩
    · have hz0 := hz1 rfl
      refine WL.not rfl rfl ?_
      refine WL.done ?_
      refine W.condF rfl ?_
      refine W.exit ?_
      refine W.seq ?_
      refine W.region ?_
      refine WL.move rfl rfl ?_
      refine WL.call Try.func54 rfl Try.nm54 rfl rfl (rTrim_c hx (by omega)) ?_
      rintro _ w14 ⟨A15, m16, cp17, rfl, hGw14, hO, hm18⟩
      have hO := hO.low (b' := w.heap.size) hB.size
      have hB := ext_trans hB hGw14
      have hO_l := hO.rd.ulen
      refine WL.assign rfl rfl ?_
      refine WL.done ?_
      refine W.ret ?_
      refine ⟨_, rfl, ?_⟩
      rw [hz0, Nat.gcd_zero_right] at hg
      rw [digs_trim hLx, hg] at hO
      exact ⟨_, _, _, rfl, hB, hO, Nat.zero_le _⟩
end Go.Proofs.Ythfpcebcfjlkmac
set_option linter.unusedSimpArgs false
set_option linter.unusedVariables false
namespace Go.Proofs.Ythfpcebcfjlkmac
theorem lr1 (e D X Y a b u v : Int) : e * (u * (D * X + a) - v * (D * Y + b)) = D * (e * (u * X - v * Y)) + e * (u * a - v * b) := by grind
theorem lr2 (e p q r s k A B : Int) : e * (p * A - q * B) - k * (e * (s * B - r * A)) = e * ((p + k * r) * A - (q + k * s) * B) := by grind
theorem lr3 (e u v A B : Int) : e * (u * A - v * B) = -e * (v * B - u * A) := by grind
/-- What is known of the cofactors that Euclid's algorithm has led to: e p, -e q and -e r, e s; x and y are the leading digits that are left, R0 and R1 the whole numbers. -/
structure Lh (A B D : Nat) (e : Int) (p q r s x y R0 R1 : Nat) : Prop where
  sg : e = 1 ∨ e = -1
  r0 : (R0 : Int) = e * (p * A - q * B)
  r1 : (R1 : Int) = e * (s * B - r * A)
  x0 : (x : Int) = e * (p * (A / D : Nat) - q * (B / D : Nat))
  y0 : (y : Int) = e * (s * (B / D : Nat) - r * (A / D : Nat))
  hX : A / D = s * x + q * y
  rs : r ≤ s
  s1 : 1 ≤ s
  pq : p ≤ q ∨ (p = 1 ∧ q = 0 ∧ r = 0 ∧ s = 1)
  yx : y ≤ x
  g : Nat.gcd R0 R1 = Nat.gcd A B
  dn : q ≠ 0 → R0 ≤ B ∧ R1 < R0
  q31 : q < 2147483648
  s31 : s < 2147483648

theorem Lh.start {A B D : Nat} (hBA : B ≤ A) : Lh A B D 1 1 0 0 1 (A / D) (B / D) A B :=
  ⟨.inl rfl, by simp, by simp, by simp, by simp, by simp, by omega, by omega, .inr ⟨rfl, rfl, rfl, rfl⟩, Nat.div_le_div_right hBA, rfl, fun h => absurd rfl h, by omega, by omega⟩

section
variable {A B D : Nat} {e : Int} {p q r s x y R0 R1 : Nat}
theorem Lh.p31 (h : Lh A B D e p q r s x y R0 R1) : p < 2147483648 := by
  have := h.pq; have := h.q31; omega
theorem Lh.r31 (h : Lh A B D e p q r s x y R0 R1) : r < 2147483648 := by
  have := h.rs; have := h.s31; omega
/-- What the next step reckons with stays small. -/
theorem Lh.small (h : Lh A B D e p q r s x y R0 R1) (hX : A / D < 4611686018427387904) (hy : y ≠ 0) :
    x / y * s < 4611686018427387904 ∧ x / y * r < 4611686018427387904 ∧ x / y * y ≤ x ∧ x < 4611686018427387904 ∧ 1 ≤ x / y ∧ x / y < 4611686018427387904 ∧ x / y * y + x % y = x := by
  have h1 : x / y * s ≤ x * s := Nat.mul_le_mul_right s (Nat.div_le_self x y)
  have h2 : s * x ≤ A / D := by have := h.hX; omega
  have h3 : x / y * r ≤ x / y * s := Nat.mul_le_mul_left _ h.rs
  have h4 : x / y * y ≤ x := Nat.div_mul_le_self x y
  have h5 : 1 * x ≤ s * x := Nat.mul_le_mul_right x h.s1
  have h6 : x / y ≤ x := Nat.div_le_self x y
  have h7 : 1 ≤ x / y := (Nat.le_div_iff_mul_le (by omega)).2 (by have := h.yx; omega)
  have h8 := Nat.div_add_mod x y
  rw [Nat.mul_comm x s] at h1
  rw [Nat.mul_comm y] at h8
  refine ⟨by omega, by omega, h4, by omega, h7, by omega, h8⟩
theorem Lh.step (h : Lh A B D e p q r s x y R0 R1) (hX : A / D < 4611686018427387904) (hD : 0 < D) (hBA : B ≤ A) (hy : y ≠ 0) (h1 : q + x / y * s ≤ x % y) (h2 : q + x / y * s + s ≤ y - x % y) :
    Lh A B D (-e) r s (p + x / y * r) (q + x / y * s) y (x % y) R1 (R0 - x / y * R1) := by
  obtain ⟨k, hk⟩ : ∃ k, k = x / y := ⟨_, rfl⟩
  obtain ⟨t, ht⟩ : ∃ t, t = x % y := ⟨_, rfl⟩
  obtain ⟨X, hXe⟩ : ∃ X, X = A / D := ⟨_, rfl⟩
  obtain ⟨Y, hYe⟩ : ∃ Y, Y = B / D := ⟨_, rfl⟩
  obtain ⟨hs1, hs2, hs3, hs4, hs5, hs6, hs7⟩ := h.small hX hy
  obtain ⟨sg, r0, r1, x0, y0, hXX, rs, s1, pq, yx, g, dn, q31, s31⟩ := h
  rw [← hXe] at x0 y0 hXX hX
  rw [← hYe] at x0 y0
  rw [← hk, ← ht] at hs7
  rw [← hk] at hs1 hs2 hs3 hs5 hs6 h1 h2 ⊢
  rw [← ht] at h1 h2 ⊢
  have htl : t < y := by rw [ht]; exact Nat.mod_lt _ (by omega)
  obtain ⟨a, ha⟩ : ∃ a, a = A % D := ⟨_, rfl⟩
  obtain ⟨b, hb⟩ : ∃ b, b = B % D := ⟨_, rfl⟩
  have hal : a < D := by rw [ha]; exact Nat.mod_lt _ hD
  have hbl : b < D := by rw [hb]; exact Nat.mod_lt _ hD
  have hA : D * X + a = A := by rw [hXe, ha]; exact Nat.div_add_mod A D
  have hB : D * Y + b = B := by rw [hYe, hb]; exact Nat.div_add_mod B D
  -- the next cofactors
  obtain ⟨na, hna⟩ : ∃ na, na = p + k * r := ⟨_, rfl⟩
  obtain ⟨nb, hnb⟩ : ∃ nb, nb = q + k * s := ⟨_, rfl⟩
  rw [← hnb] at h1 h2 ⊢
  rw [← hna]
  have hkr : k * r ≤ k * s := Nat.mul_le_mul_left k rs
  have hks : 1 * s ≤ k * s := Nat.mul_le_mul_right s hs5
  have hnn : na ≤ nb := by
    rcases pq with h | ⟨h3, h4, h5, h6⟩
    · omega
    · subst h5; subst h6; simp at hkr; rw [hna, hnb]; simp; omega
  -- the next number
  obtain ⟨N, hN⟩ : ∃ N : Int, N = R0 - k * R1 := ⟨_, rfl⟩
  have hN1 : N = e * (na * A - nb * B) := by rw [hN, r0, r1, hna, hnb]; push_cast; exact lr2 ..
  have ht1 : (t : Int) = e * (na * X - nb * Y) := by
    have : (t : Int) = x - k * y := by have : ((k * y + t : Nat) : Int) = x := by rw [hs7]
                                       push_cast at this; omega
    rw [this, x0, y0, hna, hnb]; push_cast; exact lr2 ..
  have hAz : (A : Int) = D * X + a := by rw [← hA]; push_cast; rfl
  have hBz : (B : Int) = D * Y + b := by rw [← hB]; push_cast; rfl
  have hN2 : N = D * t + e * (na * a - nb * b) := by rw [hN1, hAz, hBz, ht1]; exact lr1 ..
  have hR2 : (R1 : Int) = D * y + e * (s * b - r * a) := by rw [r1, hAz, hBz, y0]; exact lr1 e D Y X b a s r
  -- bounds of products
  have m1 : D * nb ≤ D * t := Nat.mul_le_mul_left D h1
  have m2 : nb * b ≤ nb * (D - 1) := Nat.mul_le_mul_left nb (by omega)
  have m3 : na * a ≤ nb * (D - 1) := Nat.mul_le_mul hnn (by omega)
  have m4 : nb * (D - 1) + nb = D * nb := by rw [Nat.mul_comm D nb, ← Nat.mul_succ]; congr 1; omega
  have m5 : D * (nb + s) + D * t ≤ D * y := by rw [← Nat.mul_add]; exact Nat.mul_le_mul_left D (by omega)
  have m6 : s * b ≤ s * (D - 1) := Nat.mul_le_mul_left s (by omega)
  have m7 : r * a ≤ s * (D - 1) := Nat.mul_le_mul rs (by omega)
  have m8 : s * (D - 1) + s = D * s := by rw [Nat.mul_comm D s, ← Nat.mul_succ]; congr 1; omega
  have m9 : D * (nb + s) = D * nb + D * s := Nat.mul_add _ _ _
  have hN0 : 0 ≤ N := by
    rcases sg with e1 | e1 <;> subst e1 <;> rw [hN2] <;> (try simp only [Int.one_mul, Int.neg_mul]) <;> norm_cast <;> omega
  have hNlt : N < R1 := by
    rcases sg with e1 | e1 <;> subst e1 <;> rw [hN2, hR2] <;> (try simp only [Int.one_mul, Int.neg_mul]) <;> norm_cast <;> omega
  have hkR : k * R1 ≤ R0 := by
    have : ((k * R1 : Nat) : Int) ≤ R0 := by push_cast; omega
    omega
  have hNn : ((R0 - k * R1 : Nat) : Int) = N := by rw [Int.ofNat_sub hkR, hN]; push_cast; rfl
  have hX2 : X = nb * y + s * t := by
    rw [hXX, hnb, ← hs7, Nat.mul_add, Nat.add_mul]
    have : s * (k * y) = k * s * y := by ac_rfl
    omega
  refine ⟨by omega, ?_, ?_, ?_, ?_, ?_, hnn, by omega, .inl rs, by omega, ?_, ?_, s31, ?_⟩
  · rw [r1]; exact lr3 e s r B A
  · rw [hNn, hN1]; exact lr3 ..
  · rw [← hXe, ← hYe, y0]; exact lr3 ..
  · rw [← hXe, ← hYe, ht1]; exact lr3 ..
  · rw [← hXe]; exact hX2
  · rw [← g]
    have e1 : R0 = (R0 - k * R1) + k * R1 := by omega
    conv => rhs; rw [e1]
    rw [Nat.gcd_add_mul_right_left, Nat.gcd_comm]
  · intro _
    refine ⟨?_, by omega⟩
    rcases Nat.eq_zero_or_pos q with hq0 | hq0
    · rcases pq with h3 | ⟨h3, h4, h5, h6⟩
      · have hp0 : p = 0 := by omega
        subst hq0; subst hp0; simp at x0; omega
      · subst h3; subst h4; subst h5; subst h6
        simp at r0 r1
        rcases sg with e1 | e1 <;> subst e1 <;> omega
    · have := dn (by omega); omega
  · rcases Nat.lt_or_ge nb 2147483648 with h3 | h3
    · exact h3
    · exfalso
      have h4 : 2147483648 * 2147483648 ≤ nb * y := Nat.mul_le_mul h3 (by omega)
      omega
end
end Go.Proofs.Ythfpcebcfjlkmac
set_option linter.unusedSimpArgs false
set_option linter.unusedVariables false
namespace Go.Proofs.Ythfpcebcfjlkmac
open Go.RowKit
/-! ### the leading digits -/
theorem lead_eq {l : List Nat} (hL : Lim l) {i s : Nat} (hs : s ≤ 31) (h : nv l < 2 ^ (32 * i + s + 62)) :
    (l.getD (i + 1) 0 + 4294967296 * l.getD (i + 2) 0) * 2 ^ (32 - s) + l.getD i 0 / 2 ^ s = nv l / 2 ^ (32 * i + s) ∧ l.getD (i + 1) 0 + 4294967296 * l.getD (i + 2) 0 < 2 ^ (30 + s) := by
  have h1 := nv_split l i
  have h2 := hL.take_lt i
  have hp : 0 < 4294967296 ^ i := Nat.pow_pos (by decide)
  have h3 : nv l / 2 ^ (32 * i + s) = nv (l.drop i) / 2 ^ s := by
    rw [Nat.pow_add, ← pow32, ← Nat.div_div_eq_div_mul]
    congr 1
    rw [h1, Nat.add_mul_div_left _ _ hp, Nat.div_eq_of_lt h2, Nat.zero_add]
  have h4 : nv (l.drop i) < 2 ^ (62 + s) := by
    have h5 : 4294967296 ^ i * nv (l.drop i) < 4294967296 ^ i * 2 ^ (62 + s) := by
      rw [pow32, ← Nat.pow_add, ← pow32, show 32 * i + (62 + s) = 32 * i + s + 62 by omega]
      omega
    exact Nat.lt_of_mul_lt_mul_left h5
  have h6 : 2 ^ (62 + s) ≤ 2 ^ 93 := Nat.pow_le_pow_right (by decide) (by omega)
  have h7 := nv_drop l i
  have h8 : nv (l.drop (i + 1)) = l.getD (i + 1) 0 + 4294967296 * nv (l.drop (i + 2)) := nv_drop l (i + 1)
  have h9 : nv (l.drop (i + 2)) = l.getD (i + 2) 0 + 4294967296 * nv (l.drop (i + 3)) := nv_drop l (i + 2)
  have h10 : nv (l.drop (i + 3)) = 0 := by
    rcases Nat.eq_zero_or_pos (nv (l.drop (i + 3))) with h | h
    · exact h
    · exfalso
      have : 2 ^ 93 = 9903520314283042199192993792 := by decide
      omega
  replace h9 : nv (l.drop (i + 2)) = l.getD (i + 2) 0 := by omega
  rw [h9] at h8
  rw [h8] at h7
  obtain ⟨ab, hab⟩ : ∃ ab, ab = l.getD (i + 1) 0 + 4294967296 * l.getD (i + 2) 0 := ⟨_, rfl⟩
  rw [← hab] at h7 ⊢
  have e1 : 4294967296 = 2 ^ s * 2 ^ (32 - s) := by rw [← Nat.pow_add, show s + (32 - s) = 32 by omega]
  have hps : 0 < 2 ^ s := Nat.pow_pos (by decide)
  refine ⟨?_, ?_⟩
  · rw [h3, h7]
    have e2 : 4294967296 * ab = 2 ^ s * (ab * 2 ^ (32 - s)) := by rw [e1]; ac_rfl
    rw [e2, Nat.add_mul_div_left _ _ hps, Nat.add_comm]
  · have e3 : 2 ^ (62 + s) = 4294967296 * 2 ^ (30 + s) := by rw [show 62 + s = 32 + (30 + s) by omega, Nat.pow_add]
    omega
theorem lead_room {ab s : Nat} (hs : s ≤ 31) (h : ab < 2 ^ (30 + s)) : ab * 2 ^ (32 - s) < 4611686018427387904 := by
  have h1 : ab * 2 ^ (32 - s) < 2 ^ (30 + s) * 2 ^ (32 - s) := (Nat.mul_lt_mul_right (Nat.pow_pos (by decide))).2 h
  rw [← Nat.pow_add, show 30 + s + (32 - s) = 62 by omega] at h1
  exact h1
theorem lead_low {x s : Nat} (hs : s ≤ 31) (hx : x < 4294967296) : x / 2 ^ s < 2 ^ (32 - s) := by
  rw [Nat.div_lt_iff_lt_mul (Nat.pow_pos (by decide)), ← Nat.pow_add, show 32 - s + s = 32 by omega]
  exact hx
/-- Two numbers whose digits do not meet: their bits together are their sum. -/
theorem or_apart {P : Program} {w : World} {a b k : Nat} (hb : b < 2 ^ k) (hm : a * 2 ^ k + b < 18446744073709551616) :
    (Op.intBits .or .u64 ((a * 2 ^ k : Nat) : Int) ((b : Nat) : Int)).run P w = .ok (.int .u64 ((a * 2 ^ k + b : Nat) : Int)) w := by
  have h0 : a * 2 ^ k ||| b = a * 2 ^ k + b := by rw [Nat.mul_comm, ← Nat.two_pow_add_eq_or_of_lt hb]
  generalize a * 2 ^ k = c at *
  have e1 : (BitVec.ofInt 64 ((c : Nat) : Int) ||| BitVec.ofInt 64 (b : Int)).toNat = c + b := by
    rw [BitVec.ofInt_natCast, BitVec.ofInt_natCast, BitVec.toNat_or, BitVec.toNat_ofNat, BitVec.toNat_ofNat, Nat.mod_eq_of_lt (by omega), Nat.mod_eq_of_lt (by omega), h0]
  have e2 : IntKind.u64.wrap ((c + b : Nat) : Int) = ((c + b : Nat) : Int) := wu64 (by omega) (by omega) rfl
  show Result.ok (Value.int .u64 (IntKind.u64.wrap ((BitVec.ofInt 64 ((c : Nat) : Int) ||| BitVec.ofInt 64 (b : Int)).toNat : Int))) w = _
  rw [e1, e2]
/-! ### combine -/
theorem cmb_step {zs : List Nat} {i : Nat} {c s T u : Int} (hi : i < zs.length) (h0 : zs.getD i 0 = 0) (h : (nv zs : Int) + 4294967296 ^ i * c = T) (hs : s = c + u) :
    (nv (zs.set i (s % 4294967296).toNat) : Int) + 4294967296 ^ (i + 1) * (s / 4294967296) = T + 4294967296 ^ i * u := by
  have h1 := nv_set (l := zs) (k := i) (s % 4294967296).toNat hi
  rw [h0, Nat.mul_zero, Nat.add_zero] at h1
  have h2 : (((s % 4294967296).toNat : Nat) : Int) = s % 4294967296 := Int.toNat_of_nonneg (Int.emod_nonneg _ (by decide))
  have h3 := Int.emod_add_mul_ediv s 4294967296
  rw [h1, Int.natCast_add, Int.natCast_mul, Int.natCast_pow, h2, ← h]
  rw [show ((4294967296 : Nat) : Int) = 4294967296 from rfl]
  have h4 : (4294967296 : Int) ^ (i + 1) = 4294967296 ^ i * 4294967296 := Int.pow_succ ..
  rw [h4]
  generalize (4294967296 : Int) ^ i = Q at *
  have h5 : Q * 4294967296 * (s / 4294967296) = Q * (4294967296 * (s / 4294967296)) := Int.mul_assoc ..
  rw [h5, Int.add_assoc, ← Int.mul_add, h3, hs, Int.mul_add]
  omega
/-- Cofactors of unlike signs. -/
def Un (a b : Int) : Prop := (0 ≤ a ∧ a ≤ 2147483647 ∧ b ≤ 0 ∧ -2147483647 ≤ b) ∨ (0 ≤ b ∧ b ≤ 2147483647 ∧ a ≤ 0 ∧ -2147483647 ≤ a)
theorem mul_pos_room {x : Nat} {a : Int} (hx : x < 4294967296) (h0 : 0 ≤ a) (h1 : a ≤ 2147483647) : 0 ≤ (x : Int) * a ∧ (x : Int) * a ≤ 9223372030412324865 := by
  refine ⟨Int.mul_nonneg (by omega) h0, ?_⟩
  have h2 : (x : Int) * a ≤ 4294967295 * a := Int.mul_le_mul_of_nonneg_right (by omega) h0
  omega
theorem mul_neg_room {x : Nat} {a : Int} (hx : x < 4294967296) (h0 : a ≤ 0) (h1 : -2147483647 ≤ a) : (x : Int) * a ≤ 0 ∧ -9223372030412324865 ≤ (x : Int) * a := by
  have := mul_pos_room (x := x) (a := -a) hx (by omega) (by omega)
  rw [Int.mul_neg] at this
  omega
theorem un_room {x y : Nat} {a b : Int} (hx : x < 4294967296) (hy : y < 4294967296) (h : Un a b) :
    (-9223372030412324865 ≤ (x : Int) * a ∧ (x : Int) * a ≤ 9223372030412324865) ∧ (-9223372030412324865 ≤ (y : Int) * b ∧ (y : Int) * b ≤ 9223372030412324865) ∧ (-9223372030412324865 ≤ (x : Int) * a + (y : Int) * b ∧ (x : Int) * a + (y : Int) * b ≤ 9223372030412324865) := by
  rcases h with ⟨h1, h2, h3, h4⟩ | ⟨h1, h2, h3, h4⟩
  · have := mul_pos_room hx h1 h2; have := mul_neg_room hy h3 h4; omega
  · have := mul_pos_room hy h1 h2; have := mul_neg_room hx h3 h4; omega
theorem cmb_end {z M : Nat} {c R : Int} (h : (z : Int) + M * c = R) (hz : z < M) (h0 : 0 ≤ R) (hR : R < M) : (z : Int) = R := by
  have hM : (0 : Int) < M := by omega
  have hc : c = 0 := by
    rcases Int.lt_trichotomy c 0 with h1 | h1 | h1
    · have : (M : Int) * c ≤ M * (-1) := Int.mul_le_mul_of_nonneg_left (by omega) (by omega)
      omega
    · exact h1
    · have : (M : Int) * 1 ≤ M * c := Int.mul_le_mul_of_nonneg_left (by omega) (by omega)
      omega
  subst hc; omega
/-- What the cofactors are. -/
theorem Lh.un0 {A B D : Nat} {e : Int} {p q r s x y R0 R1 : Nat} (h : Lh A B D e p q r s x y R0 R1) : Un (e * p) (-(e * q)) := by
  have h1 := h.p31; have h2 := h.q31
  rcases h.sg with e1 | e1 <;> subst e1 <;> unfold Un <;> omega
theorem Lh.un1 {A B D : Nat} {e : Int} {p q r s x y R0 R1 : Nat} (h : Lh A B D e p q r s x y R0 R1) : Un (-(e * r)) (e * s) := by
  have h1 := h.r31; have h2 := h.s31
  rcases h.sg with e1 | e1 <;> subst e1 <;> unfold Un <;> omega
end Go.Proofs.Ythfpcebcfjlkmac
set_option linter.unusedSimpArgs false
set_option linter.unusedVariables false
namespace Go.Proofs.Ythfpcebcfjlkmac
open Go.RowKit
/-- All that the operations of a list wait for, some steps back. -/
def reach (l : List Oper) : Nat → List Nat → List Nat
  | 0, js => js
  | f + 1, js => reach l f ((List.range l.length).filter fun j => js.contains j || js.any fun k => (anyOn l k).contains j)
theorem reach_all {l : List Oper} {p : Nat → Prop} (hcl : ∀ k, p k → ∀ j ∈ anyOn l k, p j) : ∀ (f : Nat) (js : List Nat), (∀ j ∈ js, p j) → ∀ j ∈ reach l f js, p j
  | 0, _, h => h
  | f + 1, js, h => reach_all hcl f _ fun j hj => by
    simp only [List.mem_filter, Bool.or_eq_true, List.contains_iff_mem, List.any_eq_true] at hj
    rcases hj.2 with hj | ⟨k, hk, hj⟩
    · exact h j hj
    · exact hcl k (h k hk) j hj
/-- A region of which all operations from m on wait for all that stand ahead of m. -/
def tailB (n : Nat) (l : List Oper) (ps : List Plan) (m : Nat) : Bool :=
  ps.length == m && Nat.ble m l.length && (List.range l.length).all (fun i => (anyOn l i).all (fun j => Nat.blt j i)) &&
    (List.range l.length).all (fun i => Nat.blt i m || (List.range m).all (fun j => (reach l 6 (anyOn l i)).contains j)) && (List.range m).all fun i =>
    (match ps[i]? with
     | none => false
     | some p => p.on.all (fun j => (anyOn l i).contains j) && p.slots.all (fun t => (List.range m).all fun k => k == i || dstAt l k != some t || (anyOn l k).contains i)) &&
    (match dstAt l i with
     | none => false
     | some d => Nat.blt d n && (List.range m).all fun k => k == i || dstAt l k != some d)
/-! ### all orders, one by one -/
/-- What is left of a region, in whatever order, when those in 'listed' have been carried out. -/
structure WA (P : Program) (n : Nat) (l : List Oper) (N : Post) (fuel : Nat) (listed : List Bool) (L : Fr) (w : World) : Prop where
  out : ∀ a, Has n a L → ∀ B, wpAny P .any l.toArray (fin n N B) fuel listed.toArray a w
theorem WA.done {P : Program} {n : Nat} {l : List Oper} {N : Post} {listed : List Bool} {L : Fr} {w : World} (hr : Region.ready .any l.toArray listed.toArray = []) (h : N L w) : WA P n l N 0 listed L w :=
  ⟨fun a ha B => ⟨hr, L, ha, h⟩⟩
theorem WA.step {P : Program} {n : Nat} {l : List Oper} {N : Post} {fuel : Nat} {listed : List Bool} {L : Fr} {w : World} (r : List Nat) (hr : Region.ready .any l.toArray listed.toArray = r) (hne : r.isEmpty = false)
    (h : ∀ i ∈ r, ∃ o, l[i]? = some o ∧ WL P n l.toArray [o] (fun L' w' => WA P n l N fuel (listed.set i true) L' w') L w) : WA P n l N (fuel + 1) listed L w := by
  refine ⟨fun a ha B => ⟨fun e => ?_, fun i hi => ?_⟩⟩
  · rw [hr] at e; rw [e] at hne; cases hne
  · rw [hr] at hi
    obtain ⟨o, ho, hW⟩ := h i hi
    have hW2 := hW.out a ha B
    have hend : ∀ a' w', wpList P l.toArray (fin n (fun L' w' => WA P n l N fuel (listed.set i true) L' w') B) [] a' w' → wpAny P .any l.toArray (fin n N B) fuel (listed.toArray.setIfInBounds i true) a' w' := fun a' w' hq => by
      obtain ⟨L', hL', hq⟩ := hq
      have := hq.out a' hL' B
      simpa using this
    unfold wpOp
    simp only [List.getElem?_toArray, ho]
    simp only [wpList] at hW2
    by_cases hwant : Region.wanted o (yielded l.toArray a.tmps) = true
    · rw [if_pos hwant] at hW2
      simp only [hwant, if_true]
      rcases hW2 with hW2 | hW2
      · refine .inl (oper_wp_mono hend (fun e a w hne h => ?_) hW2)
        cases e <;> first | exact absurd rfl hne | exact h
      · refine .inr ⟨hW2.1, ?_⟩
        obtain ⟨a1, w1, h1⟩ := hW2.2
        exact ⟨a1, w1, h1⟩
    · rw [if_neg hwant] at hW2
      simp only [hwant, if_false, Bool.false_eq_true]
      exact hend _ _ hW2
theorem W.drawA {P : Program} {n id : Nat} {l : List Oper} {N : Post} {B : BPost} {L : Fr} {w0 : World} (hm : P.follows .mixedOrders = true)
    (h : ∀ w, w0.grownBy w none → w.heap = w0.heap → WA P n l N l.length (List.replicate l.length false) L w) : W P n (.region id l.toArray true) N B L w0 := by
  refine ⟨fun a ha => wp_region_any hm ?_⟩
  have := (h { w0 with drawn := w0.drawn + 1 } ⟨rfl, rfl, rfl, Nat.le_refl _, fun _ _ _ => rfl⟩ rfl).out a ha B
  simpa using this
theorem W.drawT {P : Program} {n id : Nat} {l : List Oper} {N : Post} {B : BPost} {L : Fr} {w0 : World} (m : Nat) (ps : List Plan) (bs : List Fr) (V : Nat → Value → World → Prop)
    (hm : P.follows .mixedOrders = true) (hB : tailB n l ps m = true)
    (hV : ∀ j v w1 w2, V j v w1 → w1.grownBy w2 none → V j v w2)
    (hobs : obs P n l V (fun _ => True) w0 L (l.length + 1) 0 (l.take m) ps bs)
    (hN : ∀ (vals : Nat → Value) w', w0.grownBy w' none → (∀ i, i < m → V i (vals i) w') →
      WA P n l N (l.length - m) (List.replicate m true ++ List.replicate (l.length - m) false) ((((List.range m).filterMap fun i => (dstAt l i).map fun t => (t, vals i))) ++ L) w') : W P n (.region id l.toArray true) N B L w0 := by
  simp only [tailB, Bool.and_eq_true, Bool.or_eq_true, List.all_eq_true, List.mem_range, beq_iff_eq, List.contains_iff_mem] at hB
  obtain ⟨⟨⟨⟨hlen, hlm0⟩, hlt0⟩, htail⟩, hB⟩ := hB
  have hlm : m ≤ l.length := by simpa [Nat.ble_eq] using hlm0
  refine ⟨fun a ha => wp_region_any hm ?_⟩
  have hon_lt : ∀ k, k < l.length → ∀ j ∈ anyOn l k, j < k := fun k hk j hj => by simpa [Nat.blt_eq] using hlt0 k hk j hj
  have key : ∀ (fuel : Nat) (listed : Array Bool) (vals : Nat → Value) (a : Act) (w : World), listed.size = l.length → (listed.toList.filter (!·)).length = fuel + (l.length - m) → (∀ k, listed.getD k false = true → k < m) →
      DInv n l ps V (fun _ => True) w0 L (l.length + 1) (fun k => listed.getD k false) vals a w → wpAny P .any l.toArray (fin n N B) (fuel + (l.length - m)) listed a w := by
    intro fuel
    induction fuel with
    | zero =>
      intro listed vals a w hsz hf hnm I
      have hall : ∀ k, k < m → listed.getD k false = true := fun k hk => by
        cases hb : listed.getD k false with
        | true => rfl
        | false =>
          exfalso
          have hcnt : ∀ (x : List Bool) (m : Nat), m ≤ x.length → (∀ j, m ≤ j → j < x.length → x[j]? = some false) → (x.length - m) + ((x.take m).filter (!·)).length = (x.filter (!·)).length := by
            intro x m hmx hfalse
            have h1 : x = x.take m ++ x.drop m := (List.take_append_drop m x).symm
            have h2 : (x.drop m).filter (!·) = x.drop m := by
              rw [List.filter_eq_self]
              intro b hb
              obtain ⟨j, hj, rfl⟩ := List.mem_iff_getElem.1 hb
              have := hfalse (m + j) (by omega) (by simp at hj; omega)
              rw [List.getElem_drop]
              rw [List.getElem?_eq_getElem (by simp at hj; omega)] at this
              simpa using this
            conv => rhs; rw [h1]
            rw [List.filter_append, List.length_append, h2, List.length_drop]
            omega
          have hx := hcnt listed.toList m (by simp; omega) (fun j h1 h2 => by
            have hj : j < listed.size := by simpa using h2
            cases hbj : listed.getD j false with
            | true => have := hnm j hbj; omega
            | false =>
              simp [Array.getD_eq_getD_getElem?, hj] at hbj
              simp [hj, hbj])
          have hsz2 : listed.toList.length = l.length := by simpa using hsz
          have hzero : ((listed.toList.take m).filter (!·)).length = 0 := by omega
          have hz := filter_zero hzero k (by simp; omega)
          rw [List.getElem?_take, if_pos hk] at hz
          have hk2 : k < listed.size := by omega
          simp [Array.getD_eq_getD_getElem?, hk2] at hb
          simp [hk2, hb] at hz
      have hlist : listed = (List.replicate m true ++ List.replicate (l.length - m) false).toArray := by
        apply Array.ext
        · simp [hsz]; omega
        · intro k h1 h2
          have hk : k < l.length := by omega
          rcases Nat.lt_or_ge k m with h | h
          · have := hall k h
            simp [Array.getD_eq_getD_getElem?, h1] at this
            simp [this, List.getElem_append, h]
          · have hb : listed.getD k false = false := by
              cases hb : listed.getD k false with
              | false => rfl
              | true => have := hnm k hb; omega
            simp [Array.getD_eq_getD_getElem?, h1] at hb
            simp [hb, List.getElem_append, show ¬ k < m by omega]
      have hw := I.wd (by simp [Array.getD_eq_getD_getElem?, show ¬ l.length + 1 < listed.size by omega])
      have hvs : ∀ j, j < m → V j (vals j) w := fun j hj => I.vs j (hall j hj) (by omega)
      have hW := hN vals w hw hvs
      have hHas : Has n a ((((List.range m).filterMap fun i => (dstAt l i).map fun t => (t, vals i))) ++ L) := by
        refine ⟨I.nd, I.sz, fun t v hv => ?_⟩
        rw [lk_append] at hv
        cases hc : lk ((List.range m).filterMap fun i => (dstAt l i).map fun t => (t, vals i)) t with
        | some u =>
          rw [hc] at hv
          cases hv
          have := lk_mem hc
          simp only [List.mem_filterMap, List.mem_range, Option.map_eq_some_iff] at this
          obtain ⟨k, hk, t', ht', he⟩ := this
          cases he
          exact I.new k t (hall k hk) ht'
        | none =>
          rw [hc] at hv
          refine I.old t v hv fun k hk hd => ?_
          have hm2 : (t, vals k) ∈ (List.range m).filterMap fun i => (dstAt l i).map fun t => (t, vals i) := by
            simp only [List.mem_filterMap, List.mem_range, Option.map_eq_some_iff]
            exact ⟨k, hnm k hk, t, hd, rfl⟩
          obtain ⟨u, hu⟩ := lk_of_mem hm2
          rw [hc] at hu; cases hu
      rw [hlist, Nat.zero_add]
      exact hW.out a hHas B
    | succ fuel ih =>
      intro listed vals a w hsz hf hnm I
      rw [show fuel + 1 + (l.length - m) = (fuel + (l.length - m)) + 1 by omega] at hf ⊢
      have hlist : ∀ k, listed.getD k true = false → k < l.length ∧ listed.getD k false = false := fun k hk => by
        rcases Nat.lt_or_ge k listed.size with h | h
        · simp [Array.getD_eq_getD_getElem?, h] at hk ⊢
          exact ⟨by omega, hk⟩
        · simp [Array.getD_eq_getD_getElem?, Array.getElem?_eq_none h] at hk
      refine ⟨?_, ?_⟩
      · intro hr
        -- the first that has not come up yet is ready
        exfalso
        have hex : ∃ k, k < l.length ∧ listed.getD k false = false := by
          by_cases hc : ∃ k, k < l.length ∧ listed.getD k false = false
          · exact hc
          · have hfe : listed.toList.filter (!·) = [] := by
              rw [List.filter_eq_nil_iff]
              intro b hb
              obtain ⟨k, hk, rfl⟩ := List.mem_iff_getElem.1 hb
              have hk' : k < listed.size := by simpa using hk
              have : ¬ listed.getD k false = false := fun h => hc ⟨k, by omega, h⟩
              simp [Array.getD_eq_getD_getElem?, hk'] at this
              simp [this]
            rw [hfe] at hf; simp at hf
        have hmin : ∀ m, (∃ k, k ≤ m ∧ k < l.length ∧ listed.getD k false = false) → ∃ k, k < l.length ∧ listed.getD k false = false ∧ ∀ j, j < k → listed.getD j false = true := by
          intro m
          induction m with
          | zero => rintro ⟨k, hk, h1, h2⟩; exact ⟨k, h1, h2, fun j hj => by omega⟩
          | succ m ihm =>
            rintro ⟨k, hk, h1, h2⟩
            by_cases hc : ∃ j, j ≤ m ∧ j < l.length ∧ listed.getD j false = false
            · exact ihm hc
            · refine ⟨k, h1, h2, fun j hj => ?_⟩
              cases hb : listed.getD j false with
              | true => rfl
              | false => exact absurd ⟨j, by omega, by omega, hb⟩ hc
        obtain ⟨k0, hk0, hk0'⟩ := hex
        obtain ⟨k, h1, h2, h3⟩ := hmin k0 ⟨k0, Nat.le_refl _, hk0, hk0'⟩
        have hin : k ∈ Region.ready .any l.toArray listed := by
          refine mem_ready.2 ⟨?_, l[k], by simp [h1], fun e he hb => ?_⟩
          · have : k < listed.size := by omega
            simp [Array.getD_eq_getD_getElem?, this] at h2 ⊢
            exact h2
          · have hon : e.on ∈ anyOn l k := by
              simp only [anyOn, List.getElem?_eq_getElem h1, List.mem_map, List.mem_filter]
              exact ⟨e, ⟨by simpa using he, hb⟩, rfl⟩
            exact h3 e.on (hon_lt k h1 _ hon)
        rw [hr] at hin; cases hin
      · intro i hi
        obtain ⟨h1, o, ho, hpre⟩ := mem_ready.1 hi
        obtain ⟨hil0, hun⟩ := hlist i h1
        have ho' : l[i]? = some o := by simpa using ho
        have hpre' : ∀ j ∈ anyOn l i, listed.getD j false = true := fun j hj => by
          simp only [anyOn, ho', List.mem_map, List.mem_filter] at hj
          obtain ⟨e, ⟨he, hb⟩, rfl⟩ := hj
          exact hpre e (by simpa using he) hb
        have hil : i < m := by
          rcases Nat.lt_or_ge i m with h | h
          · exact h
          · exfalso
            have hall : ∀ k, k < m → listed.getD k false = true := fun k hk => by
              rcases htail i hil0 with h2 | h2
              · simp [Nat.blt_eq] at h2; omega
              · exact reach_all (p := fun k => listed.getD k false = true) I.cl 6 (anyOn l i) hpre' k (h2 k hk)
            have hcnt : ∀ (x : List Bool) (m : Nat), (∀ j, j < m → x[j]? = some true) → (x.filter (!·)).length ≤ x.length - m := by
              intro x m
              induction m generalizing x with
              | zero => intro _; exact List.length_filter_le _ _
              | succ m ih =>
                intro h
                cases x with
                | nil => simp
                | cons b x =>
                  have hb := h 0 (by omega)
                  simp at hb
                  subst hb
                  have := ih x (fun j hj => by have := h (j + 1) (by omega); simpa using this)
                  simpa using this
            have := hcnt listed.toList m (fun j hj => by
              have h3 := hall j hj
              have hj2 : j < listed.size := by omega
              simp [Array.getD_eq_getD_getElem?, hj2] at h3
              simp [hj2, h3])
            have hsz2 : listed.toList.length = l.length := by simpa using hsz
            omega
        obtain ⟨hp, hd⟩ := hB i hil
        have hpi : i < ps.length := by omega
        rw [List.getElem?_eq_getElem hpi] at hp
        generalize hpe : ps[i] = p at hp
        simp only [Bool.and_eq_true, List.all_eq_true, Bool.or_eq_true, List.mem_range, beq_iff_eq, bne_iff_ne, ne_eq, List.contains_iff_mem] at hp
        obtain ⟨hon, hsl⟩ := hp
        obtain ⟨b, hbs, hsub, hob⟩ := obs_at (l.take m) ps bs 0 hobs i o p (by rw [List.getElem?_take, if_pos hil]; exact ho') (by rw [List.getElem?_eq_getElem hpi, hpe])
        rw [Nat.zero_add] at hob
        have hw0 : p.pure = false → w0.grownBy w none := fun _ => I.wd (by
          cases hb : listed.getD (l.length + 1) false with
          | false => rfl
          | true => have := I.lt _ hb; omega)
        have hT := told_at vals p.on b (hob w hw0) (fun j hj => I.vs j (hpre' j (hon j hj)) (by have := hon_lt i hil0 j (hon j hj); omega))
        generalize hF : (List.map (fun j => ((dstAt l j).getD 0, vals j)) p.on).reverse ++ b = F at hT
        have hdst : ∀ j, j < m → ∃ d, dstAt l j = some d ∧ d < n := fun j hj => by
          have := (hB j hj).2
          cases hd : dstAt l j with
          | none => rw [hd] at this; simp at this
          | some d => rw [hd] at this; simp only [Bool.and_eq_true] at this; exact ⟨d, rfl, by simpa [Nat.blt_eq] using this.1⟩
        have hHF : Has n a (F ++ (List.range n).map fun t => (t, a.tmps.getD t undef)) := by
          refine ⟨I.nd, I.sz, fun t v hv => ?_⟩
          rw [lk_append] at hv
          cases hc : lk F t with
          | some u =>
            rw [hc] at hv; cases hv
            have hm := lk_mem hc
            rw [← hF] at hm
            rcases List.mem_append.1 hm with hm | hm
            · simp only [List.mem_reverse, List.mem_map] at hm
              obtain ⟨j, hj, he⟩ := hm
              cases he
              obtain ⟨d, hd', _⟩ := hdst j (hnm j (hpre' j (hon j hj)))
              rw [hd']
              exact I.new j d (hpre' j (hon j hj)) hd'
            · have hL := sub_at hsub hm
              have hts : t ∈ p.slots := by rw [← hbs]; exact List.mem_map.2 ⟨_, hm, rfl⟩
              refine I.old t v hL fun k hk hdk => ?_
              rcases hsl t hts k (hnm k hk) with (h | h) | h
              · subst h; rw [hun] at hk; cases hk
              · exact h hdk
              · have := I.cl k hk i h; rw [hun] at this; cases this
          | none =>
            rw [hc] at hv
            have hm := lk_mem hv
            simp only [List.mem_map, List.mem_range] at hm
            obtain ⟨t', ht', he⟩ := hm
            cases he
            have : t < a.tmps.size := by rw [I.sz]; exact ht'
            simp [Array.getD_eq_getD_getElem?, this]
        have hW := (hT ((List.range n).map fun t => (t, a.tmps.getD t undef))).out a hHF (fun _ _ _ => False)
        have hne1 : i ≠ l.length + 1 := by omega
        have fin' : ∀ a' w', wpList P l.toArray (fin n (fun L' w' => if i = l.length + 1 then L' = F ++ (List.range n).map (fun t => (t, a.tmps.getD t undef)) ∧ True else ∃ u, L' = ((dstAt l i).getD 0, u) :: (F ++ (List.range n).map fun t => (t, a.tmps.getD t undef)) ∧ (if p.pure then w' = w else w.grownBy w' none) ∧ V i u w') (fun _ _ _ => False)) [] a' w' →
            wpAny P .any l.toArray (fin n N B) (fuel + (l.length - m)) (listed.setIfInBounds i true) a' w' := by
          intro a' w' hq
          obtain ⟨L', hL', hq⟩ := hq
          rw [if_neg hne1] at hq
          have hisz : i < listed.size := by omega
          have hset : ∀ k, (listed.setIfInBounds i true).getD k false = true → k = i ∨ listed.getD k false = true := fun k hk => by
            rw [getD_set _ _ _ hisz] at hk
            simp only [Bool.or_eq_true, decide_eq_true_eq] at hk
            exact hk.imp Eq.symm (fun h => h)
          have hset' : ∀ k, k = i ∨ listed.getD k false = true → (listed.setIfInBounds i true).getD k false = true := fun k hk => by
            rw [getD_set _ _ _ hisz]
            simp only [Bool.or_eq_true, decide_eq_true_eq]
            exact hk.imp Eq.symm (fun h => h)
          have hcount : ((listed.setIfInBounds i true).toList.filter (!·)).length = fuel + (l.length - m) := by
            have hg : listed.toList[i]? = some false := by
              simp [Array.getD_eq_getD_getElem?, hisz] at hun
              simp [hisz, hun]
            have := filter_set listed.toList i hg
            rw [Array.toList_setIfInBounds]
            omega
          have hm0' : ∀ k, (listed.setIfInBounds i true).getD k false = true → k < m := fun k hk => by
            rcases hset k hk with rfl | h
            · exact hil
            · exact hnm k h
          have hcl : ∀ k, (listed.setIfInBounds i true).getD k false = true → ∀ j ∈ anyOn l k, (listed.setIfInBounds i true).getD j false = true := fun k hk j hj => by
            rcases hset k hk with rfl | h
            · exact hset' j (.inr (hpre' j hj))
            · exact hset' j (.inr (I.cl k h j hj))
          have hlt : ∀ k, (listed.setIfInBounds i true).getD k false = true → k < l.length := fun k hk => by
            rcases hset k hk with rfl | h
            · exact hil0
            · exact I.lt k h
          have hsome : ∀ t, t < n → ∃ v, lk (F ++ (List.range n).map fun t => (t, a.tmps.getD t undef)) t = some v := fun t ht => by
            rw [lk_append]
            cases lk F t with
            | some u => exact ⟨u, rfl⟩
            | none => exact ⟨_, lk_full a n t ht⟩
          obtain ⟨u, rfl, hww, hVu⟩ := hq
          obtain ⟨d, hdd, hdn⟩ := hdst i hil
          rw [hdd] at hL' hd
          simp only [Option.getD_some] at hL'
          simp only [Bool.and_eq_true, List.all_eq_true, List.mem_range, Bool.or_eq_true, beq_iff_eq, bne_iff_ne, ne_eq] at hd
          have hsame' : ∀ t v, t ≠ d → a.tmps[t]? = some v → a'.tmps[t]? = some v := fun t v hne hv => by
            have ht : t < n := by have := (Array.getElem?_eq_some_iff.1 hv).1; rw [I.sz] at this; exact this
            obtain ⟨v', hv'⟩ := hsome t ht
            have h2 := hHF.at_ t v' hv'
            rw [hv] at h2; cases h2
            exact hL'.at_ t v (by rw [lk_ne (Ne.symm hne)]; exact hv')
          have hnew : a'.tmps[d]? = some u := hL'.at_ d u (lk_self _ _ _)
          have hgw : w.grownBy w' none := by
            by_cases hp' : p.pure = true
            · rw [if_pos hp'] at hww; subst hww; exact ext_refl _
            · rw [if_neg hp'] at hww; exact hww
          have hVk : ∀ k, listed.getD k false = true → k ≠ l.length + 1 → V k (vals k) w' := fun k h hne => hV k _ w w' (I.vs k h hne) hgw
          refine ih _ (fun k => if k = i then u else vals k) a' w' (by simpa using hsz) hcount hm0' ⟨hL'.nd, hL'.sz, fun t v ht hk => ?_, fun k t hk ht => ?_, fun h => ?_, fun h => trivial, fun k hk hne => ?_, hcl, hlt⟩
          · exact hsame' t v (fun e' => hk i (hset' i (.inl rfl)) (by rw [hdd, e'])) (I.old t v ht fun k h => hk k (hset' k (.inr h)))
          · by_cases ek : k = i
            · subst ek; rw [hdd] at ht; cases ht; simpa using hnew
            · rw [if_neg ek]
              rcases hset k hk with h | h
              · exact absurd h ek
              · refine hsame' t _ (fun e' => ?_) (I.new k t h ht)
                rcases hd.2 k (hnm k h) with h' | h'
                · exact ek h'
                · exact h' (by rw [ht, e'])
          · refine ext_trans (I.wd ?_) hgw
            cases hb : listed.getD (l.length + 1) false with
            | false => rfl
            | true => have := I.lt _ hb; omega
          · by_cases ek : k = i
            · subst ek; simpa using hVu
            · rw [if_neg ek]
              rcases hset k hk with h | h
              · exact absurd h ek
              · exact hVk k h hne
        unfold wpOp
        rw [ho]
        simp only [wpList] at hW
        by_cases hwant : Region.wanted o (yielded l.toArray a.tmps) = true
        · rw [if_pos hwant] at hW
          simp only [hwant, if_true]
          rcases hW with hW | ⟨_, a', w', L', _, hF'⟩
          · exact .inl (oper_wp_mono fin' (fun e a w hne h => by cases e <;> first | exact absurd rfl hne | (obtain ⟨_, _, h⟩ := h; exact h.elim)) hW)
          · exact hF'.elim
        · rw [if_neg hwant] at hW
          simp only [hwant, if_false, Bool.false_eq_true]
          exact fin' _ _ hW
  have hsz0 : ((Array.replicate l.toArray.size false).toList.filter (!·)).length = m + (l.length - m) := by simp; omega
  have := key m (Array.replicate l.toArray.size false) (fun _ => undef) a { w0 with drawn := w0.drawn + 1 } (by simp) hsz0 (fun k h => by rw [getD_rep] at h; cases h) {
    nd := ha.nd, sz := ha.sz
    old := fun t v h _ => ha.at_ t v h
    new := fun k t h => by rw [getD_rep] at h; cases h
    wd := fun _ => ⟨rfl, rfl, rfl, Nat.le_refl _, fun _ _ _ => rfl⟩
    ws := fun h => trivial
    vs := fun k h => by rw [getD_rep] at h; cases h
    cl := fun k h => by rw [getD_rep] at h; cases h
    lt := fun k h => by rw [getD_rep] at h; cases h }
  rw [show m + (l.length - m) = l.toArray.size by simp; omega] at this
  exact this
theorem Vs_monoT (Vs : List (Value → World → Prop)) (h : ∀ V ∈ Vs, ∀ v w1 w2, V v w1 → w1.grownBy w2 none → V v w2) :
    ∀ j v w1 w2, (Vs.getD j (fun _ _ => True)) v w1 → w1.grownBy w2 none → (Vs.getD j (fun _ _ => True)) v w2 := by
  intro j v w1 w2 h1 h2
  rw [List.getD_eq_getElem?_getD] at h1 ⊢
  cases hj : Vs[j]? with
  | none => trivial
  | some V => rw [hj] at h1; exact h V (List.mem_of_getElem? hj) v w1 w2 h1 h2
end Go.Proofs.Ythfpcebcfjlkmac
