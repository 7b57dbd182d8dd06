/- Contracts of functions of the program, and what they lean on. -/
import Derived.Test.YthfpcebcfjlkmabW15
set_option linter.unusedSimpArgs false
set_option linter.unusedVariables false
namespace Go.Proofs.Ythfpcebcfjlkmab
open Go.RowKit
theorem wordGcd_c {w : World} (a b : Nat) {X Y : Int} (hX : X = a) (hY : Y = b) (ha : a < 18446744073709551616) (hb : b < 18446744073709551616) :
    Calls Try.prog 85 #[.int .u64 X, .int .u64 Y] w fun e w2 => ∃ v, e = .returned v ∧ (fun v w2 => v = .int .u64 ((Nat.gcd a b : Nat) : Int) ∧ w.grownBy w2 none) v w2 := by
  have hB := ext_refl w
  refine calls_of_W (vs := [.int .u64 X, .int .u64 Y]) [4] Try.func85 rfl rfl rfl rfl ?_
  refine W.seq ?_
  refine W.region ?_
  refine WL.assign rfl rfl ?_
  refine WL.done ?_
  refine W.seq ?_
  refine W.block ?_
  refine W.loop (σ := Nat × Nat) (fun s w1 => match s with | (p, q) => w.grownBy w1 none ∧ p < 18446744073709551616 ∧ q < 18446744073709551616 ∧ Nat.gcd p q = Nat.gcd a b) (fun s => match s with | (p, q) => [(0, .int .u64 ((p : Nat) : Int)), (1, .int .u64 ((q : Nat) : Int))]) (fun s => match s with | (p, q) => q) (a, b) ?_ ?_ ?_
  · exact ⟨hB, ha, hb, rfl⟩
  · exact ⟨iv (by omega), iv (by omega), trivial⟩
  · rintro ⟨p, q⟩ w11 ⟨hB, hp, hq, hg⟩
    have hm : q ≠ 0 → p % q < q := fun h => Nat.mod_lt _ (by omega)
    refine W.seq ?_
    refine W.seq ?_
    refine W.region ?_
    refine WL.move rfl rfl ?_
    refine WL.neq rfl rfl rfl (fun c12 => ?_) (fun c12 => ?_)
    · refine WL.done ?_
      refine W.condT rfl ?_
      refine W.skip ?_
      refine W.block ?_
      refine W.draw [⟨[], [1], true⟩, ⟨[], [0], true⟩, ⟨[], [1], true⟩, ⟨[1, 2], [], true⟩, ⟨[0], [], true⟩, ⟨[3], [], true⟩] [[(1, .int .u64 ((q : Nat) : Int))], [(0, .int .u64 ((p : Nat) : Int))], [(1, .int .u64 ((q : Nat) : Int))], [], [], []] (fun iQ => [fun v _ => v = .int .u64 ((q : Nat) : Int), fun v _ => v = .int .u64 ((p : Nat) : Int), fun v _ => v = .int .u64 ((q : Nat) : Int), fun v _ => v = .int .u64 ((p % q : Nat) : Int), fun v _ => v = .int .u64 ((q : Nat) : Int), fun v _ => v = .int .u64 ((p % q : Nat) : Int)].getD iQ (fun _ _ => True)) (fun _ => True) 6 Try.mixed (by kernel_rfl) ?_ ?_ ?_
      · refine Vs_mono _ ?_
        intro VQ hVQ vQ wQ1 wQ2 hQ1 hQ2
        simp only [List.mem_cons, List.not_mem_nil, or_false] at hVQ
        rcases hVQ with rfl | rfl | rfl | rfl | rfl | rfl <;> exact hQ1
      · refine ⟨⟨rfl, ⟨rfl, trivial⟩, ?_⟩, ⟨rfl, ⟨rfl, trivial⟩, ?_⟩, ⟨rfl, ⟨rfl, trivial⟩, ?_⟩, ⟨rfl, trivial, ?_⟩, ⟨rfl, trivial, ?_⟩, ⟨rfl, trivial, ?_⟩, trivial⟩
        · intro w13 hE
          intro R
          refine WL.move rfl rfl ?_
          exact WL.done ⟨_, rfl, rfl, rfl⟩
        · intro w14 hE
          intro R
          refine WL.move rfl rfl ?_
          exact WL.done ⟨_, rfl, rfl, rfl⟩
        · intro w15 hE
          intro R
          refine WL.move rfl rfl ?_
          exact WL.done ⟨_, rfl, rfl, rfl⟩
        · intro w16 hE
          rintro _ rfl
          rintro _ rfl
          intro R
          refine WL.rem (r := ((p % q : Nat) : Int)) rfl rfl (by omega) (tmod_nat (by omega) (by omega)) rfl ?_
          exact WL.done ⟨_, rfl, rfl, rfl⟩
        · intro w17 hE
          rintro _ rfl
          intro R
          refine WL.assign rfl rfl ?_
          exact WL.done ⟨_, rfl, rfl, rfl⟩
        · intro w18 hE
          rintro _ rfl
          intro R
          refine WL.assign rfl rfl ?_
          exact WL.done ⟨_, rfl, rfl, rfl⟩
      · intro vals w19 hT hVs
        rw [if_neg (by decide)] at hT
        have hB := ext_trans hB hT
        have hv0 : vals 0 = _ := hVs 0 (by decide) (by decide)
        have hv1 : vals 1 = _ := hVs 1 (by decide) (by decide)
        have hv2 : vals 2 = _ := hVs 2 (by decide) (by decide)
        have hv3 : vals 3 = _ := hVs 3 (by decide) (by decide)
        have hv4 : vals 4 = _ := hVs 4 (by decide) (by decide)
        have hv5 : vals 5 = _ := hVs 5 (by decide) (by decide)
        rw [show (List.filterMap (fun i => Option.map (fun t => (t, vals i)) (dstAt _ i)) (List.range _)) = [(7, .int .u64 ((q : Nat) : Int)), (8, .int .u64 ((p : Nat) : Int)), (9, .int .u64 ((q : Nat) : Int)), (10, .int .u64 ((p % q : Nat) : Int)), (0, .int .u64 ((q : Nat) : Int)), (1, .int .u64 ((p % q : Nat) : Int))] from by
          show [(7, vals 0), (8, vals 1), (9, vals 2), (10, vals 3), (0, vals 4), (1, vals 5)] = _
          rw [hv0, hv1, hv2, hv3, hv4, hv5]]
        refine ⟨(q, p % q), ⟨iv (by omega), iv (by omega), trivial⟩, by (dsimp only; exact Nat.mod_lt _ (by omega)), ?_⟩
        exact ⟨hB, hq, Nat.lt_of_le_of_lt (Nat.mod_le _ _) hp, by rw [← hg, Nat.gcd_comm p q, Nat.gcd_rec q p, Nat.gcd_comm]⟩
    · refine WL.done ?_
      refine W.condF rfl ?_
      refine W.exit ?_
      refine W.seq ?_
      refine W.region ?_
      refine WL.move rfl rfl ?_
      refine WL.assign rfl rfl ?_
      refine WL.done ?_
      refine W.ret ?_
      refine ⟨_, rfl, ?_⟩
      obtain rfl : q = 0 := by omega
      rw [Nat.gcd_zero_right] at hg
      exact ⟨by rw [hg], hB⟩

theorem size_c {w : World} {X : Int} (hX : -9223372036854775808 < X ∧ X ≤ 9223372036854775807) :
    Calls Try.prog 102 #[.int .i64 X] w fun e w2 => ∃ v, e = .returned v ∧ (fun v w2 => v = .int .i64 ((X.natAbs : Nat) : Int) ∧ w.grownBy w2 none) v w2 := by
  have hB := ext_refl w
  refine calls_of_W (vs := [.int .i64 X]) [2] Try.func102 rfl rfl rfl rfl ?_
  refine W.seq ?_
  refine W.region ?_
  refine WL.assign rfl rfl ?_
  refine WL.done ?_
  refine W.seq ?_
  refine W.seq ?_
  refine W.region ?_
  refine WL.move rfl rfl ?_
  refine WL.lss rfl rfl rfl (fun c11 => ?_) (fun c11 => ?_)
  · refine WL.done ?_
    refine W.condT rfl ?_
    refine W.seq ?_
    refine W.region ?_
    refine WL.move rfl rfl ?_
    refine WL.neg (r := -X) rfl (wi64 (by omega) (by omega) (by omega)) rfl ?_
    refine WL.assign rfl rfl ?_
    refine WL.done ?_
    refine W.ret ?_
    refine ⟨_, rfl, ?_⟩
    exact ⟨by congr 1; omega, hB⟩
  · refine WL.done ?_
    refine W.condF rfl ?_
    refine W.skip ?_
    refine W.seq ?_
    refine W.region ?_
    refine WL.move rfl rfl ?_
    refine WL.assign rfl rfl ?_
    refine WL.done ?_
    refine W.ret ?_
    refine ⟨_, rfl, ?_⟩
    exact ⟨by congr 1; omega, hB⟩

theorem Zero_t {w : World} {Ba : Nat} {Aa : Option Addr} {ma ca : Nat} {xa : List Nat} (ha : Rd Ba w 1 Aa ma ca (us xa)) (hLa : Lim xa) (h0 : nv xa = 0) (hs : ma ≤ 1099511627776) :
    Calls Try.prog 61 #[.slice Aa ma ca] w fun e w2 => ∃ v, e = .returned v ∧ (fun v w2 => v = .bool true ∧ w.grownBy w2 none) v w2 := by
  have ha := ha.norm
  have ha_l := ha.ulen
  have ha_x := ha.max
  simp only [maxLen] at ha_x
  have ha_c := ha.cap
  have ha0 := ha
  have htl : (trimL xa).length = sigL xa := rfl
  have hsp := @sig_pos xa
  have hsn := @sig_none xa
  have hB := ext_refl w
  refine calls_of_W (vs := [.slice Aa ma ca]) [2] Try.func61 rfl rfl rfl rfl ?_
  refine W.seq ?_
  refine W.region ?_
  refine WL.assign rfl rfl ?_
  refine WL.done ?_
  refine W.seq ?_
  refine W.region ?_
  refine WL.move rfl rfl ?_
  refine WL.call Try.func88 rfl Try.nm88 rfl rfl (rTrim_c ha (by omega)) ?_
  rintro _ w11 ⟨A12, m13, cp14, rfl, hGw11, hO15, hm16⟩
  have hO15 := hO15.low (b' := w.heap.size) hB.size
  have hB := ext_trans hB hGw11
  have hO15_l := hO15.rd.ulen
  refine WL.len Try.underlying23 rfl rfl ?_
  refine WL.eql rfl rfl rfl (fun c17 => ?_) (fun c17 => ?_)
  · refine WL.assign rfl rfl ?_
    refine WL.done ?_
    refine W.ret ?_
    refine ⟨_, rfl, ?_⟩
    exact ⟨rfl, hB⟩
  · exfalso
    omega

theorem Zero_f {w : World} {Ba : Nat} {Aa : Option Addr} {ma ca : Nat} {xa : List Nat} (ha : Rd Ba w 1 Aa ma ca (us xa)) (hLa : Lim xa) (h0 : 0 < nv xa) (hs : ma ≤ 1099511627776) :
    Calls Try.prog 61 #[.slice Aa ma ca] w fun e w2 => ∃ v, e = .returned v ∧ (fun v w2 => v = .bool false ∧ w.grownBy w2 none) v w2 := by
  have ha := ha.norm
  have ha_l := ha.ulen
  have ha_x := ha.max
  simp only [maxLen] at ha_x
  have ha_c := ha.cap
  have ha0 := ha
  have htl : (trimL xa).length = sigL xa := rfl
  have hsp := @sig_pos xa
  have hsn := @sig_none xa
  have hB := ext_refl w
  refine calls_of_W (vs := [.slice Aa ma ca]) [2] Try.func61 rfl rfl rfl rfl ?_
  refine W.seq ?_
  refine W.region ?_
  refine WL.assign rfl rfl ?_
  refine WL.done ?_
  refine W.seq ?_
  refine W.region ?_
  refine WL.move rfl rfl ?_
  refine WL.call Try.func88 rfl Try.nm88 rfl rfl (rTrim_c ha (by omega)) ?_
  rintro _ w11 ⟨A12, m13, cp14, rfl, hGw11, hO15, hm16⟩
  have hO15 := hO15.low (b' := w.heap.size) hB.size
  have hB := ext_trans hB hGw11
  have hO15_l := hO15.rd.ulen
  refine WL.len Try.underlying23 rfl rfl ?_
  refine WL.eql rfl rfl rfl (fun c17 => ?_) (fun c17 => ?_)
  · exfalso
    omega
  · refine WL.assign rfl rfl ?_
    refine WL.done ?_
    refine W.ret ?_
    refine ⟨_, rfl, ?_⟩
    exact ⟨rfl, hB⟩

theorem sh_carry {x r c : Nat} (hx : x < 4294967296) (hc : c < 2 ^ r) : (x * 2 ^ r + c) / 4294967296 < 2 ^ r := by
  rw [Nat.div_lt_iff_lt_mul (by decide)]
  have h1 : (x + 1) * 2 ^ r ≤ 4294967296 * 2 ^ r := Nat.mul_le_mul_right _ hx
  rw [Nat.add_mul, Nat.one_mul] at h1
  rw [Nat.mul_comm (2 ^ r) 4294967296]
  omega
theorem sh_pow (k : Nat) : 2 ^ k = 4294967296 ^ (k / 32) * 2 ^ (k % 32) := by
  rw [pow32, ← Nat.pow_add, Nat.div_add_mod]
theorem sh_step {zs xa : List Nat} {i k c x : Nat} (hl : zs.length = k / 32 + i) (h : nv zs + 4294967296 ^ (k / 32 + i) * c = nv (xa.take i) * 2 ^ k) (hx : xa.getD i 0 = x) :
    nv (zs ++ [(x * 2 ^ (k % 32) + c) % 4294967296]) + 4294967296 ^ (k / 32 + (i + 1)) * ((x * 2 ^ (k % 32) + c) / 4294967296) = nv (xa.take (i + 1)) * 2 ^ k := by
  have h2 := Nat.div_add_mod (x * 2 ^ (k % 32) + c) 4294967296
  rw [nv_append, nv_one, hl, nv_take_succ, hx, Nat.add_mul, ← h]
  have h3 : 4294967296 ^ i * x * 2 ^ k = 4294967296 ^ (k / 32 + i) * (x * 2 ^ (k % 32)) := by rw [sh_pow k, Nat.pow_add]; ac_rfl
  have h4 : 4294967296 ^ (k / 32 + (i + 1)) * ((x * 2 ^ (k % 32) + c) / 4294967296) = 4294967296 ^ (k / 32 + i) * (4294967296 * ((x * 2 ^ (k % 32) + c) / 4294967296)) := by
    rw [show k / 32 + (i + 1) = (k / 32 + i) + 1 by omega, Nat.pow_succ, Nat.mul_assoc]
  have h5 : 4294967296 ^ (k / 32 + i) * (4294967296 * ((x * 2 ^ (k % 32) + c) / 4294967296)) + 4294967296 ^ (k / 32 + i) * ((x * 2 ^ (k % 32) + c) % 4294967296) = 4294967296 ^ (k / 32 + i) * (x * 2 ^ (k % 32)) + 4294967296 ^ (k / 32 + i) * c := by
    rw [← Nat.mul_add, h2, Nat.mul_add]
  rw [h3, h4]
  omega

theorem shift_c {w : World} {Ba : Nat} {Aa : Option Addr} {ma ca : Nat} {xa : List Nat} (ha : Rd Ba w 1 Aa ma ca (us xa)) (hLa : Lim xa) (k : Nat) {X : Int} (hX : X = k) (hk : k ≤ 34359738368) (hs : ma ≤ 1073741824) :
    Calls Try.prog 90 #[.slice Aa ma ca, .int .i64 X] w fun e w2 => ∃ v, e = .returned v ∧ (fun v w2 => ∃ A2 m2 c2, v = .slice A2 m2 c2 ∧ w.grownBy w2 none ∧ Own w.heap.size w2 43 1 A2 m2 c2 (us (digs (nv xa * 2 ^ k))) ∧ 0 ≤ m2) v w2 := by
  have ha := ha.norm
  have ha_l := ha.ulen
  have ha_x := ha.max
  simp only [maxLen] at ha_x
  have ha_c := ha.cap
  have ha0 := ha
  have hr31 : k % 32 ≤ 31 := by omega
  have hps : 2 ^ (k % 32) ≤ 2147483648 := Nat.pow_le_pow_right (n := 2) (by decide) hr31
  have hp0 := Nat.pow_pos (n := k % 32) (show 0 < 2 by decide)
  have hB := ext_refl w
  refine calls_of_W (vs := [.slice Aa ma ca, .int .i64 X]) [4] Try.func90 rfl rfl rfl rfl ?_
  refine W.seq ?_
  refine W.region ?_
  refine WL.assign rfl rfl ?_
  refine WL.done ?_
  refine W.seq ?_
  refine W.region ?_
  refine WL.move rfl rfl ?_
  refine WL.quo (r := ((k / 32 : Nat) : Int)) rfl rfl (by omega) (qi64 (by omega) (by omega) (by omega)) rfl ?_
  refine WL.make (w.heap.size) (k / 32) Try.underlying23 Try.el43 rfl rfl (by omega) (by omega) (by simp only [maxLen]; omega) (Nat.le_of_eq rfl) rfl ?_
  rintro A11 w12 - ho hGw12
  rw [made_us] at ho
  have ho := ho.low (b' := w.heap.size) hB.size
  have hB := ext_trans hB hGw12
  have ha := ha0.ext hB
  refine WL.assign rfl rfl ?_
  refine WL.done ?_
  refine W.seq ?_
  refine W.region ?_
  refine WL.assign rfl rfl ?_
  refine WL.done ?_
  refine W.seq ?_
  refine W.seq ?_
  refine W.region ?_
  refine WL.assign rfl rfl ?_
  refine WL.done ?_
  refine W.block ?_
  refine W.loop (σ := Nat × Nat × List Nat × Option Addr × Nat) (fun s w1 => match s with | (i, c, zs, Ao, co) => w.grownBy w1 none ∧ i ≤ ma ∧ c < 2 ^ (k % 32) ∧ Lim zs ∧ zs.length = k / 32 + i ∧ nv zs + 4294967296 ^ (k / 32 + i) * c = nv (xa.take i) * 2 ^ k ∧ Own w.heap.size w1 43 1 Ao (k / 32 + i) co (us (zs))) (fun s => match s with | (i, c, zs, Ao, co) => [(0, .slice Aa ma ca), (1, .int .i64 X), (5, .slice Ao (k / 32 + i) co), (6, .int .u64 ((c : Nat) : Int)), (7, .int .i64 ((i : Nat) : Int))]) (fun s => match s with | (i, c, zs, Ao, co) => ma - i) (0, 0, List.replicate (k / 32) 0, A11, k / 32) ?_ ?_ ?_
  · exact ⟨hB, by omega, hp0, Lim.zeros _, by simp, by simp [nv_zeros], ho⟩
  · exact ⟨rfl, iv (by omega), rfl, iv (by omega), iv (by omega), trivial⟩
  · rintro ⟨i, c, zs, Ao, co⟩ w13 ⟨hB, hi, hc, hLz, hlz, heq, ho⟩
    have ha := ha0.ext hB
    have hx := hLa.getD i
    have hrm := shl_room hx hr31
    have ho_x := ho.rd.max
    simp only [maxLen] at ho_x
    have ho_c := ho.rd.cap
    refine W.seq ?_
    refine W.seq ?_
    refine W.region ?_
    refine WL.move rfl rfl ?_
    refine WL.move rfl rfl ?_
    refine WL.len Try.underlying23 rfl rfl ?_
    refine WL.lss rfl rfl rfl (fun c14 => ?_) (fun c14 => ?_)
    · refine WL.done ?_
      refine W.condT rfl ?_
      refine W.skip ?_
      refine W.seq ?_
      refine W.block ?_
      refine W.seq ?_
      refine W.region ?_
      refine WL.move rfl rfl ?_
      refine WL.move rfl rfl ?_
      refine WL.index1 (i) Try.underlying23 Try.el43 rfl rfl (by omega) (by omega) ha rfl ?_
      refine WL.load Try.underlying43 rfl rfl (Rd.at_ ha (us_at (by omega))) rfl ?_
      refine WL.conv (r := ((xa.getD i 0 : Nat) : Int)) Try.underlying43 Try.underlying72 rfl (wu64 (by omega) (by omega) (by omega)) rfl ?_
      refine WL.move rfl rfl ?_
      refine WL.rem (r := ((k % 32 : Nat) : Int)) rfl rfl (by omega) (tmod_nat (by omega) (by omega)) rfl ?_
      refine WL.shl (r := ((xa.getD i 0 * 2 ^ (k % 32) : Nat) : Int)) rfl rfl (by omega) (by rw [show IntKind.u64.bits = 64 from rfl, shl_nat (a := xa.getD i 0) (s := k % 32) (by omega) (by omega) 64 (by omega)]; exact wu64 (by omega) (by omega) (by omega)) rfl ?_
      refine WL.move rfl rfl ?_
      refine WL.add (r := (((xa.getD i 0 * 2 ^ (k % 32)) + c : Nat) : Int)) rfl rfl (wu64 (by omega) (by omega) (by omega)) rfl ?_
      refine WL.assign rfl rfl ?_
      refine WL.done ?_
      refine W.seq ?_
      refine W.region ?_
      refine WL.move rfl rfl ?_
      refine WL.move rfl rfl ?_
      refine WL.rem (r := ((((xa.getD i 0 * 2 ^ (k % 32)) + c) % 4294967296 : Nat) : Int)) rfl rfl (by omega) (tmod_nat (by omega) (by omega)) rfl ?_
      refine WL.conv (r := ((((xa.getD i 0 * 2 ^ (k % 32)) + c) % 4294967296 : Nat) : Int)) Try.underlying72 Try.underlying43 rfl (wu32 (by omega) (by omega) (by omega)) rfl ?_
      refine WL.lit1 (b := w13.heap.size) Try.underlying23 Try.el43 rfl rfl rfl rfl (by intro v hv; simp only [List.mem_cons, List.not_mem_nil, or_false] at hv; rcases hv with rfl <;> rfl) (Nat.le_refl _) rfl ?_
      rintro A15 w16 - hO17 hGw16
      have hO17 := hO17.low (b' := w.heap.size) hB.size
      have hB := ext_trans hB hGw16
      have ho := ho.ext hGw16
      change Own _ _ _ _ _ _ _ (us [((xa.getD i 0 * 2 ^ (k % 32)) + c) % 4294967296]) at hO17
      refine WL.append ((k / 32 + i) + 1) ((us (zs ++ ([((xa.getD i 0 * 2 ^ (k % 32)) + c) % 4294967296])))) Try.underlying23 Try.el43 rfl rfl ho hO17.rd (us_one _) (by simp only [maxLen]; omega) (by omega) hB.size (by omega) (us_app rfl) rfl ?_
      have hOld21 := ho
      intro A18 cp19 w20 ho hGw20 hblw20
      have hB := ext_own hB hGw20 (fun g hg => (hOld21.bl_ge g hg).1)
      refine WL.assign rfl rfl ?_
      refine WL.done ?_
      refine W.region ?_
      refine WL.move rfl rfl ?_
      refine WL.quo (r := ((((xa.getD i 0 * 2 ^ (k % 32)) + c) / 4294967296 : Nat) : Int)) rfl rfl (by omega) (qu64 (by omega) (by omega) (by omega)) rfl ?_
      refine WL.assign rfl rfl ?_
      refine WL.done ?_
      refine W.region ?_
      refine WL.move rfl rfl ?_
      refine WL.add (r := ((i + 1 : Nat) : Int)) rfl rfl (wi64 (by omega) (by omega) (by omega)) rfl ?_
      refine WL.assign rfl rfl ?_
      refine WL.done ?_
      refine ⟨(i + 1, (xa.getD i 0 * 2 ^ (k % 32) + c) / 4294967296, zs ++ [(xa.getD i 0 * 2 ^ (k % 32) + c) % 4294967296], _, _), ⟨rfl, iv (by omega), rfl, iv (by omega), iv (by omega), trivial⟩, by (dsimp only; omega), ?_⟩
      exact ⟨hB, by omega, sh_carry hx hc, hLz.append (Lim.one (by omega)), by simp [hlz]; omega, sh_step hlz heq rfl, ho⟩
    · refine WL.done ?_
      refine W.condF rfl ?_
      refine W.exit ?_
      refine W.seq ?_
      refine W.region ?_
      refine WL.move rfl rfl ?_
      refine WL.move rfl rfl ?_
      refine WL.conv (r := ((c : Nat) : Int)) Try.underlying72 Try.underlying43 rfl (wu32 (by omega) (by omega) (by omega)) rfl ?_
      refine WL.lit1 (b := w13.heap.size) Try.underlying23 Try.el43 rfl rfl rfl rfl (by intro v hv; simp only [List.mem_cons, List.not_mem_nil, or_false] at hv; rcases hv with rfl <;> rfl) (Nat.le_refl _) rfl ?_
      rintro A22 w23 - hO24 hGw23
      have hO24 := hO24.low (b' := w.heap.size) hB.size
      have hB := ext_trans hB hGw23
      have ho := ho.ext hGw23
      change Own _ _ _ _ _ _ _ (us [c]) at hO24
      refine WL.append ((k / 32 + i) + 1) ((us (zs ++ ([c])))) Try.underlying23 Try.el43 rfl rfl ho hO24.rd (us_one _) (by simp only [maxLen]; omega) (by omega) hB.size (by omega) (us_app rfl) rfl ?_
      have hOld28 := ho
      intro A25 cp26 w27 ho hGw27 hblw27
      have hB := ext_own hB hGw27 (fun g hg => (hOld28.bl_ge g hg).1)
      refine WL.call Try.func88 rfl Try.nm88 rfl rfl (rTrim_c ho.rd (by omega)) ?_
      rintro _ w29 ⟨A30, m31, cp32, rfl, hGw29, hO, hm33⟩
      have hO := hO.low (b' := w.heap.size) hB.size
      have hB := ext_trans hB hGw29
      have hO_l := hO.rd.ulen
      refine WL.assign rfl rfl ?_
      refine WL.done ?_
      refine W.ret ?_
      refine ⟨_, rfl, ?_⟩
      obtain rfl : i = ma := by omega
      rw [nv_take_all (by omega)] at heq
      rw [digs_trim (hLz.append (Lim.one (by omega))), nv_append, nv_one, hlz, heq] at hO
      exact ⟨_, _, _, rfl, hB, hO, Nat.zero_le _⟩

theorem rd_init {a b j : Nat} (hb : 0 < b) (hj : j = bitn a + 1 - bitn b) : a < b * 2 ^ j := by
  have h1 : a < 2 ^ bitn a := bitn_le.1 (Nat.le_refl _)
  have h0 : 0 < bitn b := bitn_lt.2 (by omega)
  have h2 : 2 ^ (bitn b - 1) ≤ b := bitn_lt.1 (by omega)
  have h3 : 2 ^ (bitn b - 1) * 2 ^ j ≤ b * 2 ^ j := Nat.mul_le_mul_right _ h2
  rw [← Nat.pow_add] at h3
  have h4 : 2 ^ bitn a ≤ 2 ^ (bitn b - 1 + j) := Nat.pow_le_pow_right (by decide) (by omega)
  omega
theorem rd_quo {a b q r : Nat} (hb : 0 < b) (h : a = q * b + r) : q ≤ a := by
  have := Nat.le_mul_of_pos_right q hb
  omega
theorem rd_room {b n k c : Nat} (hb : b < 4294967296 ^ n) (hk : k ≤ 32 * c) : b * 2 ^ k < 4294967296 ^ (n + c) := by
  rw [Nat.pow_add, pow32 c]
  exact Nat.lt_of_le_of_lt (Nat.mul_le_mul_left b (Nat.pow_le_pow_right (by decide) hk)) ((Nat.mul_lt_mul_right (Nat.pow_pos (by decide))).2 hb)
theorem rd_take {a b q r i : Nat} (h : a = q * b + r) (hi : b * 2 ^ i ≤ r) : a = (q + 2 ^ i) * b + (r - b * 2 ^ i) := by
  rw [Nat.add_mul, Nat.mul_comm (2 ^ i) b]
  omega
theorem rd_less {b r j : Nat} (hj : 0 < j) (h : r < b * 2 ^ j) (h2 : b * 2 ^ (j - 1) ≤ r) : r - b * 2 ^ (j - 1) < b * 2 ^ (j - 1) := by
  rw [show j = (j - 1) + 1 by omega, Nat.pow_succ, ← Nat.mul_assoc] at h
  omega

theorem rDivMod_c {w : World} {Ba : Nat} {Aa : Option Addr} {ma ca : Nat} {xa : List Nat} (ha : Rd Ba w 1 Aa ma ca (us xa)) {Bb : Nat} {Ab : Option Addr} {mb cb : Nat} {xb : List Nat} (hb : Rd Bb w 1 Ab mb cb (us xb)) (hLa : Lim xa) (hLb : Lim xb) (hpos : 0 < nv xb) (hsa : ma ≤ 67108864) (hsb : mb ≤ 67108864) :
    Calls Try.prog 63 #[.slice Aa ma ca, .slice Ab mb cb] w fun e w2 => ∃ v, e = .returned v ∧ (fun v w2 => ∃ A2 m2 c2 A3 m3 c3, v = .tuple #[.slice A2 m2 c2, .slice A3 m3 c3] ∧ w.grownBy w2 none ∧ Own w.heap.size w2 43 1 A2 m2 c2 (us (digs (nv xa / nv xb))) ∧ Own w.heap.size w2 43 1 A3 m3 c3 (us (digs (nv xa % nv xb))) ∧ 0 ≤ m2) v w2 := by
  have ha := ha.norm
  have ha_l := ha.ulen
  have ha_x := ha.max
  simp only [maxLen] at ha_x
  have ha_c := ha.cap
  have hb := hb.norm
  have hb_l := hb.ulen
  have hb_x := hb.max
  simp only [maxLen] at hb_x
  have hb_c := hb.cap
  have ha0 := ha
  have hb0 := hb
  have hbx := bitn_len hLa
  have hby := bitn_len hLb
  obtain ⟨j0, hj0⟩ : ∃ j0, j0 = bitn (nv xa) + 1 - bitn (nv xb) := ⟨_, rfl⟩
  have hinit := rd_init hpos hj0
  have hb1 : 0 < bitn (nv xb) := bitn_lt.2 (by omega)
  have hxa := nv_lt hLa
  rw [ha_l] at hxa
  have hxb := nv_lt hLb
  rw [hb_l] at hxb
  have hB := ext_refl w
  refine calls_of_W (vs := [.slice Aa ma ca, .slice Ab mb cb]) [4, 5] Try.func63 rfl rfl rfl rfl ?_
  refine W.seq ?_
  refine W.region ?_
  refine WL.assign rfl rfl ?_
  refine WL.assign rfl rfl ?_
  refine WL.done ?_
  refine W.seq ?_
  refine W.region ?_
  refine WL.move rfl rfl ?_
  refine WL.call Try.func88 rfl Try.nm88 rfl rfl (rTrim_c ha (by omega)) ?_
  rintro _ w11 ⟨A12, m13, cp14, rfl, hGw11, hr, hm15⟩
  have hr := hr.low (b' := w.heap.size) hB.size
  have hB := ext_trans hB hGw11
  have ha := ha0.ext hB
  have hb := hb0.ext hB
  have hr_l := hr.rd.ulen
  refine WL.assign rfl rfl ?_
  refine WL.done ?_
  refine W.seq ?_
  refine W.region ?_
  refine WL.move rfl rfl ?_
  refine WL.call Try.func89 rfl Try.nm89 rfl rfl (rBits_c ha hLa (by omega)) ?_
  rintro _ w16 ⟨rfl, hGw16⟩
  have hB := ext_trans hB hGw16
  have hb := hb0.ext hB
  have hr := hr.ext hGw16
  refine WL.move rfl rfl ?_
  refine WL.call Try.func89 rfl Try.nm89 rfl rfl (rBits_c hb hLb (by omega)) ?_
  rintro _ w17 ⟨rfl, hGw17⟩
  have hB := ext_trans hB hGw17
  have hb := hb0.ext hB
  have hr := hr.ext hGw17
  refine WL.sub (r := (((bitn (nv xa) : Nat) : Int) - ((bitn (nv xb) : Nat) : Int))) rfl rfl (wi64 (by omega) (by omega) (by omega)) rfl ?_
  refine WL.assign rfl rfl ?_
  refine WL.done ?_
  refine W.seq ?_
  refine W.seq ?_
  refine W.region ?_
  refine WL.move rfl rfl ?_
  refine WL.assign rfl rfl ?_
  refine WL.done ?_
  refine W.block ?_
  refine W.loop (σ := Nat × Int × Nat × Nat × Option Addr × Nat × Nat × Option Addr × Nat × Nat) (fun s w1 => match s with | (j, z, qq, rm, Aq, mq, cq, Ar, mr, cr) => w.grownBy w1 none ∧ ((0 ≤ z ∧ z = (j : Int) - 1) ∨ (z < 0 ∧ j = 0)) ∧ j ≤ bitn (nv xa) + 1 ∧ nv xa = qq * nv xb + rm ∧ rm < nv xb * 2 ^ j ∧ Own w.heap.size w1 43 1 Aq mq cq (us (digs qq)) ∧ Own w.heap.size w1 43 1 Ar mr cr (us (digs rm))) (fun s => match s with | (j, z, qq, rm, Aq, mq, cq, Ar, mr, cr) => [(1, .slice Ab mb cb), (4, .slice Aq mq cq), (5, .slice Ar mr cr), (7, .int .i64 z)]) (fun s => match s with | (j, z, qq, rm, Aq, mq, cq, Ar, mr, cr) => j) (j0, ((bitn (nv xa) : Nat) : Int) - ((bitn (nv xb) : Nat) : Int), 0, nv xa, none, 0, 0, A12, m13, cp14) ?_ ?_ ?_
  · exact ⟨hB, by omega, by omega, by omega, hinit, World.ownsRow_nil _ _ _ _, by rw [← digs_trim hLa]; exact hr⟩
  · exact ⟨rfl, rfl, rfl, iv (by omega), trivial⟩
  · rintro ⟨j, z, qq, rm, Aq, mq, cq, Ar, mr, cr⟩ w18 ⟨hB, hz, hj, heq, hlt, hq, hr⟩
    have hb := hb0.ext hB
    have hq_l := hq.rd.ulen
    have hr_l := hr.rd.ulen
    have hqa := rd_quo hpos heq
    have hra : rm ≤ nv xa := by omega
    have hql := digs_len (Nat.lt_of_le_of_lt hqa hxa)
    have hrl := digs_len (Nat.lt_of_le_of_lt hra hxa)
    refine W.seq ?_
    refine W.seq ?_
    refine W.region ?_
    refine WL.move rfl rfl ?_
    refine WL.geq rfl rfl rfl (fun c19 => ?_) (fun c19 => ?_)
    · refine WL.done ?_
      refine W.condT rfl ?_
      refine W.skip ?_
      refine W.seq ?_
      refine W.block ?_
      refine W.seq ?_
      refine W.region ?_
      refine WL.move rfl rfl ?_
      refine WL.move rfl rfl ?_
      have hjp : 0 < j := by omega
      have htl : (digs (nv xb * 2 ^ (j - 1))).length ≤ mb + (ma + 1) := digs_len (rd_room hxb (by omega))
      refine WL.call Try.func90 rfl Try.nm90 rfl rfl (shift_c hb hLb (j - 1) (by omega) (by omega) (by omega)) ?_
      rintro _ w20 ⟨A21, m22, cp23, rfl, hGw20, ht, hm24⟩
      have ht := ht.low (b' := w.heap.size) hB.size
      have hB := ext_trans hB hGw20
      have hq := hq.ext hGw20
      have hr := hr.ext hGw20
      have ht_l := ht.rd.ulen
      refine WL.assign rfl rfl ?_
      refine WL.done ?_
      refine W.seq ?_
      refine W.region ?_
      refine WL.move rfl rfl ?_
      refine WL.move rfl rfl ?_
      refine WL.call Try.func70 rfl Try.nm70 rfl rfl (rCmp_c hr.rd ht.rd (digs_lim _) (digs_lim _)) ?_
      rintro _ w25 ⟨rfl, hGw25⟩
      have hB := ext_trans hB hGw25
      have hq := hq.ext hGw25
      have hr := hr.ext hGw25
      have ht := ht.ext hGw25
      have e1 := nv_digs rm
      have e2 := nv_digs (nv xb * 2 ^ (j - 1))
      have hcc := cmpI_cases (nv (digs rm)) (nv (digs (nv xb * 2 ^ (j - 1))))
      refine WL.geq rfl rfl rfl (fun c26 => ?_) (fun c26 => ?_)
      · refine WL.done ?_
        refine W.condT rfl ?_
        refine W.seq ?_
        refine W.region ?_
        refine WL.move rfl rfl ?_
        refine WL.move rfl rfl ?_
        refine WL.call Try.func71 rfl Try.nm71 rfl rfl (rSub_c hr.rd ht.rd (digs_lim _) (digs_lim _) (by omega) (by omega)) ?_
        rintro _ w27 ⟨A28, m29, cp30, rfl, hGw27, hr2, hm31⟩
        have hr2 := hr2.low (b' := w.heap.size) hB.size
        have hB := ext_trans hB hGw27
        have hq := hq.ext hGw27
        have hr2_l := hr2.rd.ulen
        rw [nv_digs, nv_digs] at hr2
        refine WL.assign rfl rfl ?_
        refine WL.done ?_
        refine W.region ?_
        refine WL.move rfl rfl ?_
        refine WL.lit1 (b := w27.heap.size) Try.underlying23 Try.el43 rfl rfl rfl rfl (by intro v hv; simp only [List.mem_cons, List.not_mem_nil, or_false] at hv; rcases hv with rfl <;> rfl) (Nat.le_refl _) rfl ?_
        rintro A32 w33 - hO34 hGw33
        have hO34 := hO34.low (b' := w.heap.size) hB.size
        have hB := ext_trans hB hGw33
        have hq := hq.ext hGw33
        have hr2 := hr2.ext hGw33
        change Own _ _ _ _ _ _ _ (us [1]) at hO34
        refine WL.move rfl rfl ?_
        refine WL.call Try.func90 rfl Try.nm90 rfl rfl (shift_c hO34.rd (by intro x hx; simp only [List.mem_cons, List.not_mem_nil, or_false] at hx; omega) (j - 1) (by omega) (by omega) (by omega)) ?_
        rintro _ w35 ⟨A36, m37, cp38, rfl, hGw35, h1, hm39⟩
        have h1 := h1.low (b' := w.heap.size) hB.size
        have hB := ext_trans hB hGw35
        have hq := hq.ext hGw35
        have hr2 := hr2.ext hGw35
        have h1_l := h1.rd.ulen
        rw [nv_one, Nat.one_mul] at h1
        have h1_k := h1.rd.ulen
        have h1l : (digs (2 ^ (j - 1))).length ≤ mb + (ma + 1) := digs_len (Nat.lt_of_le_of_lt (Nat.le_mul_of_pos_left _ hpos) (rd_room hxb (by omega)))
        refine WL.call Try.func69 rfl Try.nm69 rfl rfl (rAdd_c hq.rd h1.rd (digs_lim _) (digs_lim _) (by omega) (by omega)) ?_
        rintro _ w40 ⟨A41, m42, cp43, rfl, hGw40, hq2, hm44⟩
        have hq2 := hq2.low (b' := w.heap.size) hB.size
        have hB := ext_trans hB hGw40
        have hr2 := hr2.ext hGw40
        have hq2_l := hq2.rd.ulen
        rw [nv_digs, nv_digs] at hq2
        refine WL.assign rfl rfl ?_
        refine WL.done ?_
        refine W.region ?_
        refine WL.move rfl rfl ?_
        refine WL.sub (r := (z - (1 : Int))) rfl rfl (wi64 (by omega) (by omega) (by omega)) rfl ?_
        refine WL.assign rfl rfl ?_
        refine WL.done ?_
        refine ⟨(j - 1, z - 1, qq + 2 ^ (j - 1), rm - nv xb * 2 ^ (j - 1), _, _, _, _, _, _), ⟨rfl, rfl, rfl, iv (by omega), trivial⟩, by (dsimp only; omega), ?_⟩
        exact ⟨hB, by omega, by omega, rd_take heq (by omega), rd_less (by omega) hlt (by omega), hq2, hr2⟩
      · refine WL.done ?_
        refine W.condF rfl ?_
        refine W.skip ?_
        refine W.region ?_
        refine WL.move rfl rfl ?_
        refine WL.sub (r := (z - (1 : Int))) rfl rfl (wi64 (by omega) (by omega) (by omega)) rfl ?_
        refine WL.assign rfl rfl ?_
        refine WL.done ?_
        refine ⟨(j - 1, z - 1, qq, rm, _, _, _, _, _, _), ⟨rfl, rfl, rfl, iv (by omega), trivial⟩, by (dsimp only; omega), ?_⟩
        exact ⟨hB, by omega, by omega, heq, by omega, hq, hr⟩
    · refine WL.done ?_
      refine W.condF rfl ?_
      refine W.exit ?_
      refine W.seq ?_
      refine W.region ?_
      refine WL.move rfl rfl ?_
      refine WL.call Try.func88 rfl Try.nm88 rfl rfl (rTrim_c hq.rd (by omega)) ?_
      rintro _ w45 ⟨A46, m47, cp48, rfl, hGw45, hQ, hm49⟩
      have hQ := hQ.low (b' := w.heap.size) hB.size
      have hB := ext_trans hB hGw45
      have hr := hr.ext hGw45
      have hQ_l := hQ.rd.ulen
      refine WL.move rfl rfl ?_
      refine WL.assign rfl rfl ?_
      refine WL.assign rfl rfl ?_
      refine WL.done ?_
      refine W.ret ?_
      refine ⟨_, rfl, ?_⟩
      obtain rfl : j = 0 := by omega
      rw [Nat.pow_zero, Nat.mul_one] at hlt
      obtain ⟨d1, d2⟩ := div_end heq hlt
      rw [digs_trim (digs_lim _), nv_digs, d1] at hQ
      rw [d2] at hr
      exact ⟨_, _, _, _, _, _, rfl, hB, hQ, hr, Nat.zero_le _⟩

theorem gcd_step (x y : Nat) : Nat.gcd y (x % y) = Nat.gcd x y := by
  have h1 := Nat.gcd_rec y x
  rw [Nat.gcd_comm x y, h1, Nat.gcd_comm]
theorem Zero_c {w : World} {Ba : Nat} {Aa : Option Addr} {ma ca : Nat} {xa : List Nat} (ha : Rd Ba w 1 Aa ma ca (us xa)) (hLa : Lim xa) (hs : ma ≤ 1099511627776) : Calls Try.prog 61 #[.slice Aa ma ca] w fun e w2 => ∃ v, e = .returned v ∧ (fun v w2 => ∃ b : Bool, v = .bool b ∧ w.grownBy w2 none ∧ (b = true → nv xa = 0) ∧ (b = false → 0 < nv xa)) v w2 := by
  rcases Nat.eq_zero_or_pos (nv xa) with h | h
  · exact (Zero_t ha hLa h hs).mono fun e w2 ⟨v, he, hv, hw⟩ => ⟨v, he, true, hv, hw, (fun _ => h), (fun h => by cases h)⟩
  · exact (Zero_f ha hLa h hs).mono fun e w2 ⟨v, he, hv, hw⟩ => ⟨v, he, false, hv, hw, (fun h => by cases h), (fun _ => h)⟩

theorem rGcd_c {w : World} {Ba : Nat} {Aa : Option Addr} {ma ca : Nat} {xa : List Nat} (ha : Rd Ba w 1 Aa ma ca (us xa)) {Bb : Nat} {Ab : Option Addr} {mb cb : Nat} {xb : List Nat} (hb : Rd Bb w 1 Ab mb cb (us xb)) (hLa : Lim xa) (hLb : Lim xb) (hsa : ma ≤ 67108864) (hsb : mb ≤ 67108864) :
    Calls Try.prog 62 #[.slice Aa ma ca, .slice Ab mb cb] w fun e w2 => ∃ v, e = .returned v ∧ (fun v w2 => ∃ A2 m2 c2, v = .slice A2 m2 c2 ∧ w.grownBy w2 none ∧ Own w.heap.size w2 43 1 A2 m2 c2 (us (digs (Nat.gcd (nv xa) (nv xb)))) ∧ 0 ≤ m2) v w2 := by
  have ha := ha.norm
  have ha_l := ha.ulen
  have ha_x := ha.max
  simp only [maxLen] at ha_x
  have ha_c := ha.cap
  have hb := hb.norm
  have hb_l := hb.ulen
  have hb_x := hb.max
  simp only [maxLen] at hb_x
  have hb_c := hb.cap
  have ha0 := ha
  have hb0 := hb
  have hB := ext_refl w
  refine calls_of_W (vs := [.slice Aa ma ca, .slice Ab mb cb]) [4] Try.func62 rfl rfl rfl rfl ?_
  refine W.seq ?_
  refine W.region ?_
  refine WL.assign rfl rfl ?_
  refine WL.done ?_
  refine W.seq ?_
  refine W.block ?_
  refine W.loop (σ := List Nat × List Nat × Option Addr × Nat × Nat × Option Addr × Nat × Nat) (fun s w1 => match s with | (xs, ys, Ax, mx, cx, Ay, my, cy) => w.grownBy w1 none ∧ Lim xs ∧ Lim ys ∧ Nat.gcd (nv xs) (nv ys) = Nat.gcd (nv xa) (nv xb) ∧ mx ≤ 67108864 ∧ my ≤ 67108864 ∧ Rd w1.heap.size w1 1 Ax mx cx (us xs) ∧ Rd w1.heap.size w1 1 Ay my cy (us ys)) (fun s => match s with | (xs, ys, Ax, mx, cx, Ay, my, cy) => [(0, .slice Ax mx cx), (1, .slice Ay my cy)]) (fun s => match s with | (xs, ys, Ax, mx, cx, Ay, my, cy) => nv ys) (xa, xb, Aa, ma, ca, Ab, mb, cb) ?_ ?_ ?_
  · exact ⟨hB, hLa, hLb, rfl, hsa, hsb, ha.norm, hb.norm⟩
  · exact ⟨rfl, rfl, trivial⟩
  · rintro ⟨xs, ys, Ax, mx, cx, Ay, my, cy⟩ w11 ⟨hB, hLx, hLy, hg, hmx, hmy, hx, hy⟩
    have hx_l := hx.ulen
    have hy_l := hy.ulen
    have hyb := nv_lt hLy
    rw [hy_l] at hyb
    refine W.seq ?_
    refine W.seq ?_
    refine W.region ?_
    refine WL.move rfl rfl ?_
    refine WL.call Try.func61 rfl Try.nm61 rfl rfl (Zero_c hy hLy (by omega)) ?_
    rintro _ w12 ⟨bz, rfl, hGw12, hz1, hz2⟩
    have hB := ext_trans hB hGw12
    have hx := hx.ext hGw12
    have hy := hy.ext hGw12
    rcases bz with _ | _
    · have hzp := hz2 rfl
      refine WL.not rfl rfl ?_
      refine WL.done ?_
      refine W.condT rfl ?_
      refine W.skip ?_
      refine W.block ?_
      refine W.seq ?_
      refine W.region ?_
      refine WL.move rfl rfl ?_
      refine WL.move rfl rfl ?_
      refine WL.call Try.func63 rfl Try.nm63 rfl rfl (rDivMod_c hx hy hLx hLy hzp (by omega) (by omega)) ?_
      rintro _ w13 ⟨A2, m2, c2, A3, m3, c3, rfl, hGw13, hdq, hdr, hm9⟩
      have hdq := hdq.low (b' := w.heap.size) hB.size
      have hdr := hdr.low (b' := w.heap.size) hB.size
      have hB := ext_trans hB hGw13
      have hy := hy.ext hGw13
      have hdq_l := hdq.rd.ulen
      have hdr_l := hdr.rd.ulen
      refine WL.move rfl rfl ?_
      refine WL.extract rfl rfl rfl ?_
      refine WL.extract rfl rfl rfl ?_
      refine WL.assign rfl rfl ?_
      refine WL.assign rfl rfl ?_
      refine WL.done ?_
      refine W.seq ?_
      refine W.region ?_
      refine WL.move rfl rfl ?_
      refine WL.assign rfl rfl ?_
      refine WL.done ?_
      refine W.region ?_
      refine WL.move rfl rfl ?_
      refine WL.assign rfl rfl ?_
      refine WL.done ?_
      refine ⟨(ys, digs (nv xs % nv ys), Ay, my, cy, _, _, _), ⟨rfl, rfl, trivial⟩, by (dsimp only; rw [nv_digs]; exact Nat.mod_lt _ hzp), ?_⟩
      have hk := hdr.rd.ulen
      have hk2 := digs_len (Nat.lt_trans (Nat.mod_lt (nv xs) hzp) hyb)
      exact ⟨hB, hLy, digs_lim _, by rw [nv_digs, gcd_step]; exact hg, hmy, by omega, hy.norm, hdr.rd.norm⟩
    · have hz0 := hz1 rfl
      refine WL.not rfl rfl ?_
      refine WL.done ?_
      refine W.condF rfl ?_
      refine W.exit ?_
      refine W.seq ?_
      refine W.region ?_
      refine WL.move rfl rfl ?_
      refine WL.call Try.func88 rfl Try.nm88 rfl rfl (rTrim_c hx (by omega)) ?_
      rintro _ w14 ⟨A15, m16, cp17, rfl, hGw14, hO, hm18⟩
      have hO := hO.low (b' := w.heap.size) hB.size
      have hB := ext_trans hB hGw14
      have hO_l := hO.rd.ulen
      refine WL.assign rfl rfl ?_
      refine WL.done ?_
      refine W.ret ?_
      refine ⟨_, rfl, ?_⟩
      rw [hz0, Nat.gcd_zero_right] at hg
      rw [digs_trim hLx, hg] at hO
      exact ⟨_, _, _, rfl, hB, hO, Nat.zero_le _⟩
end Go.Proofs.Ythfpcebcfjlkmab
