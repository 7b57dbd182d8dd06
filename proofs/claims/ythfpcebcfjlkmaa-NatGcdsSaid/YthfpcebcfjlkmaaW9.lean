/- Contracts of functions of the program, and what they lean on. -/
import Derived.Test.YthfpcebcfjlkmaaW8
import Derived.Test.YthfpcebcfjlkmaaPw
set_option linter.unusedSimpArgs false
set_option linter.unusedVariables false
namespace Go.Proofs.Ythfpcebcfjlkmaa
open Go.RowKit
theorem Len64_c {w : World} (x : Nat) {X : Int} (hX : X = x) (hx : x < 18446744073709551616) :
    Calls Try.prog 74 #[.int .u64 X] w fun e w2 => ∃ v, e = .returned v ∧ (fun v w2 => v = .int .i64 ((bitn x : Nat) : Int) ∧ w.grownBy w2 none) v w2 := by
  have s32 := @bitn_s32 x
  have s16 := @bitn_16 x
  have s8 := @bitn_8 x
  have t16 := @bitn_16 (x / 4294967296)
  have t8 := @bitn_8 (x / 4294967296)
  have u8 := @bitn_8 (x / 65536)
  have v8 := @bitn_8 (x / 4294967296 / 65536)
  have hB := ext_refl w
  refine calls_of_W (vs := [.int .u64 X]) [2] Try.func74 rfl rfl rfl rfl ?_
  refine W.seq ?_
  refine W.region ?_
  refine WL.assign rfl rfl ?_
  refine WL.done ?_
  refine W.seq ?_
  refine W.seq ?_
  refine W.region ?_
  refine WL.move rfl rfl ?_
  refine WL.geq rfl rfl rfl (fun c11 => ?_) (fun c11 => ?_)
  · refine WL.done ?_
    refine W.condT rfl ?_
    refine W.seq ?_
    refine W.region ?_
    refine WL.move rfl rfl ?_
    refine WL.shr (r := ((x / 4294967296 : Nat) : Int)) rfl rfl (by omega) (shr_nat (a := x) (s := 32) (by omega) (by omega) 64 (by omega)) rfl ?_
    refine WL.assign rfl rfl ?_
    refine WL.done ?_
    refine W.region ?_
    refine WL.assign rfl rfl ?_
    refine WL.done ?_
    refine W.seq ?_
    refine W.seq ?_
    refine W.region ?_
    refine WL.move rfl rfl ?_
    refine WL.geq rfl rfl rfl (fun c12 => ?_) (fun c12 => ?_)
    · refine WL.done ?_
      refine W.condT rfl ?_
      refine W.seq ?_
      refine W.region ?_
      refine WL.move rfl rfl ?_
      refine WL.shr (r := (((x / 4294967296) / 65536 : Nat) : Int)) rfl rfl (by omega) (shr_nat (a := x / 4294967296) (s := 16) (by omega) (by omega) 64 (by omega)) rfl ?_
      refine WL.assign rfl rfl ?_
      refine WL.done ?_
      refine W.region ?_
      refine WL.move rfl rfl ?_
      refine WL.add (r := ((32 + 16 : Nat) : Int)) rfl rfl (wi64 (by omega) (by omega) (by omega)) rfl ?_
      refine WL.assign rfl rfl ?_
      refine WL.done ?_
      refine W.seq ?_
      refine W.seq ?_
      refine W.region ?_
      refine WL.move rfl rfl ?_
      refine WL.geq rfl rfl rfl (fun c13 => ?_) (fun c13 => ?_)
      · refine WL.done ?_
        refine W.condT rfl ?_
        refine W.seq ?_
        refine W.region ?_
        refine WL.move rfl rfl ?_
        refine WL.shr (r := ((((x / 4294967296) / 65536) / 256 : Nat) : Int)) rfl rfl (by omega) (shr_nat (a := (x / 4294967296) / 65536) (s := 8) (by omega) (by omega) 64 (by omega)) rfl ?_
        refine WL.assign rfl rfl ?_
        refine WL.done ?_
        refine W.region ?_
        refine WL.move rfl rfl ?_
        refine WL.add (r := (((32 + 16) + 8 : Nat) : Int)) rfl rfl (wi64 (by omega) (by omega) (by omega)) rfl ?_
        refine WL.assign rfl rfl ?_
        refine WL.done ?_
        refine W.seq ?_
        refine W.region ?_
        refine WL.move rfl rfl ?_
        refine WL.move rfl rfl ?_
        refine WL.conv (r := ((((x / 4294967296) / 65536) / 256 : Nat) : Int)) Try.underlying24 Try.underlying5 rfl (wu8 (by omega) (by omega) (by omega)) rfl ?_
        have hb8 := bitn_8lt (x := ((x / 4294967296) / 65536) / 256) (by omega)
        refine WL.indexTab (i := ((x / 4294967296) / 65536) / 256) bitn Try.underlying9 rfl rfl (by omega) (by omega) (by decide +kernel) rfl ?_
        refine WL.conv (r := ((bitn (((x / 4294967296) / 65536) / 256) : Nat) : Int)) Try.underlying5 Try.underlying3 rfl (wi64 (by omega) (by omega) (by omega)) rfl ?_
        refine WL.add (r := ((((32 + 16) + 8) + (bitn (((x / 4294967296) / 65536) / 256)) : Nat) : Int)) rfl rfl (wi64 (by omega) (by omega) (by omega)) rfl ?_
        refine WL.assign rfl rfl ?_
        refine WL.done ?_
        refine W.ret ?_
        refine ⟨_, rfl, ?_⟩
        exact ⟨by congr 1; omega, hB⟩
      · refine WL.done ?_
        refine W.condF rfl ?_
        refine W.skip ?_
        refine W.seq ?_
        refine W.region ?_
        refine WL.move rfl rfl ?_
        refine WL.move rfl rfl ?_
        refine WL.conv (r := (((x / 4294967296) / 65536 : Nat) : Int)) Try.underlying24 Try.underlying5 rfl (wu8 (by omega) (by omega) (by omega)) rfl ?_
        have hb8 := bitn_8lt (x := (x / 4294967296) / 65536) (by omega)
        refine WL.indexTab (i := (x / 4294967296) / 65536) bitn Try.underlying9 rfl rfl (by omega) (by omega) (by decide +kernel) rfl ?_
        refine WL.conv (r := ((bitn ((x / 4294967296) / 65536) : Nat) : Int)) Try.underlying5 Try.underlying3 rfl (wi64 (by omega) (by omega) (by omega)) rfl ?_
        refine WL.add (r := (((32 + 16) + (bitn ((x / 4294967296) / 65536)) : Nat) : Int)) rfl rfl (wi64 (by omega) (by omega) (by omega)) rfl ?_
        refine WL.assign rfl rfl ?_
        refine WL.done ?_
        refine W.ret ?_
        refine ⟨_, rfl, ?_⟩
        exact ⟨by congr 1; omega, hB⟩
    · refine WL.done ?_
      refine W.condF rfl ?_
      refine W.skip ?_
      refine W.seq ?_
      refine W.seq ?_
      refine W.region ?_
      refine WL.move rfl rfl ?_
      refine WL.geq rfl rfl rfl (fun c14 => ?_) (fun c14 => ?_)
      · refine WL.done ?_
        refine W.condT rfl ?_
        refine W.seq ?_
        refine W.region ?_
        refine WL.move rfl rfl ?_
        refine WL.shr (r := (((x / 4294967296) / 256 : Nat) : Int)) rfl rfl (by omega) (shr_nat (a := x / 4294967296) (s := 8) (by omega) (by omega) 64 (by omega)) rfl ?_
        refine WL.assign rfl rfl ?_
        refine WL.done ?_
        refine W.region ?_
        refine WL.move rfl rfl ?_
        refine WL.add (r := ((32 + 8 : Nat) : Int)) rfl rfl (wi64 (by omega) (by omega) (by omega)) rfl ?_
        refine WL.assign rfl rfl ?_
        refine WL.done ?_
        refine W.seq ?_
        refine W.region ?_
        refine WL.move rfl rfl ?_
        refine WL.move rfl rfl ?_
        refine WL.conv (r := (((x / 4294967296) / 256 : Nat) : Int)) Try.underlying24 Try.underlying5 rfl (wu8 (by omega) (by omega) (by omega)) rfl ?_
        have hb8 := bitn_8lt (x := (x / 4294967296) / 256) (by omega)
        refine WL.indexTab (i := (x / 4294967296) / 256) bitn Try.underlying9 rfl rfl (by omega) (by omega) (by decide +kernel) rfl ?_
        refine WL.conv (r := ((bitn ((x / 4294967296) / 256) : Nat) : Int)) Try.underlying5 Try.underlying3 rfl (wi64 (by omega) (by omega) (by omega)) rfl ?_
        refine WL.add (r := (((32 + 8) + (bitn ((x / 4294967296) / 256)) : Nat) : Int)) rfl rfl (wi64 (by omega) (by omega) (by omega)) rfl ?_
        refine WL.assign rfl rfl ?_
        refine WL.done ?_
        refine W.ret ?_
        refine ⟨_, rfl, ?_⟩
        exact ⟨by congr 1; omega, hB⟩
      · refine WL.done ?_
        refine W.condF rfl ?_
        refine W.skip ?_
        refine W.seq ?_
        refine W.region ?_
        refine WL.move rfl rfl ?_
        refine WL.move rfl rfl ?_
        refine WL.conv (r := ((x / 4294967296 : Nat) : Int)) Try.underlying24 Try.underlying5 rfl (wu8 (by omega) (by omega) (by omega)) rfl ?_
        have hb8 := bitn_8lt (x := x / 4294967296) (by omega)
        refine WL.indexTab (i := x / 4294967296) bitn Try.underlying9 rfl rfl (by omega) (by omega) (by decide +kernel) rfl ?_
        refine WL.conv (r := ((bitn (x / 4294967296) : Nat) : Int)) Try.underlying5 Try.underlying3 rfl (wi64 (by omega) (by omega) (by omega)) rfl ?_
        refine WL.add (r := ((32 + (bitn (x / 4294967296)) : Nat) : Int)) rfl rfl (wi64 (by omega) (by omega) (by omega)) rfl ?_
        refine WL.assign rfl rfl ?_
        refine WL.done ?_
        refine W.ret ?_
        refine ⟨_, rfl, ?_⟩
        exact ⟨by congr 1; omega, hB⟩
  · refine WL.done ?_
    refine W.condF rfl ?_
    refine W.skip ?_
    refine W.seq ?_
    refine W.seq ?_
    refine W.region ?_
    refine WL.move rfl rfl ?_
    refine WL.geq rfl rfl rfl (fun c15 => ?_) (fun c15 => ?_)
    · refine WL.done ?_
      refine W.condT rfl ?_
      refine W.seq ?_
      refine W.region ?_
      refine WL.move rfl rfl ?_
      refine WL.shr (r := ((x / 65536 : Nat) : Int)) rfl rfl (by omega) (shr_nat (a := x) (s := 16) (by omega) (by omega) 64 (by omega)) rfl ?_
      refine WL.assign rfl rfl ?_
      refine WL.done ?_
      refine W.region ?_
      refine WL.move rfl rfl ?_
      refine WL.add (r := ((0 + 16 : Nat) : Int)) rfl rfl (wi64 (by omega) (by omega) (by omega)) rfl ?_
      refine WL.assign rfl rfl ?_
      refine WL.done ?_
      refine W.seq ?_
      refine W.seq ?_
      refine W.region ?_
      refine WL.move rfl rfl ?_
      refine WL.geq rfl rfl rfl (fun c16 => ?_) (fun c16 => ?_)
      · refine WL.done ?_
        refine W.condT rfl ?_
        refine W.seq ?_
        refine W.region ?_
        refine WL.move rfl rfl ?_
        refine WL.shr (r := (((x / 65536) / 256 : Nat) : Int)) rfl rfl (by omega) (shr_nat (a := x / 65536) (s := 8) (by omega) (by omega) 64 (by omega)) rfl ?_
        refine WL.assign rfl rfl ?_
        refine WL.done ?_
        refine W.region ?_
        refine WL.move rfl rfl ?_
        refine WL.add (r := (((0 + 16) + 8 : Nat) : Int)) rfl rfl (wi64 (by omega) (by omega) (by omega)) rfl ?_
        refine WL.assign rfl rfl ?_
        refine WL.done ?_
        refine W.seq ?_
        refine W.region ?_
        refine WL.move rfl rfl ?_
        refine WL.move rfl rfl ?_
        refine WL.conv (r := (((x / 65536) / 256 : Nat) : Int)) Try.underlying24 Try.underlying5 rfl (wu8 (by omega) (by omega) (by omega)) rfl ?_
        have hb8 := bitn_8lt (x := (x / 65536) / 256) (by omega)
        refine WL.indexTab (i := (x / 65536) / 256) bitn Try.underlying9 rfl rfl (by omega) (by omega) (by decide +kernel) rfl ?_
        refine WL.conv (r := ((bitn ((x / 65536) / 256) : Nat) : Int)) Try.underlying5 Try.underlying3 rfl (wi64 (by omega) (by omega) (by omega)) rfl ?_
        refine WL.add (r := ((((0 + 16) + 8) + (bitn ((x / 65536) / 256)) : Nat) : Int)) rfl rfl (wi64 (by omega) (by omega) (by omega)) rfl ?_
        refine WL.assign rfl rfl ?_
        refine WL.done ?_
        refine W.ret ?_
        refine ⟨_, rfl, ?_⟩
        exact ⟨by congr 1; omega, hB⟩
      · refine WL.done ?_
        refine W.condF rfl ?_
        refine W.skip ?_
        refine W.seq ?_
        refine W.region ?_
        refine WL.move rfl rfl ?_
        refine WL.move rfl rfl ?_
        refine WL.conv (r := ((x / 65536 : Nat) : Int)) Try.underlying24 Try.underlying5 rfl (wu8 (by omega) (by omega) (by omega)) rfl ?_
        have hb8 := bitn_8lt (x := x / 65536) (by omega)
        refine WL.indexTab (i := x / 65536) bitn Try.underlying9 rfl rfl (by omega) (by omega) (by decide +kernel) rfl ?_
        refine WL.conv (r := ((bitn (x / 65536) : Nat) : Int)) Try.underlying5 Try.underlying3 rfl (wi64 (by omega) (by omega) (by omega)) rfl ?_
        refine WL.add (r := (((0 + 16) + (bitn (x / 65536)) : Nat) : Int)) rfl rfl (wi64 (by omega) (by omega) (by omega)) rfl ?_
        refine WL.assign rfl rfl ?_
        refine WL.done ?_
        refine W.ret ?_
        refine ⟨_, rfl, ?_⟩
        exact ⟨by congr 1; omega, hB⟩
    · refine WL.done ?_
      refine W.condF rfl ?_
      refine W.skip ?_
      refine W.seq ?_
      refine W.seq ?_
      refine W.region ?_
      refine WL.move rfl rfl ?_
      refine WL.geq rfl rfl rfl (fun c17 => ?_) (fun c17 => ?_)
      · refine WL.done ?_
        refine W.condT rfl ?_
        refine W.seq ?_
        refine W.region ?_
        refine WL.move rfl rfl ?_
        refine WL.shr (r := ((x / 256 : Nat) : Int)) rfl rfl (by omega) (shr_nat (a := x) (s := 8) (by omega) (by omega) 64 (by omega)) rfl ?_
        refine WL.assign rfl rfl ?_
        refine WL.done ?_
        refine W.region ?_
        refine WL.move rfl rfl ?_
        refine WL.add (r := ((0 + 8 : Nat) : Int)) rfl rfl (wi64 (by omega) (by omega) (by omega)) rfl ?_
        refine WL.assign rfl rfl ?_
        refine WL.done ?_
        refine W.seq ?_
        refine W.region ?_
        refine WL.move rfl rfl ?_
        refine WL.move rfl rfl ?_
        refine WL.conv (r := ((x / 256 : Nat) : Int)) Try.underlying24 Try.underlying5 rfl (wu8 (by omega) (by omega) (by omega)) rfl ?_
        have hb8 := bitn_8lt (x := x / 256) (by omega)
        refine WL.indexTab (i := x / 256) bitn Try.underlying9 rfl rfl (by omega) (by omega) (by decide +kernel) rfl ?_
        refine WL.conv (r := ((bitn (x / 256) : Nat) : Int)) Try.underlying5 Try.underlying3 rfl (wi64 (by omega) (by omega) (by omega)) rfl ?_
        refine WL.add (r := (((0 + 8) + (bitn (x / 256)) : Nat) : Int)) rfl rfl (wi64 (by omega) (by omega) (by omega)) rfl ?_
        refine WL.assign rfl rfl ?_
        refine WL.done ?_
        refine W.ret ?_
        refine ⟨_, rfl, ?_⟩
        exact ⟨by congr 1; omega, hB⟩
      · refine WL.done ?_
        refine W.condF rfl ?_
        refine W.skip ?_
        refine W.seq ?_
        refine W.region ?_
        refine WL.move rfl rfl ?_
        refine WL.move rfl rfl ?_
        refine WL.conv (r := X) Try.underlying24 Try.underlying5 rfl (wu8 (by omega) (by omega) (by omega)) rfl ?_
        have hb8 := bitn_8lt (x := x) (by omega)
        refine WL.indexTab (i := x) bitn Try.underlying9 rfl rfl (by omega) (by omega) (by decide +kernel) rfl ?_
        refine WL.conv (r := ((bitn (x) : Nat) : Int)) Try.underlying5 Try.underlying3 rfl (wi64 (by omega) (by omega) (by omega)) rfl ?_
        refine WL.add (r := ((0 + (bitn (x)) : Nat) : Int)) rfl rfl (wi64 (by omega) (by omega) (by omega)) rfl ?_
        refine WL.assign rfl rfl ?_
        refine WL.done ?_
        refine W.ret ?_
        refine ⟨_, rfl, ?_⟩
        exact ⟨by congr 1; omega, hB⟩

theorem Len_c {w : World} (x : Nat) {X : Int} (hX : X = x) (hx : x < 18446744073709551616) :
    Calls Try.prog 71 #[.int .u64 X] w fun e w2 => ∃ v, e = .returned v ∧ (fun v w2 => v = .int .i64 ((bitn x : Nat) : Int) ∧ w.grownBy w2 none) v w2 := by
  have hB := ext_refl w
  refine calls_of_W (vs := [.int .u64 X]) [2] Try.func71 rfl rfl rfl rfl ?_
  refine W.seq ?_
  refine W.region ?_
  refine WL.assign rfl rfl ?_
  refine WL.done ?_
  refine W.seq ?_
  refine W.condF rfl ?_
  refine W.skip ?_
  refine W.seq ?_
  refine W.region ?_
  refine WL.move rfl rfl ?_
  refine WL.call Try.func74 rfl Try.nm74 rfl rfl (Len64_c x (by omega) (by omega)) ?_
  rintro _ w11 ⟨rfl, hGw11⟩
  have hB := ext_trans hB hGw11
  refine WL.assign rfl rfl ?_
  refine WL.done ?_
  refine W.ret ?_
  refine ⟨_, rfl, ?_⟩
  exact ⟨rfl, hB⟩

theorem powerOf_c {w : World} {Ba : Nat} {Aa : Option Addr} {ma ca : Nat} {xa : List Nat} (ha : Rd Ba w 1 Aa ma ca (us xa)) (hLa : Lim xa) (n : Nat) {X : Int} (hX : X = n) (hn0 : 0 < n) (hn : n < 9223372036854775808) (hpa : 0 < nv xa) (hp : nv xa ^ n < 4294967296 ^ c8) (hs : ma ≤ 1099511627776) :
    Calls Try.prog 56 #[.slice Aa ma ca, .int .i64 X] w fun e w2 => ∃ v, e = .returned v ∧ (fun v w2 => ∃ A2 m2 c2, v = .slice A2 m2 c2 ∧ w.grownBy w2 none ∧ Own w.heap.size w2 40 1 A2 m2 c2 (us (digs (nv xa ^ n))) ∧ 0 ≤ m2) v w2 := by
  have ha := ha.norm
  have ha_l := ha.ulen
  have ha_x := ha.max
  simp only [maxLen] at ha_x
  have ha_c := ha.cap
  have ha0 := ha
  have h8 := c8_eq
  have hbn : 0 < bitn n := bitn_lt.2 (by omega)
  have hb64 : bitn n ≤ 63 := bitn_le.2 (by omega)
  have hB := ext_refl w
  refine calls_of_W (vs := [.slice Aa ma ca, .int .i64 X]) [4] Try.func56 rfl rfl rfl rfl ?_
  refine W.seq ?_
  refine W.region ?_
  refine WL.assign rfl rfl ?_
  refine WL.done ?_
  refine W.seq ?_
  refine W.region ?_
  refine WL.move rfl rfl ?_
  refine WL.call Try.func19 rfl Try.nm19 rfl rfl (Trim_c ha (by omega)) ?_
  rintro _ w11 ⟨A12, m13, cp14, rfl, hGw11, hT, hm15⟩
  have hT := hT.low (b' := w.heap.size) hB.size
  have hB := ext_trans hB hGw11
  have ha := ha0.ext hB
  have hT_l := hT.rd.ulen
  refine WL.assign rfl rfl ?_
  refine WL.done ?_
  refine W.seq ?_
  refine W.seq ?_
  refine W.region ?_
  refine WL.move rfl rfl ?_
  refine WL.conv (r := ((n : Nat) : Int)) Try.underlying3 Try.underlying53 rfl (wu64 (by omega) (by omega) (by omega)) rfl ?_
  refine WL.call Try.func71 rfl Try.nm71 rfl rfl (Len_c n (by omega) (by omega)) ?_
  rintro _ w16 ⟨rfl, hGw16⟩
  have hB := ext_trans hB hGw16
  have ha := ha0.ext hB
  have hT := hT.ext hGw16
  refine WL.sub (r := (((bitn n : Nat) : Int) - 2)) rfl rfl (wi64 (by omega) (by omega) (by omega)) rfl ?_
  refine WL.assign rfl rfl ?_
  refine WL.done ?_
  refine W.block ?_
  refine W.loop (σ := Nat × Option Addr × Nat × Nat) (fun s w1 => match s with | (j, Ao, mo, co) => w.grownBy w1 none ∧ j ≤ 63 ∧ Own w.heap.size w1 40 1 Ao mo co (us (digs (nv xa ^ (n / 2 ^ j))))) (fun s => match s with | (j, Ao, mo, co) => [(0, .slice Aa ma ca), (1, .int .i64 X), (5, .slice Ao mo co), (6, .int .i64 (((j : Nat) : Int) - 1))]) (fun s => match s with | (j, Ao, mo, co) => j) (bitn n - 1, A12, m13, cp14) ?_ ?_ ?_
  · exact ⟨hB, by omega, by rw [top_one hn0, Nat.pow_one, ← digs_trim hLa]; exact hT⟩
  · exact ⟨rfl, iv (by omega), rfl, iv (by omega), trivial⟩
  · rintro ⟨j, Ao, mo, co⟩ w17 ⟨hB, hj, ho⟩
    have ha := ha0.ext hB
    have ho_l := ho.rd.ulen
    have hq := pow_len (k := n / 2 ^ j) hpa (Nat.div_le_self _ _) hp
    refine W.seq ?_
    refine W.seq ?_
    refine W.region ?_
    refine WL.move rfl rfl ?_
    refine WL.geq rfl rfl rfl (fun c18 => ?_) (fun c18 => ?_)
    · refine WL.done ?_
      refine W.condT rfl ?_
      refine W.skip ?_
      refine W.seq ?_
      refine W.block ?_
      refine W.seq ?_
      refine W.region ?_
      refine WL.move rfl rfl ?_
      refine WL.move rfl rfl ?_
      have hh := half_pow (n := n) (j := j) (by omega)
      have hun := Nat.div_le_self n (2 ^ (j - 1))
      refine WL.call Try.func49 rfl Try.nm49 rfl rfl (product_c ho.rd ho.rd (digs_lim _) (digs_lim _) (by omega) (by omega)) ?_
      rintro _ w19 ⟨A20, m21, cp22, rfl, hGw19, hO, hm23⟩
      have hO := hO.low (b' := w.heap.size) hB.size
      have hB := ext_trans hB hGw19
      have ha := ha0.ext hB
      have ho := ho.ext hGw19
      have hO_l := hO.rd.ulen
      rw [nv_digs, ← Nat.pow_add] at hO
      have hO_k := hO.rd.ulen
      have hq2 := pow_len (k := n / 2 ^ j + n / 2 ^ j) hpa (by omega) hp
      refine WL.assign rfl rfl ?_
      refine WL.done ?_
      refine W.seq ?_
      refine W.region ?_
      refine WL.move rfl rfl ?_
      refine WL.move rfl rfl ?_
      refine WL.shr (r := ((n / 2 ^ (j - 1) : Nat) : Int)) rfl rfl (by omega) (shr_nat (a := n) (s := j - 1) (by omega) (by omega) 64 (by omega)) rfl ?_
      refine WL.bits (r := ((n / 2 ^ (j - 1) % 2 : Nat) : Int)) rfl rfl (.inl rfl) (and1_i64 rfl (by omega)) rfl ?_
      refine WL.eql rfl rfl rfl (fun c24 => ?_) (fun c24 => ?_)
      · refine WL.done ?_
        refine W.condT rfl ?_
        refine W.region ?_
        refine WL.move rfl rfl ?_
        refine WL.move rfl rfl ?_
        refine WL.call Try.func49 rfl Try.nm49 rfl rfl (product_c hO.rd ha (digs_lim _) hLa (by omega) (by omega)) ?_
        rintro _ w25 ⟨A26, m27, cp28, rfl, hGw25, hO2, hm29⟩
        have hO2 := hO2.low (b' := w.heap.size) hB.size
        have hB := ext_trans hB hGw25
        have ha := ha0.ext hB
        have ho := ho.ext hGw25
        have hO := hO.ext hGw25
        have hO2_l := hO2.rd.ulen
        rw [nv_digs, ← Nat.pow_succ, Nat.succ_eq_add_one] at hO2
        refine WL.assign rfl rfl ?_
        refine WL.done ?_
        refine W.region ?_
        refine WL.move rfl rfl ?_
        refine WL.sub (r := ((((j : Nat) : Int) - 1) - (1 : Int))) rfl rfl (wi64 (by omega) (by omega) (by omega)) rfl ?_
        refine WL.assign rfl rfl ?_
        refine WL.done ?_
        refine ⟨(j - 1, _, _, _), ⟨rfl, iv (by omega), rfl, iv (by omega), trivial⟩, by (dsimp only; omega), ?_⟩
        exact ⟨hB, by omega, by rw [show n / 2 ^ (j - 1) = n / 2 ^ j + n / 2 ^ j + 1 by omega]; exact hO2⟩
      · refine WL.done ?_
        refine W.condF rfl ?_
        refine W.skip ?_
        refine W.region ?_
        refine WL.move rfl rfl ?_
        refine WL.sub (r := ((((j : Nat) : Int) - 1) - (1 : Int))) rfl rfl (wi64 (by omega) (by omega) (by omega)) rfl ?_
        refine WL.assign rfl rfl ?_
        refine WL.done ?_
        refine ⟨(j - 1, _, _, _), ⟨rfl, iv (by omega), rfl, iv (by omega), trivial⟩, by (dsimp only; omega), ?_⟩
        exact ⟨hB, by omega, by rw [show n / 2 ^ (j - 1) = n / 2 ^ j + n / 2 ^ j by omega]; exact hO⟩
    · refine WL.done ?_
      refine W.condF rfl ?_
      refine W.exit ?_
      refine W.seq ?_
      refine W.region ?_
      refine WL.move rfl rfl ?_
      refine WL.assign rfl rfl ?_
      refine WL.done ?_
      refine W.ret ?_
      refine ⟨_, rfl, ?_⟩
      have hj0 : j = 0 := by omega
      subst hj0
      rw [Nat.pow_zero, Nat.div_one] at ho
      exact ⟨_, _, _, rfl, hB, ho, Nat.zero_le _⟩

theorem Pow_neg {w : World} {Ba : Nat} {Aa : Option Addr} {ma ca : Nat} {xa : List Nat} (ha : Rd Ba w 1 Aa ma ca (us xa)) (hLa : Lim xa) {X : Int} (hX : X < 0) :
    Calls Try.prog 36 #[.slice Aa ma ca, .int .i64 X] w fun e w2 => ∃ v, e = .returned v ∧ (fun v w2 => v = .tuple #[.slice none 0 0, .int .i64 6] ∧ w.grownBy w2 none) v w2 := by
  have ha := ha.norm
  have ha_l := ha.ulen
  have ha_x := ha.max
  simp only [maxLen] at ha_x
  have ha_c := ha.cap
  have ha0 := ha
  have hgt := bigN_gt
  have hbt : bitn (nv (trimL xa)) = bitn (nv xa) := by rw [nv_trimL]
  have htl := trimL_len xa
  have hbx := bitn_len hLa
  have hsx := sigL_le xa
  have hB := ext_refl w
  refine calls_of_W (vs := [.slice Aa ma ca, .int .i64 X]) [4, 5] Try.func36 rfl rfl rfl rfl ?_
  refine W.seq ?_
  refine W.region ?_
  refine WL.assign rfl rfl ?_
  refine WL.assign rfl rfl ?_
  refine WL.done ?_
  refine W.seq ?_
  refine W.seq ?_
  refine W.region ?_
  refine WL.move rfl rfl ?_
  refine WL.lss rfl rfl rfl (fun c11 => ?_) (fun c11 => ?_)
  · refine WL.done ?_
    refine W.condT rfl ?_
    refine W.seq ?_
    refine W.region ?_
    refine WL.assign rfl rfl ?_
    refine WL.assign rfl rfl ?_
    refine WL.done ?_
    refine W.ret ?_
    refine ⟨_, rfl, ?_⟩
    exact ⟨rfl, hB⟩
  · exfalso
    omega

theorem Pow_ok {w : World} {Ba : Nat} {Aa : Option Addr} {ma ca : Nat} {xa : List Nat} (ha : Rd Ba w 1 Aa ma ca (us xa)) (hLa : Lim xa) (n : Nat) {X : Int} (hX : X = n) (hn : n < 9223372036854775808) (hs : ma ≤ 1048576) (hbig : nv xa ^ n < bigN) :
    Calls Try.prog 36 #[.slice Aa ma ca, .int .i64 X] w fun e w2 => ∃ v, e = .returned v ∧ (fun v w2 => ∃ A2 m2 c2, v = .tuple #[.slice A2 m2 c2, .int .i64 0] ∧ w.grownBy w2 none ∧ Own w.heap.size w2 40 1 A2 m2 c2 (us (digs (nv xa ^ n))) ∧ m2 ≤ 4096) v w2 := by
  have ha := ha.norm
  have ha_l := ha.ulen
  have ha_x := ha.max
  simp only [maxLen] at ha_x
  have ha_c := ha.cap
  have ha0 := ha
  have hgt := bigN_gt
  have hbt : bitn (nv (trimL xa)) = bitn (nv xa) := by rw [nv_trimL]
  have htl := trimL_len xa
  have hbx := bitn_len hLa
  have hsx := sigL_le xa
  have hB := ext_refl w
  refine calls_of_W (vs := [.slice Aa ma ca, .int .i64 X]) [4, 5] Try.func36 rfl rfl rfl rfl ?_
  refine W.seq ?_
  refine W.region ?_
  refine WL.assign rfl rfl ?_
  refine WL.assign rfl rfl ?_
  refine WL.done ?_
  refine W.seq ?_
  refine W.seq ?_
  refine W.region ?_
  refine WL.move rfl rfl ?_
  refine WL.lss rfl rfl rfl (fun c11 => ?_) (fun c11 => ?_)
  · exfalso
    omega
  · refine WL.done ?_
    refine W.condF rfl ?_
    refine W.skip ?_
    refine W.seq ?_
    refine W.seq ?_
    refine W.region ?_
    refine WL.move rfl rfl ?_
    refine WL.eql rfl rfl rfl (fun c12 => ?_) (fun c12 => ?_)
    · refine WL.done ?_
      refine W.condT rfl ?_
      refine W.seq ?_
      refine W.region ?_
      refine WL.lit1 (b := w.heap.size) Try.underlying23 Try.el40 rfl rfl rfl rfl (by intro v hv; simp only [List.mem_cons, List.not_mem_nil, or_false] at hv; rcases hv with rfl <;> rfl) (Nat.le_refl _) rfl ?_
      rintro A13 w14 - hO15 hGw14
      have hO15 := hO15.low (b' := w.heap.size) hB.size
      have hB := ext_trans hB hGw14
      have ha := ha0.ext hB
      change Own _ _ _ _ _ _ _ (us [1]) at hO15
      refine WL.assign rfl rfl ?_
      refine WL.assign rfl rfl ?_
      refine WL.done ?_
      refine W.ret ?_
      refine ⟨_, rfl, ?_⟩
      have hn0 : n = 0 := by omega
      subst hn0
      have hO9 := hO15
      rw [← (show digs (nv xa ^ 0) = [1] from digs_lit (Nat.pow_zero _) (by decide) (by decide))] at hO9
      have hO_z := hO9.rd.ulen
      have := digs_big.2 hbig
      exact ⟨_, _, _, rfl, hB, hO9, by omega⟩
    · refine WL.done ?_
      refine W.condF rfl ?_
      refine W.skip ?_
      refine W.seq ?_
      refine W.region ?_
      refine WL.move rfl rfl ?_
      refine WL.call Try.func23 rfl Try.nm23 rfl rfl (Bits_c ha hLa (by omega)) ?_
      rintro _ w16 ⟨rfl, hGw16⟩
      have hB := ext_trans hB hGw16
      have ha := ha0.ext hB
      refine WL.assign rfl rfl ?_
      refine WL.done ?_
      refine W.seq ?_
      refine W.seq ?_
      refine W.region ?_
      refine WL.move rfl rfl ?_
      refine WL.leq rfl rfl rfl (fun c17 => ?_) (fun c17 => ?_)
      · refine WL.done ?_
        refine W.condT rfl ?_
        refine W.seq ?_
        refine W.region ?_
        refine WL.move rfl rfl ?_
        refine WL.call Try.func19 rfl Try.nm19 rfl rfl (Trim_c ha (by omega)) ?_
        rintro _ w18 ⟨A19, m20, cp21, rfl, hGw18, hO22, hm23⟩
        have hO22 := hO22.low (b' := w.heap.size) hB.size
        have hB := ext_trans hB hGw18
        have ha := ha0.ext hB
        have hO22_l := hO22.rd.ulen
        refine WL.assign rfl rfl ?_
        refine WL.assign rfl rfl ?_
        refine WL.done ?_
        refine W.ret ?_
        refine ⟨_, rfl, ?_⟩
        have h1 := bitn_one (a := nv xa) (by omega)
        have hO9 := hO22
        rw [digs_trim hLa, ← pow_le_one h1 (by omega : 0 < n)] at hO9
        have hO_z := hO9.rd.ulen
        have := digs_big.2 hbig
        exact ⟨_, _, _, rfl, hB, hO9, by omega⟩
      · refine WL.done ?_
        refine W.condF rfl ?_
        refine W.skip ?_
        refine W.seq ?_
        refine W.seq ?_
        refine W.region ?_
        refine WL.move rfl rfl ?_
        refine WL.move rfl rfl ?_
        have hpos : 0 < nv xa := by have := bitn_lt.1 (show 0 < bitn (nv xa) by omega); omega
        refine WL.sub (r := (((bitn (nv xa)) - 1 : Nat) : Int)) rfl rfl (wi64 (by omega) (by omega) (by omega)) rfl ?_
        refine WL.quo (r := ((131071 / ((bitn (nv xa)) - 1) : Nat) : Int)) rfl rfl (by omega) (qi64 (by omega) (by omega) (by omega)) rfl ?_
        refine WL.gtr rfl rfl rfl (fun c24 => ?_) (fun c24 => ?_)
        · exfalso
          have := pow_big (a := nv xa) (n := n) (by omega) (by omega)
          omega
        · refine WL.done ?_
          refine W.condF rfl ?_
          refine W.skip ?_
          refine W.seq ?_
          refine W.region ?_
          refine WL.move rfl rfl ?_
          refine WL.call Try.func40 rfl Try.nm40 rfl rfl (sig_c ha) ?_
          rintro _ w25 ⟨rfl, hGw25⟩
          have hB := ext_trans hB hGw25
          have ha := ha0.ext hB
          refine WL.move rfl rfl ?_
          refine WL.call Try.func56 rfl Try.nm56 rfl rfl (powerOf_c (Rd.sig ha) (Lim.trim hLa) n (by omega) (by omega) hn (by rw [nv_trimL]; omega) (by rw [nv_trimL]; exact pow_small (by omega) (by omega)) (by omega)) ?_
          rintro _ w26 ⟨A27, m28, cp29, rfl, hGw26, hO, hm30⟩
          have hO := hO.low (b' := w.heap.size) hB.size
          have hB := ext_trans hB hGw26
          have ha := ha0.ext hB
          have hO_l := hO.rd.ulen
          rw [nv_trimL] at hO
          have hO_k := hO.rd.ulen
          refine WL.assign rfl rfl ?_
          refine WL.done ?_
          refine W.seq ?_
          refine W.seq ?_
          refine W.region ?_
          refine WL.move rfl rfl ?_
          refine WL.len Try.underlying23 rfl rfl ?_
          refine WL.gtr rfl rfl rfl (fun c31 => ?_) (fun c31 => ?_)
          · exfalso
            have := digs_big.2 hbig
            omega
          · refine WL.done ?_
            refine W.condF rfl ?_
            refine W.skip ?_
            refine W.seq ?_
            refine W.region ?_
            refine WL.move rfl rfl ?_
            refine WL.assign rfl rfl ?_
            refine WL.assign rfl rfl ?_
            refine WL.done ?_
            refine W.ret ?_
            refine ⟨_, rfl, ?_⟩
            have hO_z := hO.rd.ulen
            have := digs_big.2 hbig
            exact ⟨_, _, _, rfl, hB, hO, by omega⟩

theorem Pow_err {w : World} {Ba : Nat} {Aa : Option Addr} {ma ca : Nat} {xa : List Nat} (ha : Rd Ba w 1 Aa ma ca (us xa)) (hLa : Lim xa) (n : Nat) {X : Int} (hX : X = n) (hn : n < 9223372036854775808) (hs : ma ≤ 1048576) (hbig : bigN ≤ nv xa ^ n) :
    Calls Try.prog 36 #[.slice Aa ma ca, .int .i64 X] w fun e w2 => ∃ v, e = .returned v ∧ (fun v w2 => v = .tuple #[.slice none 0 0, .int .i64 8] ∧ w.grownBy w2 none) v w2 := by
  have ha := ha.norm
  have ha_l := ha.ulen
  have ha_x := ha.max
  simp only [maxLen] at ha_x
  have ha_c := ha.cap
  have ha0 := ha
  have hgt := bigN_gt
  have hbt : bitn (nv (trimL xa)) = bitn (nv xa) := by rw [nv_trimL]
  have htl := trimL_len xa
  have hbx := bitn_len hLa
  have hsx := sigL_le xa
  have hB := ext_refl w
  refine calls_of_W (vs := [.slice Aa ma ca, .int .i64 X]) [4, 5] Try.func36 rfl rfl rfl rfl ?_
  refine W.seq ?_
  refine W.region ?_
  refine WL.assign rfl rfl ?_
  refine WL.assign rfl rfl ?_
  refine WL.done ?_
  refine W.seq ?_
  refine W.seq ?_
  refine W.region ?_
  refine WL.move rfl rfl ?_
  refine WL.lss rfl rfl rfl (fun c11 => ?_) (fun c11 => ?_)
  · exfalso
    omega
  · refine WL.done ?_
    refine W.condF rfl ?_
    refine W.skip ?_
    refine W.seq ?_
    refine W.seq ?_
    refine W.region ?_
    refine WL.move rfl rfl ?_
    refine WL.eql rfl rfl rfl (fun c12 => ?_) (fun c12 => ?_)
    · exfalso
      have hn0 : n = 0 := by omega
      subst hn0
      rw [Nat.pow_zero] at hbig
      omega
    · refine WL.done ?_
      refine W.condF rfl ?_
      refine W.skip ?_
      refine W.seq ?_
      refine W.region ?_
      refine WL.move rfl rfl ?_
      refine WL.call Try.func23 rfl Try.nm23 rfl rfl (Bits_c ha hLa (by omega)) ?_
      rintro _ w13 ⟨rfl, hGw13⟩
      have hB := ext_trans hB hGw13
      have ha := ha0.ext hB
      refine WL.assign rfl rfl ?_
      refine WL.done ?_
      refine W.seq ?_
      refine W.seq ?_
      refine W.region ?_
      refine WL.move rfl rfl ?_
      refine WL.leq rfl rfl rfl (fun c14 => ?_) (fun c14 => ?_)
      · exfalso
        have h1 := bitn_one (a := nv xa) (by omega)
        have h2 := pow_le_one h1 (by omega : 0 < n)
        rw [h2] at hbig
        omega
      · refine WL.done ?_
        refine W.condF rfl ?_
        refine W.skip ?_
        refine W.seq ?_
        refine W.seq ?_
        refine W.region ?_
        refine WL.move rfl rfl ?_
        refine WL.move rfl rfl ?_
        have hpos : 0 < nv xa := by have := bitn_lt.1 (show 0 < bitn (nv xa) by omega); omega
        refine WL.sub (r := (((bitn (nv xa)) - 1 : Nat) : Int)) rfl rfl (wi64 (by omega) (by omega) (by omega)) rfl ?_
        refine WL.quo (r := ((131071 / ((bitn (nv xa)) - 1) : Nat) : Int)) rfl rfl (by omega) (qi64 (by omega) (by omega) (by omega)) rfl ?_
        refine WL.gtr rfl rfl rfl (fun c15 => ?_) (fun c15 => ?_)
        · refine WL.done ?_
          refine W.condT rfl ?_
          refine W.seq ?_
          refine W.region ?_
          refine WL.assign rfl rfl ?_
          refine WL.assign rfl rfl ?_
          refine WL.done ?_
          refine W.ret ?_
          refine ⟨_, rfl, ?_⟩
          exact ⟨rfl, hB⟩
        · refine WL.done ?_
          refine W.condF rfl ?_
          refine W.skip ?_
          refine W.seq ?_
          refine W.region ?_
          refine WL.move rfl rfl ?_
          refine WL.call Try.func40 rfl Try.nm40 rfl rfl (sig_c ha) ?_
          rintro _ w16 ⟨rfl, hGw16⟩
          have hB := ext_trans hB hGw16
          have ha := ha0.ext hB
          refine WL.move rfl rfl ?_
          refine WL.call Try.func56 rfl Try.nm56 rfl rfl (powerOf_c (Rd.sig ha) (Lim.trim hLa) n (by omega) (by omega) hn (by rw [nv_trimL]; omega) (by rw [nv_trimL]; exact pow_small (by omega) (by omega)) (by omega)) ?_
          rintro _ w17 ⟨A18, m19, cp20, rfl, hGw17, hO, hm21⟩
          have hO := hO.low (b' := w.heap.size) hB.size
          have hB := ext_trans hB hGw17
          have ha := ha0.ext hB
          have hO_l := hO.rd.ulen
          rw [nv_trimL] at hO
          have hO_k := hO.rd.ulen
          refine WL.assign rfl rfl ?_
          refine WL.done ?_
          refine W.seq ?_
          refine W.seq ?_
          refine W.region ?_
          refine WL.move rfl rfl ?_
          refine WL.len Try.underlying23 rfl rfl ?_
          refine WL.gtr rfl rfl rfl (fun c22 => ?_) (fun c22 => ?_)
          · refine WL.done ?_
            refine W.condT rfl ?_
            refine W.seq ?_
            refine W.region ?_
            refine WL.assign rfl rfl ?_
            refine WL.assign rfl rfl ?_
            refine WL.done ?_
            refine W.ret ?_
            refine ⟨_, rfl, ?_⟩
            exact ⟨rfl, hB⟩
          · exfalso
            have := digs_big.1 (by omega : (digs (nv xa ^ n)).length ≤ 4096)
            omega

theorem rPow_neg {w : World} {Ba : Nat} {Aa : Option Addr} {ma ca : Nat} {xa : List Nat} (ha : Rd Ba w 1 Aa ma ca (us xa)) (hLa : Lim xa) {X : Int} (hX : X < 0) :
    Calls Try.prog 37 #[.slice Aa ma ca, .int .i64 X] w fun e w2 => ∃ v, e = .returned v ∧ (fun v w2 => v = .tuple #[.slice none 0 0, .int .i64 6] ∧ w.grownBy w2 none) v w2 := by
  have ha := ha.norm
  have ha_l := ha.ulen
  have ha_x := ha.max
  simp only [maxLen] at ha_x
  have ha_c := ha.cap
  have ha0 := ha
  have hgt := bigN_gt
  have hbt : bitn (nv (trimL xa)) = bitn (nv xa) := by rw [nv_trimL]
  have htl := trimL_len xa
  have hbx := bitn_len hLa
  have hsx := sigL_le xa
  have hB := ext_refl w
  refine calls_of_W (vs := [.slice Aa ma ca, .int .i64 X]) [4, 5] Try.func37 rfl rfl rfl rfl ?_
  refine W.seq ?_
  refine W.region ?_
  refine WL.assign rfl rfl ?_
  refine WL.assign rfl rfl ?_
  refine WL.done ?_
  refine W.seq ?_
  refine W.seq ?_
  refine W.region ?_
  refine WL.move rfl rfl ?_
  refine WL.lss rfl rfl rfl (fun c11 => ?_) (fun c11 => ?_)
  · refine WL.done ?_
    refine W.condT rfl ?_
    refine W.seq ?_
    refine W.region ?_
    refine WL.assign rfl rfl ?_
    refine WL.assign rfl rfl ?_
    refine WL.done ?_
    refine W.ret ?_
    refine ⟨_, rfl, ?_⟩
    exact ⟨rfl, hB⟩
  · exfalso
    omega

theorem rPow_ok {w : World} {Ba : Nat} {Aa : Option Addr} {ma ca : Nat} {xa : List Nat} (ha : Rd Ba w 1 Aa ma ca (us xa)) (hLa : Lim xa) (n : Nat) {X : Int} (hX : X = n) (hn : n < 9223372036854775808) (hs : ma ≤ 1048576) (hbig : nv xa ^ n < bigN) :
    Calls Try.prog 37 #[.slice Aa ma ca, .int .i64 X] w fun e w2 => ∃ v, e = .returned v ∧ (fun v w2 => ∃ A2 m2 c2, v = .tuple #[.slice A2 m2 c2, .int .i64 0] ∧ w.grownBy w2 none ∧ Own w.heap.size w2 40 1 A2 m2 c2 (us (digs (nv xa ^ n))) ∧ m2 ≤ 4096) v w2 := by
  have ha := ha.norm
  have ha_l := ha.ulen
  have ha_x := ha.max
  simp only [maxLen] at ha_x
  have ha_c := ha.cap
  have ha0 := ha
  have hgt := bigN_gt
  have hbt : bitn (nv (trimL xa)) = bitn (nv xa) := by rw [nv_trimL]
  have htl := trimL_len xa
  have hbx := bitn_len hLa
  have hsx := sigL_le xa
  have hB := ext_refl w
  refine calls_of_W (vs := [.slice Aa ma ca, .int .i64 X]) [4, 5] Try.func37 rfl rfl rfl rfl ?_
  refine W.seq ?_
  refine W.region ?_
  refine WL.assign rfl rfl ?_
  refine WL.assign rfl rfl ?_
  refine WL.done ?_
  refine W.seq ?_
  refine W.seq ?_
  refine W.region ?_
  refine WL.move rfl rfl ?_
  refine WL.lss rfl rfl rfl (fun c11 => ?_) (fun c11 => ?_)
  · exfalso
    omega
  · refine WL.done ?_
    refine W.condF rfl ?_
    refine W.skip ?_
    refine W.seq ?_
    refine W.region ?_
    refine WL.move rfl rfl ?_
    refine WL.call Try.func20 rfl Try.nm20 rfl rfl (rTrim_c ha (by omega)) ?_
    rintro _ w12 ⟨A13, m14, cp15, rfl, hGw12, hT, hm16⟩
    have hT := hT.low (b' := w.heap.size) hB.size
    have hB := ext_trans hB hGw12
    have ha := ha0.ext hB
    have hT_l := hT.rd.ulen
    refine WL.assign rfl rfl ?_
    refine WL.done ?_
    refine W.seq ?_
    refine W.seq ?_
    refine W.region ?_
    refine WL.move rfl rfl ?_
    refine WL.eql rfl rfl rfl (fun c17 => ?_) (fun c17 => ?_)
    · refine WL.done ?_
      refine W.condT rfl ?_
      refine W.seq ?_
      refine W.region ?_
      refine WL.lit1 (b := w12.heap.size) Try.underlying23 Try.el40 rfl rfl rfl rfl (by intro v hv; simp only [List.mem_cons, List.not_mem_nil, or_false] at hv; rcases hv with rfl <;> rfl) (Nat.le_refl _) rfl ?_
      rintro A18 w19 - hO20 hGw19
      have hO20 := hO20.low (b' := w.heap.size) hB.size
      have hB := ext_trans hB hGw19
      have ha := ha0.ext hB
      have hT := hT.ext hGw19
      change Own _ _ _ _ _ _ _ (us [1]) at hO20
      refine WL.assign rfl rfl ?_
      refine WL.assign rfl rfl ?_
      refine WL.done ?_
      refine W.ret ?_
      refine ⟨_, rfl, ?_⟩
      have hn0 : n = 0 := by omega
      subst hn0
      have hO9 := hO20
      rw [← (show digs (nv xa ^ 0) = [1] from digs_lit (Nat.pow_zero _) (by decide) (by decide))] at hO9
      have hO_z := hO9.rd.ulen
      have := digs_big.2 hbig
      exact ⟨_, _, _, rfl, hB, hO9, by omega⟩
    · refine WL.done ?_
      refine W.condF rfl ?_
      refine W.skip ?_
      refine W.seq ?_
      refine W.seq ?_
      refine W.region ?_
      refine WL.move rfl rfl ?_
      refine WL.call Try.func24 rfl Try.nm24 rfl rfl (rBits_c hT.rd (Lim.trim hLa) (by omega)) ?_
      rintro _ w21 ⟨rfl, hGw21⟩
      have hB := ext_trans hB hGw21
      have ha := ha0.ext hB
      have hT := hT.ext hGw21
      refine WL.leq rfl rfl rfl (fun c22 => ?_) (fun c22 => ?_)
      · refine WL.done ?_
        refine W.condT rfl ?_
        refine W.seq ?_
        refine W.region ?_
        refine WL.move rfl rfl ?_
        refine WL.assign rfl rfl ?_
        refine WL.assign rfl rfl ?_
        refine WL.done ?_
        refine W.ret ?_
        refine ⟨_, rfl, ?_⟩
        have h1 := bitn_one (a := nv xa) (by omega)
        have hO9 := hT
        rw [digs_trim hLa, ← pow_le_one h1 (by omega : 0 < n)] at hO9
        have hO_z := hO9.rd.ulen
        have := digs_big.2 hbig
        exact ⟨_, _, _, rfl, hB, hO9, by omega⟩
      · refine WL.done ?_
        refine W.condF rfl ?_
        refine W.skip ?_
        refine W.seq ?_
        refine W.seq ?_
        refine W.region ?_
        refine WL.move rfl rfl ?_
        have h2a : 2 ≤ nv xa := by have := bitn_lt.1 (show 1 < bitn (nv xa) by omega); omega
        refine WL.gtr rfl rfl rfl (fun c23 => ?_) (fun c23 => ?_)
        · exfalso
          have := pow_big2 (a := nv xa) (n := n) h2a (by omega)
          omega
        · refine WL.done ?_
          refine W.condF rfl ?_
          refine W.skip ?_
          refine W.seq ?_
          refine W.region ?_
          refine WL.lit1 (b := w21.heap.size) Try.underlying23 Try.el40 rfl rfl rfl rfl (by intro v hv; simp only [List.mem_cons, List.not_mem_nil, or_false] at hv; rcases hv with rfl <;> rfl) (Nat.le_refl _) rfl ?_
          rintro A24 w25 - hO26 hGw25
          have hO26 := hO26.low (b' := w.heap.size) hB.size
          have hB := ext_trans hB hGw25
          have ha := ha0.ext hB
          have hT := hT.ext hGw25
          change Own _ _ _ _ _ _ _ (us [1]) at hO26
          refine WL.assign rfl rfl ?_
          refine WL.done ?_
          refine W.seq ?_
          refine W.seq ?_
          refine W.region ?_
          refine WL.assign rfl rfl ?_
          refine WL.done ?_
          refine W.block ?_
          refine W.loop (σ := Nat × Option Addr × Nat × Nat × Option Addr × Nat × Nat) (fun s w1 => match s with | (k, Ao, mo, co, At, mt, ct) => w.grownBy w1 none ∧ k ≤ 19 ∧ mo ≤ 4096 ∧ Own w.heap.size w1 40 1 Ao mo co (us (digs (nv xa ^ (n / 2 ^ k)))) ∧ Own w.heap.size w1 40 1 At mt ct (us (trimL xa))) (fun s => match s with | (k, Ao, mo, co, At, mt, ct) => [(0, .slice At mt ct), (1, .int .i64 X), (6, .slice Ao mo co), (7, .int .i64 ((2 ^ k / 2 : Nat) : Int))]) (fun s => match s with | (k, Ao, mo, co, At, mt, ct) => k) (19, A24, 1, 1, A13, m14, cp15) ?_ ?_ ?_
          · exact ⟨hB, by omega, by omega, by rw [show n / 2 ^ 19 = 0 by omega, Nat.pow_zero, digs_lit rfl (by decide) (by decide)]; exact hO26, hT⟩
          · exact ⟨rfl, iv (by omega), rfl, iv (by omega), trivial⟩
          · rintro ⟨k, Ao, mo, co, At, mt, ct⟩ w27 ⟨hB, hk, hmo, ho, ht⟩
            have ho_l := ho.rd.ulen
            have ht_l := ht.rd.ulen
            have hp0 := Nat.pow_pos (n := k) (show 0 < 2 by decide)
            have hpk : 2 ^ k ≤ 524288 := Nat.le_trans (Nat.pow_le_pow_right (by decide) hk) (by decide)
            refine W.seq ?_
            refine W.seq ?_
            refine W.region ?_
            refine WL.move rfl rfl ?_
            refine WL.gtr rfl rfl rfl (fun c28 => ?_) (fun c28 => ?_)
            · refine WL.done ?_
              refine W.condT rfl ?_
              refine W.skip ?_
              refine W.seq ?_
              refine W.block ?_
              refine W.seq ?_
              refine W.region ?_
              refine WL.move rfl rfl ?_
              refine WL.move rfl rfl ?_
              have hk0 := pw_zero (k := k) (by omega)
              have hkd := pw_half hk0
              have hh := half_pow (n := n) hk0
              have hU : n / (2 ^ k / 2) = n / 2 ^ (k - 1) := by rw [hkd]
              have hun := Nat.div_le_self n (2 ^ (k - 1))
              have hsq := sq_len (a := nv xa) (q := n / 2 ^ k) (by omega)
              refine WL.call Try.func32 rfl Try.nm32 rfl rfl (rMul_c ho.rd ho.rd (digs_lim _) (digs_lim _) (by omega) (by omega)) ?_
              rintro _ w29 ⟨A30, m31, cp32, rfl, hGw29, hO, hm33⟩
              have hO := hO.low (b' := w.heap.size) hB.size
              have hB := ext_trans hB hGw29
              have ho := ho.ext hGw29
              have ht := ht.ext hGw29
              have hO_l := hO.rd.ulen
              rw [nv_digs, ← Nat.pow_add] at hO
              have hO_k := hO.rd.ulen
              have hl4 : (digs (nv xa ^ (n / 2 ^ k + n / 2 ^ k))).length ≤ 4096 := digs_big.2 (Nat.lt_of_le_of_lt (Nat.pow_le_pow_right (by omega) (by omega)) hbig)
              refine WL.assign rfl rfl ?_
              refine WL.done ?_
              refine W.seq ?_
              refine W.seq ?_
              refine W.region ?_
              refine WL.move rfl rfl ?_
              refine WL.move rfl rfl ?_
              refine WL.quo (r := ((n / (2 ^ k / 2) : Nat) : Int)) rfl rfl (by omega) (qi64 (by omega) (by omega) (by omega)) rfl ?_
              refine WL.rem (r := (((n / (2 ^ k / 2)) % 2 : Nat) : Int)) rfl rfl (by omega) (tmod_nat (by omega) (by omega)) rfl ?_
              refine WL.eql rfl rfl rfl (fun c34 => ?_) (fun c34 => ?_)
              · refine WL.done ?_
                refine W.condT rfl ?_
                refine W.region ?_
                refine WL.move rfl rfl ?_
                refine WL.move rfl rfl ?_
                refine WL.call Try.func32 rfl Try.nm32 rfl rfl (rMul_c hO.rd ht.rd (digs_lim _) (Lim.trim hLa) (by omega) (by omega)) ?_
                rintro _ w35 ⟨A36, m37, cp38, rfl, hGw35, hO2, hm39⟩
                have hO2 := hO2.low (b' := w.heap.size) hB.size
                have hB := ext_trans hB hGw35
                have ho := ho.ext hGw35
                have ht := ht.ext hGw35
                have hO := hO.ext hGw35
                have hO2_l := hO2.rd.ulen
                rw [nv_digs, nv_trimL, ← Nat.pow_succ, Nat.succ_eq_add_one] at hO2
                have hO2_k := hO2.rd.ulen
                have hl4 : (digs (nv xa ^ (n / 2 ^ k + n / 2 ^ k + 1))).length ≤ 4096 := digs_big.2 (Nat.lt_of_le_of_lt (Nat.pow_le_pow_right (by omega) (by omega)) hbig)
                refine WL.assign rfl rfl ?_
                refine WL.done ?_
                refine W.seq ?_
                refine W.region ?_
                refine WL.move rfl rfl ?_
                refine WL.len Try.underlying23 rfl rfl ?_
                refine WL.gtr rfl rfl rfl (fun c40 => ?_) (fun c40 => ?_)
                · exfalso
                  omega
                · refine WL.done ?_
                  refine W.condF rfl ?_
                  refine W.skip ?_
                  refine W.region ?_
                  refine WL.move rfl rfl ?_
                  refine WL.quo (r := (((2 ^ k / 2) / 2 : Nat) : Int)) rfl rfl (by omega) (qi64 (by omega) (by omega) (by omega)) rfl ?_
                  refine WL.assign rfl rfl ?_
                  refine WL.done ?_
                  refine ⟨(k - 1, _, _, _, _, _, _), ⟨rfl, iv (by omega), rfl, iv (by omega), trivial⟩, by (dsimp only; omega), ?_⟩
                  exact ⟨hB, by omega, by omega, by rw [show n / 2 ^ (k - 1) = n / 2 ^ k + n / 2 ^ k + 1 by omega]; exact hO2, ht⟩
              · refine WL.done ?_
                refine W.condF rfl ?_
                refine W.skip ?_
                refine W.seq ?_
                refine W.region ?_
                refine WL.move rfl rfl ?_
                refine WL.len Try.underlying23 rfl rfl ?_
                refine WL.gtr rfl rfl rfl (fun c41 => ?_) (fun c41 => ?_)
                · exfalso
                  omega
                · refine WL.done ?_
                  refine W.condF rfl ?_
                  refine W.skip ?_
                  refine W.region ?_
                  refine WL.move rfl rfl ?_
                  refine WL.quo (r := (((2 ^ k / 2) / 2 : Nat) : Int)) rfl rfl (by omega) (qi64 (by omega) (by omega) (by omega)) rfl ?_
                  refine WL.assign rfl rfl ?_
                  refine WL.done ?_
                  refine ⟨(k - 1, _, _, _, _, _, _), ⟨rfl, iv (by omega), rfl, iv (by omega), trivial⟩, by (dsimp only; omega), ?_⟩
                  exact ⟨hB, by omega, by omega, by rw [show n / 2 ^ (k - 1) = n / 2 ^ k + n / 2 ^ k by omega]; exact hO, ht⟩
            · refine WL.done ?_
              refine W.condF rfl ?_
              refine W.exit ?_
              refine W.seq ?_
              refine W.region ?_
              refine WL.move rfl rfl ?_
              refine WL.assign rfl rfl ?_
              refine WL.assign rfl rfl ?_
              refine WL.done ?_
              refine W.ret ?_
              refine ⟨_, rfl, ?_⟩
              have hk := pw_none (k := k) (by omega)
              subst hk
              rw [Nat.pow_zero, Nat.div_one] at ho
              have hO_z := ho.rd.ulen
              have := digs_big.2 hbig
              exact ⟨_, _, _, rfl, hB, ho, by omega⟩

theorem rPow_err {w : World} {Ba : Nat} {Aa : Option Addr} {ma ca : Nat} {xa : List Nat} (ha : Rd Ba w 1 Aa ma ca (us xa)) (hLa : Lim xa) (n : Nat) {X : Int} (hX : X = n) (hn : n < 9223372036854775808) (hs : ma ≤ 1048576) (hbig : bigN ≤ nv xa ^ n) :
    Calls Try.prog 37 #[.slice Aa ma ca, .int .i64 X] w fun e w2 => ∃ v, e = .returned v ∧ (fun v w2 => v = .tuple #[.slice none 0 0, .int .i64 8] ∧ w.grownBy w2 none) v w2 := by
  have ha := ha.norm
  have ha_l := ha.ulen
  have ha_x := ha.max
  simp only [maxLen] at ha_x
  have ha_c := ha.cap
  have ha0 := ha
  have hgt := bigN_gt
  have hbt : bitn (nv (trimL xa)) = bitn (nv xa) := by rw [nv_trimL]
  have htl := trimL_len xa
  have hbx := bitn_len hLa
  have hsx := sigL_le xa
  have hB := ext_refl w
  refine calls_of_W (vs := [.slice Aa ma ca, .int .i64 X]) [4, 5] Try.func37 rfl rfl rfl rfl ?_
  refine W.seq ?_
  refine W.region ?_
  refine WL.assign rfl rfl ?_
  refine WL.assign rfl rfl ?_
  refine WL.done ?_
  refine W.seq ?_
  refine W.seq ?_
  refine W.region ?_
  refine WL.move rfl rfl ?_
  refine WL.lss rfl rfl rfl (fun c11 => ?_) (fun c11 => ?_)
  · exfalso
    omega
  · refine WL.done ?_
    refine W.condF rfl ?_
    refine W.skip ?_
    refine W.seq ?_
    refine W.region ?_
    refine WL.move rfl rfl ?_
    refine WL.call Try.func20 rfl Try.nm20 rfl rfl (rTrim_c ha (by omega)) ?_
    rintro _ w12 ⟨A13, m14, cp15, rfl, hGw12, hT, hm16⟩
    have hT := hT.low (b' := w.heap.size) hB.size
    have hB := ext_trans hB hGw12
    have ha := ha0.ext hB
    have hT_l := hT.rd.ulen
    refine WL.assign rfl rfl ?_
    refine WL.done ?_
    refine W.seq ?_
    refine W.seq ?_
    refine W.region ?_
    refine WL.move rfl rfl ?_
    refine WL.eql rfl rfl rfl (fun c17 => ?_) (fun c17 => ?_)
    · exfalso
      have hn0 : n = 0 := by omega
      subst hn0
      rw [Nat.pow_zero] at hbig
      omega
    · refine WL.done ?_
      refine W.condF rfl ?_
      refine W.skip ?_
      refine W.seq ?_
      refine W.seq ?_
      refine W.region ?_
      refine WL.move rfl rfl ?_
      refine WL.call Try.func24 rfl Try.nm24 rfl rfl (rBits_c hT.rd (Lim.trim hLa) (by omega)) ?_
      rintro _ w18 ⟨rfl, hGw18⟩
      have hB := ext_trans hB hGw18
      have ha := ha0.ext hB
      have hT := hT.ext hGw18
      refine WL.leq rfl rfl rfl (fun c19 => ?_) (fun c19 => ?_)
      · exfalso
        have h1 := bitn_one (a := nv xa) (by omega)
        have h2 := pow_le_one h1 (by omega : 0 < n)
        rw [h2] at hbig
        omega
      · refine WL.done ?_
        refine W.condF rfl ?_
        refine W.skip ?_
        refine W.seq ?_
        refine W.seq ?_
        refine W.region ?_
        refine WL.move rfl rfl ?_
        have h2a : 2 ≤ nv xa := by have := bitn_lt.1 (show 1 < bitn (nv xa) by omega); omega
        refine WL.gtr rfl rfl rfl (fun c20 => ?_) (fun c20 => ?_)
        · refine WL.done ?_
          refine W.condT rfl ?_
          refine W.seq ?_
          refine W.region ?_
          refine WL.assign rfl rfl ?_
          refine WL.assign rfl rfl ?_
          refine WL.done ?_
          refine W.ret ?_
          refine ⟨_, rfl, ?_⟩
          first
          | exact ⟨rfl, hB⟩
          | (exfalso; have hk := pw_none (k := k) (by omega); subst hk; rw [Nat.pow_zero, Nat.div_one] at ho_l; have := digs_big.1 (by omega : (digs (nv xa ^ n)).length ≤ 4096); omega)
        · refine WL.done ?_
          refine W.condF rfl ?_
          refine W.skip ?_
          refine W.seq ?_
          refine W.region ?_
          refine WL.lit1 (b := w18.heap.size) Try.underlying23 Try.el40 rfl rfl rfl rfl (by intro v hv; simp only [List.mem_cons, List.not_mem_nil, or_false] at hv; rcases hv with rfl <;> rfl) (Nat.le_refl _) rfl ?_
          rintro A21 w22 - hO23 hGw22
          have hO23 := hO23.low (b' := w.heap.size) hB.size
          have hB := ext_trans hB hGw22
          have ha := ha0.ext hB
          have hT := hT.ext hGw22
          change Own _ _ _ _ _ _ _ (us [1]) at hO23
          refine WL.assign rfl rfl ?_
          refine WL.done ?_
          refine W.seq ?_
          refine W.seq ?_
          refine W.region ?_
          refine WL.assign rfl rfl ?_
          refine WL.done ?_
          refine W.block ?_
          refine W.loop (σ := Nat × Option Addr × Nat × Nat × Option Addr × Nat × Nat) (fun s w1 => match s with | (k, Ao, mo, co, At, mt, ct) => w.grownBy w1 none ∧ k ≤ 19 ∧ mo ≤ 4096 ∧ Own w.heap.size w1 40 1 Ao mo co (us (digs (nv xa ^ (n / 2 ^ k)))) ∧ Own w.heap.size w1 40 1 At mt ct (us (trimL xa))) (fun s => match s with | (k, Ao, mo, co, At, mt, ct) => [(0, .slice At mt ct), (1, .int .i64 X), (6, .slice Ao mo co), (7, .int .i64 ((2 ^ k / 2 : Nat) : Int))]) (fun s => match s with | (k, Ao, mo, co, At, mt, ct) => k) (19, A21, 1, 1, A13, m14, cp15) ?_ ?_ ?_
          · exact ⟨hB, by omega, by omega, by rw [show n / 2 ^ 19 = 0 by omega, Nat.pow_zero, digs_lit rfl (by decide) (by decide)]; exact hO23, hT⟩
          · exact ⟨rfl, iv (by omega), rfl, iv (by omega), trivial⟩
          · rintro ⟨k, Ao, mo, co, At, mt, ct⟩ w24 ⟨hB, hk, hmo, ho, ht⟩
            have ho_l := ho.rd.ulen
            have ht_l := ht.rd.ulen
            have hp0 := Nat.pow_pos (n := k) (show 0 < 2 by decide)
            have hpk : 2 ^ k ≤ 524288 := Nat.le_trans (Nat.pow_le_pow_right (by decide) hk) (by decide)
            refine W.seq ?_
            refine W.seq ?_
            refine W.region ?_
            refine WL.move rfl rfl ?_
            refine WL.gtr rfl rfl rfl (fun c25 => ?_) (fun c25 => ?_)
            · refine WL.done ?_
              refine W.condT rfl ?_
              refine W.skip ?_
              refine W.seq ?_
              refine W.block ?_
              refine W.seq ?_
              refine W.region ?_
              refine WL.move rfl rfl ?_
              refine WL.move rfl rfl ?_
              have hk0 := pw_zero (k := k) (by omega)
              have hkd := pw_half hk0
              have hh := half_pow (n := n) hk0
              have hU : n / (2 ^ k / 2) = n / 2 ^ (k - 1) := by rw [hkd]
              have hun := Nat.div_le_self n (2 ^ (k - 1))
              have hsq := sq_len (a := nv xa) (q := n / 2 ^ k) (by omega)
              refine WL.call Try.func32 rfl Try.nm32 rfl rfl (rMul_c ho.rd ho.rd (digs_lim _) (digs_lim _) (by omega) (by omega)) ?_
              rintro _ w26 ⟨A27, m28, cp29, rfl, hGw26, hO, hm30⟩
              have hO := hO.low (b' := w.heap.size) hB.size
              have hB := ext_trans hB hGw26
              have ho := ho.ext hGw26
              have ht := ht.ext hGw26
              have hO_l := hO.rd.ulen
              rw [nv_digs, ← Nat.pow_add] at hO
              have hO_k := hO.rd.ulen
              refine WL.assign rfl rfl ?_
              refine WL.done ?_
              refine W.seq ?_
              refine W.seq ?_
              refine W.region ?_
              refine WL.move rfl rfl ?_
              refine WL.move rfl rfl ?_
              refine WL.quo (r := ((n / (2 ^ k / 2) : Nat) : Int)) rfl rfl (by omega) (qi64 (by omega) (by omega) (by omega)) rfl ?_
              refine WL.rem (r := (((n / (2 ^ k / 2)) % 2 : Nat) : Int)) rfl rfl (by omega) (tmod_nat (by omega) (by omega)) rfl ?_
              refine WL.eql rfl rfl rfl (fun c31 => ?_) (fun c31 => ?_)
              · refine WL.done ?_
                refine W.condT rfl ?_
                refine W.region ?_
                refine WL.move rfl rfl ?_
                refine WL.move rfl rfl ?_
                refine WL.call Try.func32 rfl Try.nm32 rfl rfl (rMul_c hO.rd ht.rd (digs_lim _) (Lim.trim hLa) (by omega) (by omega)) ?_
                rintro _ w32 ⟨A33, m34, cp35, rfl, hGw32, hO2, hm36⟩
                have hO2 := hO2.low (b' := w.heap.size) hB.size
                have hB := ext_trans hB hGw32
                have ho := ho.ext hGw32
                have ht := ht.ext hGw32
                have hO := hO.ext hGw32
                have hO2_l := hO2.rd.ulen
                rw [nv_digs, nv_trimL, ← Nat.pow_succ, Nat.succ_eq_add_one] at hO2
                have hO2_k := hO2.rd.ulen
                refine WL.assign rfl rfl ?_
                refine WL.done ?_
                refine W.seq ?_
                refine W.region ?_
                refine WL.move rfl rfl ?_
                refine WL.len Try.underlying23 rfl rfl ?_
                refine WL.gtr rfl rfl rfl (fun c37 => ?_) (fun c37 => ?_)
                · refine WL.done ?_
                  refine W.condT rfl ?_
                  refine W.seq ?_
                  refine W.region ?_
                  refine WL.assign rfl rfl ?_
                  refine WL.assign rfl rfl ?_
                  refine WL.done ?_
                  refine W.ret ?_
                  refine ⟨_, rfl, ?_⟩
                  first
                  | exact ⟨rfl, hB⟩
                  | (exfalso; have hk := pw_none (k := k) (by omega); subst hk; rw [Nat.pow_zero, Nat.div_one] at ho_l; have := digs_big.1 (by omega : (digs (nv xa ^ n)).length ≤ 4096); omega)
                · refine WL.done ?_
                  refine W.condF rfl ?_
                  refine W.skip ?_
                  refine W.region ?_
                  refine WL.move rfl rfl ?_
                  refine WL.quo (r := (((2 ^ k / 2) / 2 : Nat) : Int)) rfl rfl (by omega) (qi64 (by omega) (by omega) (by omega)) rfl ?_
                  refine WL.assign rfl rfl ?_
                  refine WL.done ?_
                  refine ⟨(k - 1, _, _, _, _, _, _), ⟨rfl, iv (by omega), rfl, iv (by omega), trivial⟩, by (dsimp only; omega), ?_⟩
                  exact ⟨hB, by omega, by omega, by rw [show n / 2 ^ (k - 1) = n / 2 ^ k + n / 2 ^ k + 1 by omega]; exact hO2, ht⟩
              · refine WL.done ?_
                refine W.condF rfl ?_
                refine W.skip ?_
                refine W.seq ?_
                refine W.region ?_
                refine WL.move rfl rfl ?_
                refine WL.len Try.underlying23 rfl rfl ?_
                refine WL.gtr rfl rfl rfl (fun c38 => ?_) (fun c38 => ?_)
                · refine WL.done ?_
                  refine W.condT rfl ?_
                  refine W.seq ?_
                  refine W.region ?_
                  refine WL.assign rfl rfl ?_
                  refine WL.assign rfl rfl ?_
                  refine WL.done ?_
                  refine W.ret ?_
                  refine ⟨_, rfl, ?_⟩
                  first
                  | exact ⟨rfl, hB⟩
                  | (exfalso; have hk := pw_none (k := k) (by omega); subst hk; rw [Nat.pow_zero, Nat.div_one] at ho_l; have := digs_big.1 (by omega : (digs (nv xa ^ n)).length ≤ 4096); omega)
                · refine WL.done ?_
                  refine W.condF rfl ?_
                  refine W.skip ?_
                  refine W.region ?_
                  refine WL.move rfl rfl ?_
                  refine WL.quo (r := (((2 ^ k / 2) / 2 : Nat) : Int)) rfl rfl (by omega) (qi64 (by omega) (by omega) (by omega)) rfl ?_
                  refine WL.assign rfl rfl ?_
                  refine WL.done ?_
                  refine ⟨(k - 1, _, _, _, _, _, _), ⟨rfl, iv (by omega), rfl, iv (by omega), trivial⟩, by (dsimp only; omega), ?_⟩
                  exact ⟨hB, by omega, by omega, by rw [show n / 2 ^ (k - 1) = n / 2 ^ k + n / 2 ^ k by omega]; exact hO, ht⟩
            · refine WL.done ?_
              refine W.condF rfl ?_
              refine W.exit ?_
              refine W.seq ?_
              refine W.region ?_
              refine WL.move rfl rfl ?_
              refine WL.assign rfl rfl ?_
              refine WL.assign rfl rfl ?_
              refine WL.done ?_
              refine W.ret ?_
              refine ⟨_, rfl, ?_⟩
              first
              | exact ⟨rfl, hB⟩
              | (exfalso; have hk := pw_none (k := k) (by omega); subst hk; rw [Nat.pow_zero, Nat.div_one] at ho_l; have := digs_big.1 (by omega : (digs (nv xa ^ n)).length ≤ 4096); omega)

theorem NatPowers_neg {w : World} {Ba : Nat} {Aa : Option Addr} {ma ca : Nat} {xa : List Nat} (ha : Rd Ba w 1 Aa ma ca (us xa)) (hLa : Lim xa) {X : Int} (hX : X < 0) :
    Calls Try.prog 11 #[.slice Aa ma ca, .int .i64 X] w fun e w2 => ∃ v, e = .returned v ∧ (fun v w2 => v = .bool true ∧ w.grownBy w2 none) v w2 := by
  have ha := ha.norm
  have ha_l := ha.ulen
  have ha_x := ha.max
  simp only [maxLen] at ha_x
  have ha_c := ha.cap
  have ha0 := ha
  have hB := ext_refl w
  refine calls_of_W (vs := [.slice Aa ma ca, .int .i64 X]) [4] Try.func11 rfl rfl rfl rfl ?_
  refine W.seq ?_
  refine W.region ?_
  refine WL.assign rfl rfl ?_
  refine WL.done ?_
  refine W.seq ?_
  refine W.seq ?_
  refine W.region ?_
  refine WL.move rfl rfl ?_
  refine WL.lit1 (b := w.heap.size) Try.underlying39 Try.el23 rfl rfl rfl rfl (by intro v hv; simp only [List.mem_cons, List.not_mem_nil, or_false] at hv; rcases hv with rfl <;> rfl) (Nat.le_refl _) rfl ?_
  rintro A11 w12 - hO13 hGw12
  have hO13 := hO13.low (b' := w.heap.size) hB.size
  have hB := ext_trans hB hGw12
  have ha := ha0.ext hB
  have hN14 : NatsR w12.heap.size w12 [.slice Aa ma ca] [xa] := (NatsR.cons ha.norm (NatsR.nil _ _))
  refine WL.call Try.func15 rfl Try.nm15 rfl rfl (long_c hO13.rd hN14 (20) (by omega)) ?_
  rintro _ w15 ⟨b16, rfl, hGw15, hlong⟩
  have hB := ext_trans hB hGw15
  have ha := ha0.ext hB
  have hO13 := hO13.ext hGw15
  refine WL.done ?_
  refine W.cond2 rfl (fun c17 => ?_) (fun c17 => ?_)
  · skip
    refine W.seq ?_
    refine W.region ?_
    refine WL.assign rfl rfl ?_
    refine WL.done ?_
    refine W.ret ?_
    refine ⟨_, rfl, ?_⟩
    exact ⟨rfl, hB⟩
  · skip
    have hla : xa.length ≤ 20 := hlong c17 0 (by simp)
    refine W.skip ?_
    refine W.seq ?_
    refine W.region ?_
    refine WL.move rfl rfl ?_
    refine WL.move rfl rfl ?_
    refine WL.call Try.func36 rfl Try.nm36 rfl rfl (Pow_neg ha hLa (by omega)) ?_
    rintro _ w18 ⟨rfl, hGw18⟩
    have hB := ext_trans hB hGw18
    have ha := ha0.ext hB
    have hO13 := hO13.ext hGw18
    refine WL.move rfl rfl ?_
    refine WL.extract rfl rfl rfl ?_
    refine WL.extract rfl rfl rfl ?_
    refine WL.assign rfl rfl ?_
    refine WL.assign rfl rfl ?_
    refine WL.done ?_
    refine W.seq ?_
    refine W.region ?_
    refine WL.move rfl rfl ?_
    refine WL.move rfl rfl ?_
    refine WL.call Try.func37 rfl Try.nm37 rfl rfl (rPow_neg ha hLa (by omega)) ?_
    rintro _ w19 ⟨rfl, hGw19⟩
    have hB := ext_trans hB hGw19
    have ha := ha0.ext hB
    have hO13 := hO13.ext hGw19
    refine WL.move rfl rfl ?_
    refine WL.extract rfl rfl rfl ?_
    refine WL.extract rfl rfl rfl ?_
    refine WL.assign rfl rfl ?_
    refine WL.assign rfl rfl ?_
    refine WL.done ?_
    refine W.seq ?_
    refine W.region ?_
    refine WL.move rfl rfl ?_
    refine WL.move rfl rfl ?_
    refine WL.eql rfl rfl rfl (fun c20 => ?_) (fun c20 => ?_)
    · refine WL.move rfl rfl ?_
      refine WL.take rfl ?_
      refine WL.move rfl rfl ?_
      refine WL.take rfl ?_
      refine WL.move rfl rfl ?_
      refine WL.take rfl ?_
      refine WL.call Try.func18 rfl Try.nm18 rfl rfl (same_t Rd.nilU Rd.nilU (by first | with_reducible rfl | (refine digs_congr ?_; simp; done) | (refine digs_congr ?_; simp; omega) | (refine digs_congr ?_; simp only [prodN_cons, prodN_nil, sumN_cons, sumN_nil, nv_digs, Nat.mul_one, Nat.add_zero, Nat.mul_add, Nat.add_mul] <;> ac_rfl) | (refine digs_lit (k := _) ?_ ?_ ?_ <;> simp; done) | (rw [trimL_digs _ hLa]; refine digs_congr ?_; simp; done) | (rw [trimL_digs _ hLa]; refine digs_congr ?_; simp; omega))) ?_
      rintro _ w21 ⟨rfl, hGw21⟩
      have hB := ext_trans hB hGw21
      have ha := ha0.ext hB
      have hO13 := hO13.ext hGw21
      refine WL.pick rfl rfl rfl ?_
      refine WL.assign rfl rfl ?_
      refine WL.done ?_
      refine W.ret ?_
      refine ⟨_, rfl, ?_⟩
      exact ⟨rfl, hB⟩
    · exfalso
      omega

theorem NatPowers_ok {w : World} {Ba : Nat} {Aa : Option Addr} {ma ca : Nat} {xa : List Nat} (ha : Rd Ba w 1 Aa ma ca (us xa)) (hLa : Lim xa) (n : Nat) {X : Int} (hX : X = n) (hn : n < 9223372036854775808) (hbig : nv xa ^ n < bigN) :
    Calls Try.prog 11 #[.slice Aa ma ca, .int .i64 X] w fun e w2 => ∃ v, e = .returned v ∧ (fun v w2 => v = .bool true ∧ w.grownBy w2 none) v w2 := by
  have ha := ha.norm
  have ha_l := ha.ulen
  have ha_x := ha.max
  simp only [maxLen] at ha_x
  have ha_c := ha.cap
  have ha0 := ha
  have hB := ext_refl w
  refine calls_of_W (vs := [.slice Aa ma ca, .int .i64 X]) [4] Try.func11 rfl rfl rfl rfl ?_
  refine W.seq ?_
  refine W.region ?_
  refine WL.assign rfl rfl ?_
  refine WL.done ?_
  refine W.seq ?_
  refine W.seq ?_
  refine W.region ?_
  refine WL.move rfl rfl ?_
  refine WL.lit1 (b := w.heap.size) Try.underlying39 Try.el23 rfl rfl rfl rfl (by intro v hv; simp only [List.mem_cons, List.not_mem_nil, or_false] at hv; rcases hv with rfl <;> rfl) (Nat.le_refl _) rfl ?_
  rintro A11 w12 - hO13 hGw12
  have hO13 := hO13.low (b' := w.heap.size) hB.size
  have hB := ext_trans hB hGw12
  have ha := ha0.ext hB
  have hN14 : NatsR w12.heap.size w12 [.slice Aa ma ca] [xa] := (NatsR.cons ha.norm (NatsR.nil _ _))
  refine WL.call Try.func15 rfl Try.nm15 rfl rfl (long_c hO13.rd hN14 (20) (by omega)) ?_
  rintro _ w15 ⟨b16, rfl, hGw15, hlong⟩
  have hB := ext_trans hB hGw15
  have ha := ha0.ext hB
  have hO13 := hO13.ext hGw15
  refine WL.done ?_
  refine W.cond2 rfl (fun c17 => ?_) (fun c17 => ?_)
  · skip
    refine W.seq ?_
    refine W.region ?_
    refine WL.assign rfl rfl ?_
    refine WL.done ?_
    refine W.ret ?_
    refine ⟨_, rfl, ?_⟩
    exact ⟨rfl, hB⟩
  · skip
    have hla : xa.length ≤ 20 := hlong c17 0 (by simp)
    refine W.skip ?_
    refine W.seq ?_
    refine W.region ?_
    refine WL.move rfl rfl ?_
    refine WL.move rfl rfl ?_
    refine WL.call Try.func36 rfl Try.nm36 rfl rfl (Pow_ok ha hLa n (by omega) (by omega) (by omega) hbig) ?_
    rintro _ w18 ⟨A19, m20, cp21, rfl, hGw18, hO22, hm23⟩
    have hO22 := hO22.low (b' := w.heap.size) hB.size
    have hB := ext_trans hB hGw18
    have ha := ha0.ext hB
    have hO13 := hO13.ext hGw18
    have hO22_l := hO22.rd.ulen
    refine WL.move rfl rfl ?_
    refine WL.extract rfl rfl rfl ?_
    refine WL.extract rfl rfl rfl ?_
    refine WL.assign rfl rfl ?_
    refine WL.assign rfl rfl ?_
    refine WL.done ?_
    refine W.seq ?_
    refine W.region ?_
    refine WL.move rfl rfl ?_
    refine WL.move rfl rfl ?_
    refine WL.call Try.func37 rfl Try.nm37 rfl rfl (rPow_ok ha hLa n (by omega) (by omega) (by omega) hbig) ?_
    rintro _ w24 ⟨A25, m26, cp27, rfl, hGw24, hO28, hm29⟩
    have hO28 := hO28.low (b' := w.heap.size) hB.size
    have hB := ext_trans hB hGw24
    have ha := ha0.ext hB
    have hO13 := hO13.ext hGw24
    have hO22 := hO22.ext hGw24
    have hO28_l := hO28.rd.ulen
    refine WL.move rfl rfl ?_
    refine WL.extract rfl rfl rfl ?_
    refine WL.extract rfl rfl rfl ?_
    refine WL.assign rfl rfl ?_
    refine WL.assign rfl rfl ?_
    refine WL.done ?_
    refine W.seq ?_
    refine W.region ?_
    refine WL.move rfl rfl ?_
    refine WL.move rfl rfl ?_
    refine WL.eql rfl rfl rfl (fun c30 => ?_) (fun c30 => ?_)
    · refine WL.move rfl rfl ?_
      refine WL.take rfl ?_
      refine WL.move rfl rfl ?_
      refine WL.take rfl ?_
      refine WL.move rfl rfl ?_
      refine WL.take rfl ?_
      refine WL.call Try.func18 rfl Try.nm18 rfl rfl (same_t hO22.rd hO28.rd (by first | with_reducible rfl | (refine digs_congr ?_; simp; done) | (refine digs_congr ?_; simp; omega) | (refine digs_congr ?_; simp only [prodN_cons, prodN_nil, sumN_cons, sumN_nil, nv_digs, Nat.mul_one, Nat.add_zero, Nat.mul_add, Nat.add_mul] <;> ac_rfl) | (refine digs_lit (k := _) ?_ ?_ ?_ <;> simp; done) | (rw [trimL_digs _ hLa]; refine digs_congr ?_; simp; done) | (rw [trimL_digs _ hLa]; refine digs_congr ?_; simp; omega))) ?_
      rintro _ w31 ⟨rfl, hGw31⟩
      have hB := ext_trans hB hGw31
      have ha := ha0.ext hB
      have hO13 := hO13.ext hGw31
      have hO22 := hO22.ext hGw31
      have hO28 := hO28.ext hGw31
      refine WL.pick rfl rfl rfl ?_
      refine WL.assign rfl rfl ?_
      refine WL.done ?_
      refine W.ret ?_
      refine ⟨_, rfl, ?_⟩
      exact ⟨rfl, hB⟩
    · exfalso
      omega

theorem NatPowers_err {w : World} {Ba : Nat} {Aa : Option Addr} {ma ca : Nat} {xa : List Nat} (ha : Rd Ba w 1 Aa ma ca (us xa)) (hLa : Lim xa) (n : Nat) {X : Int} (hX : X = n) (hn : n < 9223372036854775808) (hbig : bigN ≤ nv xa ^ n) :
    Calls Try.prog 11 #[.slice Aa ma ca, .int .i64 X] w fun e w2 => ∃ v, e = .returned v ∧ (fun v w2 => v = .bool true ∧ w.grownBy w2 none) v w2 := by
  have ha := ha.norm
  have ha_l := ha.ulen
  have ha_x := ha.max
  simp only [maxLen] at ha_x
  have ha_c := ha.cap
  have ha0 := ha
  have hB := ext_refl w
  refine calls_of_W (vs := [.slice Aa ma ca, .int .i64 X]) [4] Try.func11 rfl rfl rfl rfl ?_
  refine W.seq ?_
  refine W.region ?_
  refine WL.assign rfl rfl ?_
  refine WL.done ?_
  refine W.seq ?_
  refine W.seq ?_
  refine W.region ?_
  refine WL.move rfl rfl ?_
  refine WL.lit1 (b := w.heap.size) Try.underlying39 Try.el23 rfl rfl rfl rfl (by intro v hv; simp only [List.mem_cons, List.not_mem_nil, or_false] at hv; rcases hv with rfl <;> rfl) (Nat.le_refl _) rfl ?_
  rintro A11 w12 - hO13 hGw12
  have hO13 := hO13.low (b' := w.heap.size) hB.size
  have hB := ext_trans hB hGw12
  have ha := ha0.ext hB
  have hN14 : NatsR w12.heap.size w12 [.slice Aa ma ca] [xa] := (NatsR.cons ha.norm (NatsR.nil _ _))
  refine WL.call Try.func15 rfl Try.nm15 rfl rfl (long_c hO13.rd hN14 (20) (by omega)) ?_
  rintro _ w15 ⟨b16, rfl, hGw15, hlong⟩
  have hB := ext_trans hB hGw15
  have ha := ha0.ext hB
  have hO13 := hO13.ext hGw15
  refine WL.done ?_
  refine W.cond2 rfl (fun c17 => ?_) (fun c17 => ?_)
  · skip
    refine W.seq ?_
    refine W.region ?_
    refine WL.assign rfl rfl ?_
    refine WL.done ?_
    refine W.ret ?_
    refine ⟨_, rfl, ?_⟩
    exact ⟨rfl, hB⟩
  · skip
    have hla : xa.length ≤ 20 := hlong c17 0 (by simp)
    refine W.skip ?_
    refine W.seq ?_
    refine W.region ?_
    refine WL.move rfl rfl ?_
    refine WL.move rfl rfl ?_
    refine WL.call Try.func36 rfl Try.nm36 rfl rfl (Pow_err ha hLa n (by omega) (by omega) (by omega) hbig) ?_
    rintro _ w18 ⟨rfl, hGw18⟩
    have hB := ext_trans hB hGw18
    have ha := ha0.ext hB
    have hO13 := hO13.ext hGw18
    refine WL.move rfl rfl ?_
    refine WL.extract rfl rfl rfl ?_
    refine WL.extract rfl rfl rfl ?_
    refine WL.assign rfl rfl ?_
    refine WL.assign rfl rfl ?_
    refine WL.done ?_
    refine W.seq ?_
    refine W.region ?_
    refine WL.move rfl rfl ?_
    refine WL.move rfl rfl ?_
    refine WL.call Try.func37 rfl Try.nm37 rfl rfl (rPow_err ha hLa n (by omega) (by omega) (by omega) hbig) ?_
    rintro _ w19 ⟨rfl, hGw19⟩
    have hB := ext_trans hB hGw19
    have ha := ha0.ext hB
    have hO13 := hO13.ext hGw19
    refine WL.move rfl rfl ?_
    refine WL.extract rfl rfl rfl ?_
    refine WL.extract rfl rfl rfl ?_
    refine WL.assign rfl rfl ?_
    refine WL.assign rfl rfl ?_
    refine WL.done ?_
    refine W.seq ?_
    refine W.region ?_
    refine WL.move rfl rfl ?_
    refine WL.move rfl rfl ?_
    refine WL.eql rfl rfl rfl (fun c20 => ?_) (fun c20 => ?_)
    · refine WL.move rfl rfl ?_
      refine WL.take rfl ?_
      refine WL.move rfl rfl ?_
      refine WL.take rfl ?_
      refine WL.move rfl rfl ?_
      refine WL.take rfl ?_
      refine WL.call Try.func18 rfl Try.nm18 rfl rfl (same_t Rd.nilU Rd.nilU (by first | with_reducible rfl | (refine digs_congr ?_; simp; done) | (refine digs_congr ?_; simp; omega) | (refine digs_congr ?_; simp only [prodN_cons, prodN_nil, sumN_cons, sumN_nil, nv_digs, Nat.mul_one, Nat.add_zero, Nat.mul_add, Nat.add_mul] <;> ac_rfl) | (refine digs_lit (k := _) ?_ ?_ ?_ <;> simp; done) | (rw [trimL_digs _ hLa]; refine digs_congr ?_; simp; done) | (rw [trimL_digs _ hLa]; refine digs_congr ?_; simp; omega))) ?_
      rintro _ w21 ⟨rfl, hGw21⟩
      have hB := ext_trans hB hGw21
      have ha := ha0.ext hB
      have hO13 := hO13.ext hGw21
      refine WL.pick rfl rfl rfl ?_
      refine WL.assign rfl rfl ?_
      refine WL.done ?_
      refine W.ret ?_
      refine ⟨_, rfl, ?_⟩
      exact ⟨rfl, hB⟩
    · exfalso
      omega

theorem NatPowers_c {w : World} {Ba : Nat} {Aa : Option Addr} {ma ca : Nat} {xa : List Nat} (ha : Rd Ba w 1 Aa ma ca (us xa)) (hLa : Lim xa) {X : Int} (hX : -9223372036854775808 ≤ X ∧ X ≤ 9223372036854775807) : Calls Try.prog 11 #[.slice Aa ma ca, .int .i64 X] w fun e w2 => ∃ v, e = .returned v ∧ (fun v w2 => v = .bool true ∧ w.grownBy w2 none) v w2 := by
  rcases Int.lt_or_le X 0 with h | h
  · exact NatPowers_neg ha hLa h
  · rcases Nat.lt_or_ge (nv xa ^ X.toNat) bigN with h1 | h1
    · exact NatPowers_ok ha hLa X.toNat (by omega) (by omega) h1
    · exact NatPowers_err ha hLa X.toNat (by omega) (by omega) h1

theorem NatExponents_n {w : World} {Ba : Nat} {Aa : Option Addr} {ma ca : Nat} {xa : List Nat} (ha : Rd Ba w 1 Aa ma ca (us xa)) {Bb : Nat} {Ab : Option Addr} {mb cb : Nat} {xb : List Nat} (hb : Rd Bb w 1 Ab mb cb (us xb)) (hLa : Lim xa) (hLb : Lim xb) (p : Nat) {X : Int} (hX : X = p) (hp : p < 256) (q : Nat) {Y : Int} (hY : Y = q) (hq : q < 256) (hza : ma * 4 ≤ 140737488351232) (hzb : mb * 4 ≤ 140737488351232) :
    Calls Try.prog 12 #[.slice Aa ma ca, .slice Ab mb cb, .int .u8 X, .int .u8 Y] w fun e w2 => ∃ v, e = .returned v ∧ (fun v w2 => v = .bool true ∧ w.grownBy w2 none) v w2 := by
  have ha := ha.norm
  have ha_l := ha.ulen
  have ha_x := ha.max
  simp only [maxLen] at ha_x
  have ha_c := ha.cap
  have hb := hb.norm
  have hb_l := hb.ulen
  have hb_x := hb.max
  simp only [maxLen] at hb_x
  have hb_c := hb.cap
  have ha0 := ha
  have hb0 := hb
  have hB := ext_refl w
  refine calls_of_W (vs := [.slice Aa ma ca, .slice Ab mb cb, .int .u8 X, .int .u8 Y]) [8] Try.func12 rfl rfl rfl rfl ?_
  refine W.seq ?_
  refine W.region ?_
  refine WL.assign rfl rfl ?_
  refine WL.done ?_
  refine W.seq ?_
  refine W.seq ?_
  refine W.region ?_
  refine WL.move rfl rfl ?_
  refine WL.len Try.underlying23 rfl rfl ?_
  refine WL.move rfl rfl ?_
  refine WL.len Try.underlying23 rfl rfl ?_
  refine WL.add (r := ((ma + mb : Nat) : Int)) rfl rfl (wi64 (by omega) (by omega) (by omega)) rfl ?_
  refine WL.gtr rfl rfl rfl (fun c11 => ?_) (fun c11 => ?_)
  · refine WL.done ?_
    refine W.condT rfl ?_
    refine W.seq ?_
    refine W.region ?_
    refine WL.assign rfl rfl ?_
    refine WL.done ?_
    refine W.ret ?_
    refine ⟨_, rfl, ?_⟩
    exact ⟨rfl, hB⟩
  · refine WL.done ?_
    refine W.condF rfl ?_
    refine W.skip ?_
    refine W.seq ?_
    refine W.region ?_
    refine WL.move rfl rfl ?_
    refine WL.move rfl rfl ?_
    refine WL.conv (r := X) Try.underlying5 Try.underlying3 rfl (wi64 (by omega) (by omega) (by omega)) rfl ?_
    refine WL.move rfl rfl ?_
    refine WL.conv (r := Y) Try.underlying5 Try.underlying3 rfl (wi64 (by omega) (by omega) (by omega)) rfl ?_
    refine WL.add (r := ((p + q : Nat) : Int)) rfl rfl (wi64 (by omega) (by omega) (by omega)) rfl ?_
    refine WL.call Try.func36 rfl Try.nm36 rfl rfl (Pow_ok ha hLa (p + q) (by omega) (by omega) (by omega) (exp_ok (nv_lt8 hLa (by omega)) (by omega))) ?_
    rintro _ w12 ⟨A13, m14, cp15, rfl, hGw12, hO16, hm17⟩
    have hO16 := hO16.low (b' := w.heap.size) hB.size
    have hB := ext_trans hB hGw12
    have ha := ha0.ext hB
    have hb := hb0.ext hB
    have hO16_l := hO16.rd.ulen
    refine WL.move rfl rfl ?_
    refine WL.extract rfl rfl rfl ?_
    refine WL.extract rfl rfl rfl ?_
    refine WL.assign rfl rfl ?_
    refine WL.assign rfl rfl ?_
    refine WL.done ?_
    refine W.seq ?_
    refine W.region ?_
    refine WL.move rfl rfl ?_
    refine WL.move rfl rfl ?_
    refine WL.conv (r := X) Try.underlying5 Try.underlying3 rfl (wi64 (by omega) (by omega) (by omega)) rfl ?_
    refine WL.call Try.func36 rfl Try.nm36 rfl rfl (Pow_ok ha hLa (p) (by omega) (by omega) (by omega) (exp_ok (nv_lt8 hLa (by omega)) (by omega))) ?_
    rintro _ w18 ⟨A19, m20, cp21, rfl, hGw18, hO22, hm23⟩
    have hO22 := hO22.low (b' := w.heap.size) hB.size
    have hB := ext_trans hB hGw18
    have ha := ha0.ext hB
    have hb := hb0.ext hB
    have hO16 := hO16.ext hGw18
    have hO22_l := hO22.rd.ulen
    refine WL.move rfl rfl ?_
    refine WL.extract rfl rfl rfl ?_
    refine WL.extract rfl rfl rfl ?_
    refine WL.assign rfl rfl ?_
    refine WL.assign rfl rfl ?_
    refine WL.done ?_
    refine W.seq ?_
    refine W.region ?_
    refine WL.move rfl rfl ?_
    refine WL.move rfl rfl ?_
    refine WL.conv (r := Y) Try.underlying5 Try.underlying3 rfl (wi64 (by omega) (by omega) (by omega)) rfl ?_
    refine WL.call Try.func36 rfl Try.nm36 rfl rfl (Pow_ok ha hLa (q) (by omega) (by omega) (by omega) (exp_ok (nv_lt8 hLa (by omega)) (by omega))) ?_
    rintro _ w24 ⟨A25, m26, cp27, rfl, hGw24, hO28, hm29⟩
    have hO28 := hO28.low (b' := w.heap.size) hB.size
    have hB := ext_trans hB hGw24
    have ha := ha0.ext hB
    have hb := hb0.ext hB
    have hO16 := hO16.ext hGw24
    have hO22 := hO22.ext hGw24
    have hO28_l := hO28.rd.ulen
    refine WL.move rfl rfl ?_
    refine WL.extract rfl rfl rfl ?_
    refine WL.extract rfl rfl rfl ?_
    refine WL.assign rfl rfl ?_
    refine WL.assign rfl rfl ?_
    refine WL.done ?_
    refine W.seq ?_
    refine W.region ?_
    refine WL.move rfl rfl ?_
    refine WL.move rfl rfl ?_
    refine WL.lit1 (b := w24.heap.size) Try.underlying39 Try.el23 rfl rfl rfl rfl (by intro v hv; simp only [List.mem_cons, List.not_mem_nil, or_false] at hv; rcases hv with rfl | rfl <;> rfl) (Nat.le_refl _) rfl ?_
    rintro A30 w31 - hO32 hGw31
    have hO32 := hO32.low (b' := w.heap.size) hB.size
    have hB := ext_trans hB hGw31
    have ha := ha0.ext hB
    have hb := hb0.ext hB
    have hO16 := hO16.ext hGw31
    have hO22 := hO22.ext hGw31
    have hO28 := hO28.ext hGw31
    have hN33 : NatsR w31.heap.size w31 [.slice Aa ma ca, .slice Ab mb cb] [xa, xb] := (NatsR.cons ha.norm (NatsR.cons hb.norm (NatsR.nil _ _)))
    refine WL.call Try.func31 rfl Try.nm31 rfl rfl (Mul_c hO32.rd hN33 (LimAll.cons hLa (LimAll.cons hLb LimAll.nil)) 8 (LenAll.cons (by first | omega | (simp; done) | (simp; omega)) (LenAll.cons (by first | omega | (simp; done) | (simp; omega)) (LenAll.nil _))) (by simp)) ?_
    rintro _ w34 ⟨A35, m36, cp37, rfl, hGw34, hO38, hm39⟩
    have hO38 := hO38.low (b' := w.heap.size) hB.size
    have hB := ext_trans hB hGw34
    have ha := ha0.ext hB
    have hb := hb0.ext hB
    have hO16 := hO16.ext hGw34
    have hO22 := hO22.ext hGw34
    have hO28 := hO28.ext hGw34
    have hO32 := hO32.ext hGw34
    have hO38_l := hO38.rd.ulen
    try simp only [List.length_cons, List.length_nil] at hm39
    refine WL.move rfl rfl ?_
    refine WL.conv (r := Y) Try.underlying5 Try.underlying3 rfl (wi64 (by omega) (by omega) (by omega)) rfl ?_
    refine WL.call Try.func36 rfl Try.nm36 rfl rfl (Pow_ok hO38.rd (digs_lim _) (q) (by omega) (by omega) (by omega) (exp_ok (by rw [nv_digs]; exact prod_lt8 hLa hLb (by omega)) (by omega))) ?_
    rintro _ w40 ⟨A41, m42, cp43, rfl, hGw40, hO44, hm45⟩
    have hO44 := hO44.low (b' := w.heap.size) hB.size
    have hB := ext_trans hB hGw40
    have ha := ha0.ext hB
    have hb := hb0.ext hB
    have hO16 := hO16.ext hGw40
    have hO22 := hO22.ext hGw40
    have hO28 := hO28.ext hGw40
    have hO32 := hO32.ext hGw40
    have hO38 := hO38.ext hGw40
    have hO44_l := hO44.rd.ulen
    refine WL.move rfl rfl ?_
    refine WL.extract rfl rfl rfl ?_
    refine WL.extract rfl rfl rfl ?_
    refine WL.assign rfl rfl ?_
    refine WL.assign rfl rfl ?_
    refine WL.done ?_
    refine W.seq ?_
    refine W.region ?_
    refine WL.move rfl rfl ?_
    refine WL.move rfl rfl ?_
    refine WL.conv (r := Y) Try.underlying5 Try.underlying3 rfl (wi64 (by omega) (by omega) (by omega)) rfl ?_
    refine WL.call Try.func36 rfl Try.nm36 rfl rfl (Pow_ok hb hLb (q) (by omega) (by omega) (by omega) (exp_ok (nv_lt8 hLb (by omega)) (by omega))) ?_
    rintro _ w46 ⟨A47, m48, cp49, rfl, hGw46, hO50, hm51⟩
    have hO50 := hO50.low (b' := w.heap.size) hB.size
    have hB := ext_trans hB hGw46
    have ha := ha0.ext hB
    have hb := hb0.ext hB
    have hO16 := hO16.ext hGw46
    have hO22 := hO22.ext hGw46
    have hO28 := hO28.ext hGw46
    have hO32 := hO32.ext hGw46
    have hO38 := hO38.ext hGw46
    have hO44 := hO44.ext hGw46
    have hO50_l := hO50.rd.ulen
    refine WL.move rfl rfl ?_
    refine WL.extract rfl rfl rfl ?_
    refine WL.extract rfl rfl rfl ?_
    refine WL.assign rfl rfl ?_
    refine WL.assign rfl rfl ?_
    refine WL.done ?_
    refine W.seq ?_
    refine W.seq ?_
    refine W.region ?_
    refine WL.move rfl rfl ?_
    refine WL.neq rfl rfl rfl (fun c52 => ?_) (fun c52 => ?_)
    · exfalso
      omega
    · refine WL.move rfl rfl ?_
      refine WL.take rfl ?_
      refine WL.move rfl rfl ?_
      refine WL.take rfl ?_
      refine WL.neq rfl rfl rfl (fun c53 => ?_) (fun c53 => ?_)
      · exfalso
        omega
      · refine WL.pick rfl rfl rfl ?_
        refine WL.move rfl rfl ?_
        refine WL.take rfl ?_
        refine WL.move rfl rfl ?_
        refine WL.take rfl ?_
        refine WL.neq rfl rfl rfl (fun c54 => ?_) (fun c54 => ?_)
        · exfalso
          omega
        · refine WL.pick rfl rfl rfl ?_
          refine WL.move rfl rfl ?_
          refine WL.take rfl ?_
          refine WL.move rfl rfl ?_
          refine WL.take rfl ?_
          refine WL.neq rfl rfl rfl (fun c55 => ?_) (fun c55 => ?_)
          · exfalso
            omega
          · refine WL.pick rfl rfl rfl ?_
            refine WL.move rfl rfl ?_
            refine WL.take rfl ?_
            refine WL.move rfl rfl ?_
            refine WL.take rfl ?_
            refine WL.neq rfl rfl rfl (fun c56 => ?_) (fun c56 => ?_)
            · exfalso
              omega
            · refine WL.pick rfl rfl rfl ?_
              refine WL.done ?_
              refine W.condF rfl ?_
              refine W.skip ?_
              refine W.seq ?_
              refine W.region ?_
              refine WL.lit1 (b := w46.heap.size) Try.underlying23 Try.el40 rfl rfl rfl rfl (by intro v hv; simp only [List.mem_cons, List.not_mem_nil, or_false] at hv; rcases hv with rfl <;> rfl) (Nat.le_refl _) rfl ?_
              rintro A57 w58 - hO59 hGw58
              have hO59 := hO59.low (b' := w.heap.size) hB.size
              have hB := ext_trans hB hGw58
              have ha := ha0.ext hB
              have hb := hb0.ext hB
              have hO16 := hO16.ext hGw58
              have hO22 := hO22.ext hGw58
              have hO28 := hO28.ext hGw58
              have hO32 := hO32.ext hGw58
              have hO38 := hO38.ext hGw58
              have hO44 := hO44.ext hGw58
              have hO50 := hO50.ext hGw58
              change Own _ _ _ _ _ _ _ (us [2]) at hO59
              refine WL.call Try.func36 rfl Try.nm36 rfl rfl (Pow_ok hO59.rd (by intro x hx; simp only [List.mem_cons, List.not_mem_nil, or_false] at hx; omega) (3) (by omega) (by omega) (by omega) (exp_ok (nv_lt8 (Lim.one (by decide)) (by decide)) (by omega))) ?_
              rintro _ w60 ⟨A61, m62, cp63, rfl, hGw60, hO64, hm65⟩
              have hO64 := hO64.low (b' := w.heap.size) hB.size
              have hB := ext_trans hB hGw60
              have ha := ha0.ext hB
              have hb := hb0.ext hB
              have hO16 := hO16.ext hGw60
              have hO22 := hO22.ext hGw60
              have hO28 := hO28.ext hGw60
              have hO32 := hO32.ext hGw60
              have hO38 := hO38.ext hGw60
              have hO44 := hO44.ext hGw60
              have hO50 := hO50.ext hGw60
              have hO59 := hO59.ext hGw60
              have hO64_l := hO64.rd.ulen
              refine WL.move rfl rfl ?_
              refine WL.extract rfl rfl rfl ?_
              refine WL.extract rfl rfl rfl ?_
              refine WL.assign rfl rfl ?_
              refine WL.assign rfl rfl ?_
              refine WL.done ?_
              refine W.seq ?_
              refine W.region ?_
              refine WL.move rfl rfl ?_
              refine WL.eql rfl rfl rfl (fun c66 => ?_) (fun c66 => ?_)
              · refine WL.move rfl rfl ?_
                refine WL.take rfl ?_
                refine WL.move rfl rfl ?_
                refine WL.take rfl ?_
                refine WL.lit1 (b := w60.heap.size) Try.underlying23 Try.el40 rfl rfl rfl rfl (by intro v hv; simp only [List.mem_cons, List.not_mem_nil, or_false] at hv; rcases hv with rfl <;> rfl) (Nat.le_refl _) rfl ?_
                rintro A67 w68 - hO69 hGw68
                have hO69 := hO69.low (b' := w.heap.size) hB.size
                have hB := ext_trans hB hGw68
                have ha := ha0.ext hB
                have hb := hb0.ext hB
                have hO16 := hO16.ext hGw68
                have hO22 := hO22.ext hGw68
                have hO28 := hO28.ext hGw68
                have hO32 := hO32.ext hGw68
                have hO38 := hO38.ext hGw68
                have hO44 := hO44.ext hGw68
                have hO50 := hO50.ext hGw68
                have hO59 := hO59.ext hGw68
                have hO64 := hO64.ext hGw68
                change Own _ _ _ _ _ _ _ (us [8]) at hO69
                refine WL.take rfl ?_
                refine WL.call Try.func18 rfl Try.nm18 rfl rfl (same_t hO64.rd hO69.rd (digs_lit (k := 8) (by simp) (by decide) (by decide))) ?_
                rintro _ w70 ⟨rfl, hGw70⟩
                have hB := ext_trans hB hGw70
                have ha := ha0.ext hB
                have hb := hb0.ext hB
                have hO16 := hO16.ext hGw70
                have hO22 := hO22.ext hGw70
                have hO28 := hO28.ext hGw70
                have hO32 := hO32.ext hGw70
                have hO38 := hO38.ext hGw70
                have hO44 := hO44.ext hGw70
                have hO50 := hO50.ext hGw70
                have hO59 := hO59.ext hGw70
                have hO64 := hO64.ext hGw70
                have hO69 := hO69.ext hGw70
                refine WL.pick rfl rfl rfl ?_
                refine WL.move rfl rfl ?_
                refine WL.take rfl ?_
                refine WL.move rfl rfl ?_
                refine WL.take rfl ?_
                refine WL.move rfl rfl ?_
                refine WL.take rfl ?_
                refine WL.move rfl rfl ?_
                refine WL.take rfl ?_
                refine WL.lit1 (b := w70.heap.size) Try.underlying39 Try.el23 rfl rfl rfl rfl (by intro v hv; simp only [List.mem_cons, List.not_mem_nil, or_false] at hv; rcases hv with rfl | rfl <;> rfl) (Nat.le_refl _) rfl ?_
                rintro A71 w72 - hO73 hGw72
                have hO73 := hO73.low (b' := w.heap.size) hB.size
                have hB := ext_trans hB hGw72
                have ha := ha0.ext hB
                have hb := hb0.ext hB
                have hO16 := hO16.ext hGw72
                have hO22 := hO22.ext hGw72
                have hO28 := hO28.ext hGw72
                have hO32 := hO32.ext hGw72
                have hO38 := hO38.ext hGw72
                have hO44 := hO44.ext hGw72
                have hO50 := hO50.ext hGw72
                have hO59 := hO59.ext hGw72
                have hO64 := hO64.ext hGw72
                have hO69 := hO69.ext hGw72
                have hN74 : NatsR w72.heap.size w72 [.slice A19 m20 cp21, .slice A25 m26 cp27] [digs (nv xa ^ p), digs (nv xa ^ q)] := (NatsR.cons hO22.rd.norm (NatsR.cons hO28.rd.norm (NatsR.nil _ _)))
                refine WL.take rfl ?_
                refine WL.call Try.func31 rfl Try.nm31 rfl rfl (Mul_c hO73.rd hN74 (LimAll.cons (digs_lim _) (LimAll.cons (digs_lim _) LimAll.nil)) 1048576 (LenAll.cons (by first | omega | (simp; done) | (simp; omega)) (LenAll.cons (by first | omega | (simp; done) | (simp; omega)) (LenAll.nil _))) (by simp)) ?_
                rintro _ w75 ⟨A76, m77, cp78, rfl, hGw75, hO79, hm80⟩
                have hO79 := hO79.low (b' := w.heap.size) hB.size
                have hB := ext_trans hB hGw75
                have ha := ha0.ext hB
                have hb := hb0.ext hB
                have hO16 := hO16.ext hGw75
                have hO22 := hO22.ext hGw75
                have hO28 := hO28.ext hGw75
                have hO32 := hO32.ext hGw75
                have hO38 := hO38.ext hGw75
                have hO44 := hO44.ext hGw75
                have hO50 := hO50.ext hGw75
                have hO59 := hO59.ext hGw75
                have hO64 := hO64.ext hGw75
                have hO69 := hO69.ext hGw75
                have hO73 := hO73.ext hGw75
                have hO79_l := hO79.rd.ulen
                try simp only [List.length_cons, List.length_nil] at hm80
                refine WL.take rfl ?_
                refine WL.call Try.func18 rfl Try.nm18 rfl rfl (same_t hO16.rd hO79.rd (digs_congr (by simp [Nat.pow_add]))) ?_
                rintro _ w81 ⟨rfl, hGw81⟩
                have hB := ext_trans hB hGw81
                have ha := ha0.ext hB
                have hb := hb0.ext hB
                have hO16 := hO16.ext hGw81
                have hO22 := hO22.ext hGw81
                have hO28 := hO28.ext hGw81
                have hO32 := hO32.ext hGw81
                have hO38 := hO38.ext hGw81
                have hO44 := hO44.ext hGw81
                have hO50 := hO50.ext hGw81
                have hO59 := hO59.ext hGw81
                have hO64 := hO64.ext hGw81
                have hO69 := hO69.ext hGw81
                have hO73 := hO73.ext hGw81
                have hO79 := hO79.ext hGw81
                refine WL.pick rfl rfl rfl ?_
                refine WL.move rfl rfl ?_
                refine WL.take rfl ?_
                refine WL.move rfl rfl ?_
                refine WL.take rfl ?_
                refine WL.move rfl rfl ?_
                refine WL.take rfl ?_
                refine WL.move rfl rfl ?_
                refine WL.take rfl ?_
                refine WL.lit1 (b := w81.heap.size) Try.underlying39 Try.el23 rfl rfl rfl rfl (by intro v hv; simp only [List.mem_cons, List.not_mem_nil, or_false] at hv; rcases hv with rfl | rfl <;> rfl) (Nat.le_refl _) rfl ?_
                rintro A82 w83 - hO84 hGw83
                have hO84 := hO84.low (b' := w.heap.size) hB.size
                have hB := ext_trans hB hGw83
                have ha := ha0.ext hB
                have hb := hb0.ext hB
                have hO16 := hO16.ext hGw83
                have hO22 := hO22.ext hGw83
                have hO28 := hO28.ext hGw83
                have hO32 := hO32.ext hGw83
                have hO38 := hO38.ext hGw83
                have hO44 := hO44.ext hGw83
                have hO50 := hO50.ext hGw83
                have hO59 := hO59.ext hGw83
                have hO64 := hO64.ext hGw83
                have hO69 := hO69.ext hGw83
                have hO73 := hO73.ext hGw83
                have hO79 := hO79.ext hGw83
                have hN85 : NatsR w83.heap.size w83 [.slice A25 m26 cp27, .slice A47 m48 cp49] [digs (nv xa ^ q), digs (nv xb ^ q)] := (NatsR.cons hO28.rd.norm (NatsR.cons hO50.rd.norm (NatsR.nil _ _)))
                refine WL.take rfl ?_
                refine WL.call Try.func31 rfl Try.nm31 rfl rfl (Mul_c hO84.rd hN85 (LimAll.cons (digs_lim _) (LimAll.cons (digs_lim _) LimAll.nil)) 1048576 (LenAll.cons (by first | omega | (simp; done) | (simp; omega)) (LenAll.cons (by first | omega | (simp; done) | (simp; omega)) (LenAll.nil _))) (by simp)) ?_
                rintro _ w86 ⟨A87, m88, cp89, rfl, hGw86, hO90, hm91⟩
                have hO90 := hO90.low (b' := w.heap.size) hB.size
                have hB := ext_trans hB hGw86
                have ha := ha0.ext hB
                have hb := hb0.ext hB
                have hO16 := hO16.ext hGw86
                have hO22 := hO22.ext hGw86
                have hO28 := hO28.ext hGw86
                have hO32 := hO32.ext hGw86
                have hO38 := hO38.ext hGw86
                have hO44 := hO44.ext hGw86
                have hO50 := hO50.ext hGw86
                have hO59 := hO59.ext hGw86
                have hO64 := hO64.ext hGw86
                have hO69 := hO69.ext hGw86
                have hO73 := hO73.ext hGw86
                have hO79 := hO79.ext hGw86
                have hO84 := hO84.ext hGw86
                have hO90_l := hO90.rd.ulen
                try simp only [List.length_cons, List.length_nil] at hm91
                refine WL.take rfl ?_
                refine WL.call Try.func18 rfl Try.nm18 rfl rfl (same_t hO44.rd hO90.rd (digs_congr (by simp [Nat.mul_pow]))) ?_
                rintro _ w92 ⟨rfl, hGw92⟩
                have hB := ext_trans hB hGw92
                have ha := ha0.ext hB
                have hb := hb0.ext hB
                have hO16 := hO16.ext hGw92
                have hO22 := hO22.ext hGw92
                have hO28 := hO28.ext hGw92
                have hO32 := hO32.ext hGw92
                have hO38 := hO38.ext hGw92
                have hO44 := hO44.ext hGw92
                have hO50 := hO50.ext hGw92
                have hO59 := hO59.ext hGw92
                have hO64 := hO64.ext hGw92
                have hO69 := hO69.ext hGw92
                have hO73 := hO73.ext hGw92
                have hO79 := hO79.ext hGw92
                have hO84 := hO84.ext hGw92
                have hO90 := hO90.ext hGw92
                refine WL.pick rfl rfl rfl ?_
                refine WL.assign rfl rfl ?_
                refine WL.done ?_
                refine W.ret ?_
                refine ⟨_, rfl, ?_⟩
                exact ⟨rfl, hB⟩
              · exfalso
                omega
end Go.Proofs.Ythfpcebcfjlkmaa
