/- Contracts of functions of the program, and what they lean on. -/
import Derived.Test.YthfpcebcfjlkmabW8
import Derived.Test.YthfpcebcfjlkmabPw
set_option linter.unusedSimpArgs false
set_option linter.unusedVariables false
namespace Go.Proofs.Ythfpcebcfjlkmab
open Go.RowKit
theorem Len64_c {w : World} (x : Nat) {X : Int} (hX : X = x) (hx : x < 18446744073709551616) :
    Calls Try.prog 109 #[.int .u64 X] w fun e w2 => ∃ v, e = .returned v ∧ (fun v w2 => v = .int .i64 ((bitn x : Nat) : Int) ∧ w.grownBy w2 none) v w2 := by
  have s32 := @bitn_s32 x
  have s16 := @bitn_16 x
  have s8 := @bitn_8 x
  have t16 := @bitn_16 (x / 4294967296)
  have t8 := @bitn_8 (x / 4294967296)
  have u8 := @bitn_8 (x / 65536)
  have v8 := @bitn_8 (x / 4294967296 / 65536)
  have hB := ext_refl w
  refine calls_of_W (vs := [.int .u64 X]) [2] Try.func109 rfl rfl rfl rfl ?_
  refine W.seq ?_
  refine W.region ?_
  refine WL.assign rfl rfl ?_
  refine WL.done ?_
  refine W.seq ?_
  refine W.seq ?_
  refine W.region ?_
  refine WL.move rfl rfl ?_
  refine WL.geq rfl rfl rfl (fun c11 => ?_) (fun c11 => ?_)
  · refine WL.done ?_
    refine W.condT rfl ?_
    refine W.seq ?_
    refine W.region ?_
    refine WL.move rfl rfl ?_
    refine WL.shr (r := ((x / 4294967296 : Nat) : Int)) rfl rfl (by omega) (shr_nat (a := x) (s := 32) (by omega) (by omega) 64 (by omega)) rfl ?_
    refine WL.assign rfl rfl ?_
    refine WL.done ?_
    refine W.region ?_
    refine WL.assign rfl rfl ?_
    refine WL.done ?_
    refine W.seq ?_
    refine W.seq ?_
    refine W.region ?_
    refine WL.move rfl rfl ?_
    refine WL.geq rfl rfl rfl (fun c12 => ?_) (fun c12 => ?_)
    · refine WL.done ?_
      refine W.condT rfl ?_
      refine W.seq ?_
      refine W.region ?_
      refine WL.move rfl rfl ?_
      refine WL.shr (r := (((x / 4294967296) / 65536 : Nat) : Int)) rfl rfl (by omega) (shr_nat (a := x / 4294967296) (s := 16) (by omega) (by omega) 64 (by omega)) rfl ?_
      refine WL.assign rfl rfl ?_
      refine WL.done ?_
      refine W.region ?_
      refine WL.move rfl rfl ?_
      refine WL.add (r := ((32 + 16 : Nat) : Int)) rfl rfl (wi64 (by omega) (by omega) (by omega)) rfl ?_
      refine WL.assign rfl rfl ?_
      refine WL.done ?_
      refine W.seq ?_
      refine W.seq ?_
      refine W.region ?_
      refine WL.move rfl rfl ?_
      refine WL.geq rfl rfl rfl (fun c13 => ?_) (fun c13 => ?_)
      · refine WL.done ?_
        refine W.condT rfl ?_
        refine W.seq ?_
        refine W.region ?_
        refine WL.move rfl rfl ?_
        refine WL.shr (r := ((((x / 4294967296) / 65536) / 256 : Nat) : Int)) rfl rfl (by omega) (shr_nat (a := (x / 4294967296) / 65536) (s := 8) (by omega) (by omega) 64 (by omega)) rfl ?_
        refine WL.assign rfl rfl ?_
        refine WL.done ?_
        refine W.region ?_
        refine WL.move rfl rfl ?_
        refine WL.add (r := (((32 + 16) + 8 : Nat) : Int)) rfl rfl (wi64 (by omega) (by omega) (by omega)) rfl ?_
        refine WL.assign rfl rfl ?_
        refine WL.done ?_
        refine W.seq ?_
        refine W.region ?_
        refine WL.move rfl rfl ?_
        refine WL.move rfl rfl ?_
        refine WL.conv (r := ((((x / 4294967296) / 65536) / 256 : Nat) : Int)) Try.underlying72 Try.underlying5 rfl (wu8 (by omega) (by omega) (by omega)) rfl ?_
        have hb8 := bitn_8lt (x := ((x / 4294967296) / 65536) / 256) (by omega)
        refine WL.indexTab (i := ((x / 4294967296) / 65536) / 256) bitn Try.underlying9 rfl rfl (by omega) (by omega) (by decide +kernel) rfl ?_
        refine WL.conv (r := ((bitn (((x / 4294967296) / 65536) / 256) : Nat) : Int)) Try.underlying5 Try.underlying3 rfl (wi64 (by omega) (by omega) (by omega)) rfl ?_
        refine WL.add (r := ((((32 + 16) + 8) + (bitn (((x / 4294967296) / 65536) / 256)) : Nat) : Int)) rfl rfl (wi64 (by omega) (by omega) (by omega)) rfl ?_
        refine WL.assign rfl rfl ?_
        refine WL.done ?_
        refine W.ret ?_
        refine ⟨_, rfl, ?_⟩
        exact ⟨by congr 1; omega, hB⟩
      · refine WL.done ?_
        refine W.condF rfl ?_
        refine W.skip ?_
        refine W.seq ?_
        refine W.region ?_
        refine WL.move rfl rfl ?_
        refine WL.move rfl rfl ?_
        refine WL.conv (r := (((x / 4294967296) / 65536 : Nat) : Int)) Try.underlying72 Try.underlying5 rfl (wu8 (by omega) (by omega) (by omega)) rfl ?_
        have hb8 := bitn_8lt (x := (x / 4294967296) / 65536) (by omega)
        refine WL.indexTab (i := (x / 4294967296) / 65536) bitn Try.underlying9 rfl rfl (by omega) (by omega) (by decide +kernel) rfl ?_
        refine WL.conv (r := ((bitn ((x / 4294967296) / 65536) : Nat) : Int)) Try.underlying5 Try.underlying3 rfl (wi64 (by omega) (by omega) (by omega)) rfl ?_
        refine WL.add (r := (((32 + 16) + (bitn ((x / 4294967296) / 65536)) : Nat) : Int)) rfl rfl (wi64 (by omega) (by omega) (by omega)) rfl ?_
        refine WL.assign rfl rfl ?_
        refine WL.done ?_
        refine W.ret ?_
        refine ⟨_, rfl, ?_⟩
        exact ⟨by congr 1; omega, hB⟩
    · refine WL.done ?_
      refine W.condF rfl ?_
      refine W.skip ?_
      refine W.seq ?_
      refine W.seq ?_
      refine W.region ?_
      refine WL.move rfl rfl ?_
      refine WL.geq rfl rfl rfl (fun c14 => ?_) (fun c14 => ?_)
      · refine WL.done ?_
        refine W.condT rfl ?_
        refine W.seq ?_
        refine W.region ?_
        refine WL.move rfl rfl ?_
        refine WL.shr (r := (((x / 4294967296) / 256 : Nat) : Int)) rfl rfl (by omega) (shr_nat (a := x / 4294967296) (s := 8) (by omega) (by omega) 64 (by omega)) rfl ?_
        refine WL.assign rfl rfl ?_
        refine WL.done ?_
        refine W.region ?_
        refine WL.move rfl rfl ?_
        refine WL.add (r := ((32 + 8 : Nat) : Int)) rfl rfl (wi64 (by omega) (by omega) (by omega)) rfl ?_
        refine WL.assign rfl rfl ?_
        refine WL.done ?_
        refine W.seq ?_
        refine W.region ?_
        refine WL.move rfl rfl ?_
        refine WL.move rfl rfl ?_
        refine WL.conv (r := (((x / 4294967296) / 256 : Nat) : Int)) Try.underlying72 Try.underlying5 rfl (wu8 (by omega) (by omega) (by omega)) rfl ?_
        have hb8 := bitn_8lt (x := (x / 4294967296) / 256) (by omega)
        refine WL.indexTab (i := (x / 4294967296) / 256) bitn Try.underlying9 rfl rfl (by omega) (by omega) (by decide +kernel) rfl ?_
        refine WL.conv (r := ((bitn ((x / 4294967296) / 256) : Nat) : Int)) Try.underlying5 Try.underlying3 rfl (wi64 (by omega) (by omega) (by omega)) rfl ?_
        refine WL.add (r := (((32 + 8) + (bitn ((x / 4294967296) / 256)) : Nat) : Int)) rfl rfl (wi64 (by omega) (by omega) (by omega)) rfl ?_
        refine WL.assign rfl rfl ?_
        refine WL.done ?_
        refine W.ret ?_
        refine ⟨_, rfl, ?_⟩
        exact ⟨by congr 1; omega, hB⟩
      · refine WL.done ?_
        refine W.condF rfl ?_
        refine W.skip ?_
        refine W.seq ?_
        refine W.region ?_
        refine WL.move rfl rfl ?_
        refine WL.move rfl rfl ?_
        refine WL.conv (r := ((x / 4294967296 : Nat) : Int)) Try.underlying72 Try.underlying5 rfl (wu8 (by omega) (by omega) (by omega)) rfl ?_
        have hb8 := bitn_8lt (x := x / 4294967296) (by omega)
        refine WL.indexTab (i := x / 4294967296) bitn Try.underlying9 rfl rfl (by omega) (by omega) (by decide +kernel) rfl ?_
        refine WL.conv (r := ((bitn (x / 4294967296) : Nat) : Int)) Try.underlying5 Try.underlying3 rfl (wi64 (by omega) (by omega) (by omega)) rfl ?_
        refine WL.add (r := ((32 + (bitn (x / 4294967296)) : Nat) : Int)) rfl rfl (wi64 (by omega) (by omega) (by omega)) rfl ?_
        refine WL.assign rfl rfl ?_
        refine WL.done ?_
        refine W.ret ?_
        refine ⟨_, rfl, ?_⟩
        exact ⟨by congr 1; omega, hB⟩
  · refine WL.done ?_
    refine W.condF rfl ?_
    refine W.skip ?_
    refine W.seq ?_
    refine W.seq ?_
    refine W.region ?_
    refine WL.move rfl rfl ?_
    refine WL.geq rfl rfl rfl (fun c15 => ?_) (fun c15 => ?_)
    · refine WL.done ?_
      refine W.condT rfl ?_
      refine W.seq ?_
      refine W.region ?_
      refine WL.move rfl rfl ?_
      refine WL.shr (r := ((x / 65536 : Nat) : Int)) rfl rfl (by omega) (shr_nat (a := x) (s := 16) (by omega) (by omega) 64 (by omega)) rfl ?_
      refine WL.assign rfl rfl ?_
      refine WL.done ?_
      refine W.region ?_
      refine WL.move rfl rfl ?_
      refine WL.add (r := ((0 + 16 : Nat) : Int)) rfl rfl (wi64 (by omega) (by omega) (by omega)) rfl ?_
      refine WL.assign rfl rfl ?_
      refine WL.done ?_
      refine W.seq ?_
      refine W.seq ?_
      refine W.region ?_
      refine WL.move rfl rfl ?_
      refine WL.geq rfl rfl rfl (fun c16 => ?_) (fun c16 => ?_)
      · refine WL.done ?_
        refine W.condT rfl ?_
        refine W.seq ?_
        refine W.region ?_
        refine WL.move rfl rfl ?_
        refine WL.shr (r := (((x / 65536) / 256 : Nat) : Int)) rfl rfl (by omega) (shr_nat (a := x / 65536) (s := 8) (by omega) (by omega) 64 (by omega)) rfl ?_
        refine WL.assign rfl rfl ?_
        refine WL.done ?_
        refine W.region ?_
        refine WL.move rfl rfl ?_
        refine WL.add (r := (((0 + 16) + 8 : Nat) : Int)) rfl rfl (wi64 (by omega) (by omega) (by omega)) rfl ?_
        refine WL.assign rfl rfl ?_
        refine WL.done ?_
        refine W.seq ?_
        refine W.region ?_
        refine WL.move rfl rfl ?_
        refine WL.move rfl rfl ?_
        refine WL.conv (r := (((x / 65536) / 256 : Nat) : Int)) Try.underlying72 Try.underlying5 rfl (wu8 (by omega) (by omega) (by omega)) rfl ?_
        have hb8 := bitn_8lt (x := (x / 65536) / 256) (by omega)
        refine WL.indexTab (i := (x / 65536) / 256) bitn Try.underlying9 rfl rfl (by omega) (by omega) (by decide +kernel) rfl ?_
        refine WL.conv (r := ((bitn ((x / 65536) / 256) : Nat) : Int)) Try.underlying5 Try.underlying3 rfl (wi64 (by omega) (by omega) (by omega)) rfl ?_
        refine WL.add (r := ((((0 + 16) + 8) + (bitn ((x / 65536) / 256)) : Nat) : Int)) rfl rfl (wi64 (by omega) (by omega) (by omega)) rfl ?_
        refine WL.assign rfl rfl ?_
        refine WL.done ?_
        refine W.ret ?_
        refine ⟨_, rfl, ?_⟩
        exact ⟨by congr 1; omega, hB⟩
      · refine WL.done ?_
        refine W.condF rfl ?_
        refine W.skip ?_
        refine W.seq ?_
        refine W.region ?_
        refine WL.move rfl rfl ?_
        refine WL.move rfl rfl ?_
        refine WL.conv (r := ((x / 65536 : Nat) : Int)) Try.underlying72 Try.underlying5 rfl (wu8 (by omega) (by omega) (by omega)) rfl ?_
        have hb8 := bitn_8lt (x := x / 65536) (by omega)
        refine WL.indexTab (i := x / 65536) bitn Try.underlying9 rfl rfl (by omega) (by omega) (by decide +kernel) rfl ?_
        refine WL.conv (r := ((bitn (x / 65536) : Nat) : Int)) Try.underlying5 Try.underlying3 rfl (wi64 (by omega) (by omega) (by omega)) rfl ?_
        refine WL.add (r := (((0 + 16) + (bitn (x / 65536)) : Nat) : Int)) rfl rfl (wi64 (by omega) (by omega) (by omega)) rfl ?_
        refine WL.assign rfl rfl ?_
        refine WL.done ?_
        refine W.ret ?_
        refine ⟨_, rfl, ?_⟩
        exact ⟨by congr 1; omega, hB⟩
    · refine WL.done ?_
      refine W.condF rfl ?_
      refine W.skip ?_
      refine W.seq ?_
      refine W.seq ?_
      refine W.region ?_
      refine WL.move rfl rfl ?_
      refine WL.geq rfl rfl rfl (fun c17 => ?_) (fun c17 => ?_)
      · refine WL.done ?_
        refine W.condT rfl ?_
        refine W.seq ?_
        refine W.region ?_
        refine WL.move rfl rfl ?_
        refine WL.shr (r := ((x / 256 : Nat) : Int)) rfl rfl (by omega) (shr_nat (a := x) (s := 8) (by omega) (by omega) 64 (by omega)) rfl ?_
        refine WL.assign rfl rfl ?_
        refine WL.done ?_
        refine W.region ?_
        refine WL.move rfl rfl ?_
        refine WL.add (r := ((0 + 8 : Nat) : Int)) rfl rfl (wi64 (by omega) (by omega) (by omega)) rfl ?_
        refine WL.assign rfl rfl ?_
        refine WL.done ?_
        refine W.seq ?_
        refine W.region ?_
        refine WL.move rfl rfl ?_
        refine WL.move rfl rfl ?_
        refine WL.conv (r := ((x / 256 : Nat) : Int)) Try.underlying72 Try.underlying5 rfl (wu8 (by omega) (by omega) (by omega)) rfl ?_
        have hb8 := bitn_8lt (x := x / 256) (by omega)
        refine WL.indexTab (i := x / 256) bitn Try.underlying9 rfl rfl (by omega) (by omega) (by decide +kernel) rfl ?_
        refine WL.conv (r := ((bitn (x / 256) : Nat) : Int)) Try.underlying5 Try.underlying3 rfl (wi64 (by omega) (by omega) (by omega)) rfl ?_
        refine WL.add (r := (((0 + 8) + (bitn (x / 256)) : Nat) : Int)) rfl rfl (wi64 (by omega) (by omega) (by omega)) rfl ?_
        refine WL.assign rfl rfl ?_
        refine WL.done ?_
        refine W.ret ?_
        refine ⟨_, rfl, ?_⟩
        exact ⟨by congr 1; omega, hB⟩
      · refine WL.done ?_
        refine W.condF rfl ?_
        refine W.skip ?_
        refine W.seq ?_
        refine W.region ?_
        refine WL.move rfl rfl ?_
        refine WL.move rfl rfl ?_
        refine WL.conv (r := X) Try.underlying72 Try.underlying5 rfl (wu8 (by omega) (by omega) (by omega)) rfl ?_
        have hb8 := bitn_8lt (x := x) (by omega)
        refine WL.indexTab (i := x) bitn Try.underlying9 rfl rfl (by omega) (by omega) (by decide +kernel) rfl ?_
        refine WL.conv (r := ((bitn (x) : Nat) : Int)) Try.underlying5 Try.underlying3 rfl (wi64 (by omega) (by omega) (by omega)) rfl ?_
        refine WL.add (r := ((0 + (bitn (x)) : Nat) : Int)) rfl rfl (wi64 (by omega) (by omega) (by omega)) rfl ?_
        refine WL.assign rfl rfl ?_
        refine WL.done ?_
        refine W.ret ?_
        refine ⟨_, rfl, ?_⟩
        exact ⟨by congr 1; omega, hB⟩

theorem Len_c {w : World} (x : Nat) {X : Int} (hX : X = x) (hx : x < 18446744073709551616) :
    Calls Try.prog 101 #[.int .u64 X] w fun e w2 => ∃ v, e = .returned v ∧ (fun v w2 => v = .int .i64 ((bitn x : Nat) : Int) ∧ w.grownBy w2 none) v w2 := by
  have hB := ext_refl w
  refine calls_of_W (vs := [.int .u64 X]) [2] Try.func101 rfl rfl rfl rfl ?_
  refine W.seq ?_
  refine W.region ?_
  refine WL.assign rfl rfl ?_
  refine WL.done ?_
  refine W.seq ?_
  refine W.condF rfl ?_
  refine W.skip ?_
  refine W.seq ?_
  refine W.region ?_
  refine WL.move rfl rfl ?_
  refine WL.call Try.func109 rfl Try.nm109 rfl rfl (Len64_c x (by omega) (by omega)) ?_
  rintro _ w11 ⟨rfl, hGw11⟩
  have hB := ext_trans hB hGw11
  refine WL.assign rfl rfl ?_
  refine WL.done ?_
  refine W.ret ?_
  refine ⟨_, rfl, ?_⟩
  exact ⟨rfl, hB⟩

theorem powerOf_c {w : World} {Ba : Nat} {Aa : Option Addr} {ma ca : Nat} {xa : List Nat} (ha : Rd Ba w 1 Aa ma ca (us xa)) (hLa : Lim xa) (n : Nat) {X : Int} (hX : X = n) (hn0 : 0 < n) (hn : n < 9223372036854775808) (hpa : 0 < nv xa) (hp : nv xa ^ n < 4294967296 ^ c8) (hs : ma ≤ 1099511627776) :
    Calls Try.prog 94 #[.slice Aa ma ca, .int .i64 X] w fun e w2 => ∃ v, e = .returned v ∧ (fun v w2 => ∃ A2 m2 c2, v = .slice A2 m2 c2 ∧ w.grownBy w2 none ∧ Own w.heap.size w2 43 1 A2 m2 c2 (us (digs (nv xa ^ n))) ∧ 0 ≤ m2) v w2 := by
  have ha := ha.norm
  have ha_l := ha.ulen
  have ha_x := ha.max
  simp only [maxLen] at ha_x
  have ha_c := ha.cap
  have ha0 := ha
  have h8 := c8_eq
  have hbn : 0 < bitn n := bitn_lt.2 (by omega)
  have hb64 : bitn n ≤ 63 := bitn_le.2 (by omega)
  have hB := ext_refl w
  refine calls_of_W (vs := [.slice Aa ma ca, .int .i64 X]) [4] Try.func94 rfl rfl rfl rfl ?_
  refine W.seq ?_
  refine W.region ?_
  refine WL.assign rfl rfl ?_
  refine WL.done ?_
  refine W.seq ?_
  refine W.region ?_
  refine WL.move rfl rfl ?_
  refine WL.call Try.func46 rfl Try.nm46 rfl rfl (Trim_c ha (by omega)) ?_
  rintro _ w11 ⟨A12, m13, cp14, rfl, hGw11, hT, hm15⟩
  have hT := hT.low (b' := w.heap.size) hB.size
  have hB := ext_trans hB hGw11
  have ha := ha0.ext hB
  have hT_l := hT.rd.ulen
  refine WL.assign rfl rfl ?_
  refine WL.done ?_
  refine W.seq ?_
  refine W.seq ?_
  refine W.region ?_
  refine WL.move rfl rfl ?_
  refine WL.conv (r := ((n : Nat) : Int)) Try.underlying3 Try.underlying73 rfl (wu64 (by omega) (by omega) (by omega)) rfl ?_
  refine WL.call Try.func101 rfl Try.nm101 rfl rfl (Len_c n (by omega) (by omega)) ?_
  rintro _ w16 ⟨rfl, hGw16⟩
  have hB := ext_trans hB hGw16
  have ha := ha0.ext hB
  have hT := hT.ext hGw16
  refine WL.sub (r := (((bitn n : Nat) : Int) - 2)) rfl rfl (wi64 (by omega) (by omega) (by omega)) rfl ?_
  refine WL.assign rfl rfl ?_
  refine WL.done ?_
  refine W.block ?_
  refine W.loop (σ := Nat × Option Addr × Nat × Nat) (fun s w1 => match s with | (j, Ao, mo, co) => w.grownBy w1 none ∧ j ≤ 63 ∧ Own w.heap.size w1 43 1 Ao mo co (us (digs (nv xa ^ (n / 2 ^ j))))) (fun s => match s with | (j, Ao, mo, co) => [(0, .slice Aa ma ca), (1, .int .i64 X), (5, .slice Ao mo co), (6, .int .i64 (((j : Nat) : Int) - 1))]) (fun s => match s with | (j, Ao, mo, co) => j) (bitn n - 1, A12, m13, cp14) ?_ ?_ ?_
  · exact ⟨hB, by omega, by rw [top_one hn0, Nat.pow_one, ← digs_trim hLa]; exact hT⟩
  · exact ⟨rfl, iv (by omega), rfl, iv (by omega), trivial⟩
  · rintro ⟨j, Ao, mo, co⟩ w17 ⟨hB, hj, ho⟩
    have ha := ha0.ext hB
    have ho_l := ho.rd.ulen
    have hq := pow_len (k := n / 2 ^ j) hpa (Nat.div_le_self _ _) hp
    refine W.seq ?_
    refine W.seq ?_
    refine W.region ?_
    refine WL.move rfl rfl ?_
    refine WL.geq rfl rfl rfl (fun c18 => ?_) (fun c18 => ?_)
    · refine WL.done ?_
      refine W.condT rfl ?_
      refine W.skip ?_
      refine W.seq ?_
      refine W.block ?_
      refine W.seq ?_
      refine W.region ?_
      refine WL.move rfl rfl ?_
      refine WL.move rfl rfl ?_
      have hh := half_pow (n := n) (j := j) (by omega)
      have hun := Nat.div_le_self n (2 ^ (j - 1))
      refine WL.call Try.func47 rfl Try.nm47 rfl rfl (product_c ho.rd ho.rd (digs_lim _) (digs_lim _) (by omega) (by omega)) ?_
      rintro _ w19 ⟨A20, m21, cp22, rfl, hGw19, hO, hm23⟩
      have hO := hO.low (b' := w.heap.size) hB.size
      have hB := ext_trans hB hGw19
      have ha := ha0.ext hB
      have hO_l := hO.rd.ulen
      rw [nv_digs, ← Nat.pow_add] at hO
      have hO_k := hO.rd.ulen
      have hq2 := pow_len (k := n / 2 ^ j + n / 2 ^ j) hpa (by omega) hp
      refine WL.assign rfl rfl ?_
      refine WL.done ?_
      refine W.seq ?_
      refine W.region ?_
      refine WL.move rfl rfl ?_
      refine WL.move rfl rfl ?_
      refine WL.shr (r := ((n / 2 ^ (j - 1) : Nat) : Int)) rfl rfl (by omega) (shr_nat (a := n) (s := j - 1) (by omega) (by omega) 64 (by omega)) rfl ?_
      refine WL.bits (r := ((n / 2 ^ (j - 1) % 2 : Nat) : Int)) rfl rfl (.inl rfl) (and1_i64 rfl (by omega)) rfl ?_
      refine WL.eql rfl rfl rfl (fun c24 => ?_) (fun c24 => ?_)
      · refine WL.done ?_
        refine W.condT rfl ?_
        refine W.region ?_
        refine WL.move rfl rfl ?_
        refine WL.move rfl rfl ?_
        refine WL.call Try.func47 rfl Try.nm47 rfl rfl (product_c hO.rd ha (digs_lim _) hLa (by omega) (by omega)) ?_
        rintro _ w25 ⟨A26, m27, cp28, rfl, hGw25, hO2, hm29⟩
        have hO2 := hO2.low (b' := w.heap.size) hB.size
        have hB := ext_trans hB hGw25
        have hO2_l := hO2.rd.ulen
        rw [nv_digs, ← Nat.pow_succ, Nat.succ_eq_add_one] at hO2
        refine WL.assign rfl rfl ?_
        refine WL.done ?_
        refine W.region ?_
        refine WL.move rfl rfl ?_
        refine WL.sub (r := ((((j : Nat) : Int) - 1) - (1 : Int))) rfl rfl (wi64 (by omega) (by omega) (by omega)) rfl ?_
        refine WL.assign rfl rfl ?_
        refine WL.done ?_
        refine ⟨(j - 1, _, _, _), ⟨rfl, iv (by omega), rfl, iv (by omega), trivial⟩, by (dsimp only; omega), ?_⟩
        exact ⟨hB, by omega, by rw [show n / 2 ^ (j - 1) = n / 2 ^ j + n / 2 ^ j + 1 by omega]; exact hO2⟩
      · refine WL.done ?_
        refine W.condF rfl ?_
        refine W.skip ?_
        refine W.region ?_
        refine WL.move rfl rfl ?_
        refine WL.sub (r := ((((j : Nat) : Int) - 1) - (1 : Int))) rfl rfl (wi64 (by omega) (by omega) (by omega)) rfl ?_
        refine WL.assign rfl rfl ?_
        refine WL.done ?_
        refine ⟨(j - 1, _, _, _), ⟨rfl, iv (by omega), rfl, iv (by omega), trivial⟩, by (dsimp only; omega), ?_⟩
        exact ⟨hB, by omega, by rw [show n / 2 ^ (j - 1) = n / 2 ^ j + n / 2 ^ j by omega]; exact hO⟩
    · refine WL.done ?_
      refine W.condF rfl ?_
      refine W.exit ?_
      refine W.seq ?_
      refine W.region ?_
      refine WL.move rfl rfl ?_
      refine WL.assign rfl rfl ?_
      refine WL.done ?_
      refine W.ret ?_
      refine ⟨_, rfl, ?_⟩
      have hj0 : j = 0 := by omega
      subst hj0
      rw [Nat.pow_zero, Nat.div_one] at ho
      exact ⟨_, _, _, rfl, hB, ho, Nat.zero_le _⟩

theorem Pow_neg {w : World} {Ba : Nat} {Aa : Option Addr} {ma ca : Nat} {xa : List Nat} (ha : Rd Ba w 1 Aa ma ca (us xa)) (hLa : Lim xa) {X : Int} (hX : X < 0) :
    Calls Try.prog 73 #[.slice Aa ma ca, .int .i64 X] w fun e w2 => ∃ v, e = .returned v ∧ (fun v w2 => v = .tuple #[.slice none 0 0, .int .i64 6] ∧ w.grownBy w2 none) v w2 := by
  have ha := ha.norm
  have ha_l := ha.ulen
  have ha_x := ha.max
  simp only [maxLen] at ha_x
  have ha_c := ha.cap
  have ha0 := ha
  have hgt := bigN_gt
  have hbt : bitn (nv (trimL xa)) = bitn (nv xa) := by rw [nv_trimL]
  have htl := trimL_len xa
  have hbx := bitn_len hLa
  have hsx := sigL_le xa
  have hB := ext_refl w
  refine calls_of_W (vs := [.slice Aa ma ca, .int .i64 X]) [4, 5] Try.func73 rfl rfl rfl rfl ?_
  refine W.seq ?_
  refine W.region ?_
  refine WL.assign rfl rfl ?_
  refine WL.assign rfl rfl ?_
  refine WL.done ?_
  refine W.seq ?_
  refine W.seq ?_
  refine W.region ?_
  refine WL.move rfl rfl ?_
  refine WL.lss rfl rfl rfl (fun c11 => ?_) (fun c11 => ?_)
  · refine WL.done ?_
    refine W.condT rfl ?_
    refine W.seq ?_
    refine W.region ?_
    refine WL.assign rfl rfl ?_
    refine WL.assign rfl rfl ?_
    refine WL.done ?_
    refine W.ret ?_
    refine ⟨_, rfl, ?_⟩
    exact ⟨rfl, hB⟩
  · exfalso
    omega

theorem Pow_ok {w : World} {Ba : Nat} {Aa : Option Addr} {ma ca : Nat} {xa : List Nat} (ha : Rd Ba w 1 Aa ma ca (us xa)) (hLa : Lim xa) (n : Nat) {X : Int} (hX : X = n) (hn : n < 9223372036854775808) (hs : ma ≤ 1048576) (hbig : nv xa ^ n < bigN) :
    Calls Try.prog 73 #[.slice Aa ma ca, .int .i64 X] w fun e w2 => ∃ v, e = .returned v ∧ (fun v w2 => ∃ A2 m2 c2, v = .tuple #[.slice A2 m2 c2, .int .i64 0] ∧ w.grownBy w2 none ∧ Own w.heap.size w2 43 1 A2 m2 c2 (us (digs (nv xa ^ n))) ∧ m2 ≤ 4096) v w2 := by
  have ha := ha.norm
  have ha_l := ha.ulen
  have ha_x := ha.max
  simp only [maxLen] at ha_x
  have ha_c := ha.cap
  have ha0 := ha
  have hgt := bigN_gt
  have hbt : bitn (nv (trimL xa)) = bitn (nv xa) := by rw [nv_trimL]
  have htl := trimL_len xa
  have hbx := bitn_len hLa
  have hsx := sigL_le xa
  have hB := ext_refl w
  refine calls_of_W (vs := [.slice Aa ma ca, .int .i64 X]) [4, 5] Try.func73 rfl rfl rfl rfl ?_
  refine W.seq ?_
  refine W.region ?_
  refine WL.assign rfl rfl ?_
  refine WL.assign rfl rfl ?_
  refine WL.done ?_
  refine W.seq ?_
  refine W.seq ?_
  refine W.region ?_
  refine WL.move rfl rfl ?_
  refine WL.lss rfl rfl rfl (fun c11 => ?_) (fun c11 => ?_)
  · exfalso
    omega
  · refine WL.done ?_
    refine W.condF rfl ?_
    refine W.skip ?_
    refine W.seq ?_
    refine W.seq ?_
    refine W.region ?_
    refine WL.move rfl rfl ?_
    refine WL.eql rfl rfl rfl (fun c12 => ?_) (fun c12 => ?_)
    · refine WL.done ?_
      refine W.condT rfl ?_
      refine W.seq ?_
      refine W.region ?_
      refine WL.lit1 (b := w.heap.size) Try.underlying23 Try.el43 rfl rfl rfl rfl (by intro v hv; simp only [List.mem_cons, List.not_mem_nil, or_false] at hv; rcases hv with rfl <;> rfl) (Nat.le_refl _) rfl ?_
      rintro A13 w14 - hO15 hGw14
      have hO15 := hO15.low (b' := w.heap.size) hB.size
      have hB := ext_trans hB hGw14
      change Own _ _ _ _ _ _ _ (us [1]) at hO15
      refine WL.assign rfl rfl ?_
      refine WL.assign rfl rfl ?_
      refine WL.done ?_
      refine W.ret ?_
      refine ⟨_, rfl, ?_⟩
      have hn0 : n = 0 := by omega
      subst hn0
      have hO9 := hO15
      rw [← (show digs (nv xa ^ 0) = [1] from digs_lit (Nat.pow_zero _) (by decide) (by decide))] at hO9
      have hO_z := hO9.rd.ulen
      have := digs_big.2 hbig
      exact ⟨_, _, _, rfl, hB, hO9, by omega⟩
    · refine WL.done ?_
      refine W.condF rfl ?_
      refine W.skip ?_
      refine W.seq ?_
      refine W.region ?_
      refine WL.move rfl rfl ?_
      refine WL.call Try.func81 rfl Try.nm81 rfl rfl (Bits_c ha hLa (by omega)) ?_
      rintro _ w16 ⟨rfl, hGw16⟩
      have hB := ext_trans hB hGw16
      have ha := ha0.ext hB
      refine WL.assign rfl rfl ?_
      refine WL.done ?_
      refine W.seq ?_
      refine W.seq ?_
      refine W.region ?_
      refine WL.move rfl rfl ?_
      refine WL.leq rfl rfl rfl (fun c17 => ?_) (fun c17 => ?_)
      · refine WL.done ?_
        refine W.condT rfl ?_
        refine W.seq ?_
        refine W.region ?_
        refine WL.move rfl rfl ?_
        refine WL.call Try.func46 rfl Try.nm46 rfl rfl (Trim_c ha (by omega)) ?_
        rintro _ w18 ⟨A19, m20, cp21, rfl, hGw18, hO22, hm23⟩
        have hO22 := hO22.low (b' := w.heap.size) hB.size
        have hB := ext_trans hB hGw18
        have hO22_l := hO22.rd.ulen
        refine WL.assign rfl rfl ?_
        refine WL.assign rfl rfl ?_
        refine WL.done ?_
        refine W.ret ?_
        refine ⟨_, rfl, ?_⟩
        have h1 := bitn_one (a := nv xa) (by omega)
        have hO9 := hO22
        rw [digs_trim hLa, ← pow_le_one h1 (by omega : 0 < n)] at hO9
        have hO_z := hO9.rd.ulen
        have := digs_big.2 hbig
        exact ⟨_, _, _, rfl, hB, hO9, by omega⟩
      · refine WL.done ?_
        refine W.condF rfl ?_
        refine W.skip ?_
        refine W.seq ?_
        refine W.seq ?_
        refine W.region ?_
        refine WL.move rfl rfl ?_
        refine WL.move rfl rfl ?_
        have hpos : 0 < nv xa := by have := bitn_lt.1 (show 0 < bitn (nv xa) by omega); omega
        refine WL.sub (r := (((bitn (nv xa)) - 1 : Nat) : Int)) rfl rfl (wi64 (by omega) (by omega) (by omega)) rfl ?_
        refine WL.quo (r := ((131071 / ((bitn (nv xa)) - 1) : Nat) : Int)) rfl rfl (by omega) (qi64 (by omega) (by omega) (by omega)) rfl ?_
        refine WL.gtr rfl rfl rfl (fun c24 => ?_) (fun c24 => ?_)
        · exfalso
          have := pow_big (a := nv xa) (n := n) (by omega) (by omega)
          omega
        · refine WL.done ?_
          refine W.condF rfl ?_
          refine W.skip ?_
          refine W.seq ?_
          refine W.region ?_
          refine WL.move rfl rfl ?_
          refine WL.call Try.func44 rfl Try.nm44 rfl rfl (sig_c ha) ?_
          rintro _ w25 ⟨rfl, hGw25⟩
          have hB := ext_trans hB hGw25
          have ha := ha0.ext hB
          refine WL.move rfl rfl ?_
          refine WL.call Try.func94 rfl Try.nm94 rfl rfl (powerOf_c (Rd.sig ha) (Lim.trim hLa) n (by omega) (by omega) hn (by rw [nv_trimL]; omega) (by rw [nv_trimL]; exact pow_small (by omega) (by omega)) (by omega)) ?_
          rintro _ w26 ⟨A27, m28, cp29, rfl, hGw26, hO, hm30⟩
          have hO := hO.low (b' := w.heap.size) hB.size
          have hB := ext_trans hB hGw26
          have hO_l := hO.rd.ulen
          rw [nv_trimL] at hO
          have hO_k := hO.rd.ulen
          refine WL.assign rfl rfl ?_
          refine WL.done ?_
          refine W.seq ?_
          refine W.seq ?_
          refine W.region ?_
          refine WL.move rfl rfl ?_
          refine WL.len Try.underlying23 rfl rfl ?_
          refine WL.gtr rfl rfl rfl (fun c31 => ?_) (fun c31 => ?_)
          · exfalso
            have := digs_big.2 hbig
            omega
          · refine WL.done ?_
            refine W.condF rfl ?_
            refine W.skip ?_
            refine W.seq ?_
            refine W.region ?_
            refine WL.move rfl rfl ?_
            refine WL.assign rfl rfl ?_
            refine WL.assign rfl rfl ?_
            refine WL.done ?_
            refine W.ret ?_
            refine ⟨_, rfl, ?_⟩
            have hO_z := hO.rd.ulen
            have := digs_big.2 hbig
            exact ⟨_, _, _, rfl, hB, hO, by omega⟩

theorem Pow_err {w : World} {Ba : Nat} {Aa : Option Addr} {ma ca : Nat} {xa : List Nat} (ha : Rd Ba w 1 Aa ma ca (us xa)) (hLa : Lim xa) (n : Nat) {X : Int} (hX : X = n) (hn : n < 9223372036854775808) (hs : ma ≤ 1048576) (hbig : bigN ≤ nv xa ^ n) :
    Calls Try.prog 73 #[.slice Aa ma ca, .int .i64 X] w fun e w2 => ∃ v, e = .returned v ∧ (fun v w2 => v = .tuple #[.slice none 0 0, .int .i64 8] ∧ w.grownBy w2 none) v w2 := by
  have ha := ha.norm
  have ha_l := ha.ulen
  have ha_x := ha.max
  simp only [maxLen] at ha_x
  have ha_c := ha.cap
  have ha0 := ha
  have hgt := bigN_gt
  have hbt : bitn (nv (trimL xa)) = bitn (nv xa) := by rw [nv_trimL]
  have htl := trimL_len xa
  have hbx := bitn_len hLa
  have hsx := sigL_le xa
  have hB := ext_refl w
  refine calls_of_W (vs := [.slice Aa ma ca, .int .i64 X]) [4, 5] Try.func73 rfl rfl rfl rfl ?_
  refine W.seq ?_
  refine W.region ?_
  refine WL.assign rfl rfl ?_
  refine WL.assign rfl rfl ?_
  refine WL.done ?_
  refine W.seq ?_
  refine W.seq ?_
  refine W.region ?_
  refine WL.move rfl rfl ?_
  refine WL.lss rfl rfl rfl (fun c11 => ?_) (fun c11 => ?_)
  · exfalso
    omega
  · refine WL.done ?_
    refine W.condF rfl ?_
    refine W.skip ?_
    refine W.seq ?_
    refine W.seq ?_
    refine W.region ?_
    refine WL.move rfl rfl ?_
    refine WL.eql rfl rfl rfl (fun c12 => ?_) (fun c12 => ?_)
    · exfalso
      have hn0 : n = 0 := by omega
      subst hn0
      rw [Nat.pow_zero] at hbig
      omega
    · refine WL.done ?_
      refine W.condF rfl ?_
      refine W.skip ?_
      refine W.seq ?_
      refine W.region ?_
      refine WL.move rfl rfl ?_
      refine WL.call Try.func81 rfl Try.nm81 rfl rfl (Bits_c ha hLa (by omega)) ?_
      rintro _ w13 ⟨rfl, hGw13⟩
      have hB := ext_trans hB hGw13
      have ha := ha0.ext hB
      refine WL.assign rfl rfl ?_
      refine WL.done ?_
      refine W.seq ?_
      refine W.seq ?_
      refine W.region ?_
      refine WL.move rfl rfl ?_
      refine WL.leq rfl rfl rfl (fun c14 => ?_) (fun c14 => ?_)
      · exfalso
        have h1 := bitn_one (a := nv xa) (by omega)
        have h2 := pow_le_one h1 (by omega : 0 < n)
        rw [h2] at hbig
        omega
      · refine WL.done ?_
        refine W.condF rfl ?_
        refine W.skip ?_
        refine W.seq ?_
        refine W.seq ?_
        refine W.region ?_
        refine WL.move rfl rfl ?_
        refine WL.move rfl rfl ?_
        have hpos : 0 < nv xa := by have := bitn_lt.1 (show 0 < bitn (nv xa) by omega); omega
        refine WL.sub (r := (((bitn (nv xa)) - 1 : Nat) : Int)) rfl rfl (wi64 (by omega) (by omega) (by omega)) rfl ?_
        refine WL.quo (r := ((131071 / ((bitn (nv xa)) - 1) : Nat) : Int)) rfl rfl (by omega) (qi64 (by omega) (by omega) (by omega)) rfl ?_
        refine WL.gtr rfl rfl rfl (fun c15 => ?_) (fun c15 => ?_)
        · refine WL.done ?_
          refine W.condT rfl ?_
          refine W.seq ?_
          refine W.region ?_
          refine WL.assign rfl rfl ?_
          refine WL.assign rfl rfl ?_
          refine WL.done ?_
          refine W.ret ?_
          refine ⟨_, rfl, ?_⟩
          exact ⟨rfl, hB⟩
        · refine WL.done ?_
          refine W.condF rfl ?_
          refine W.skip ?_
          refine W.seq ?_
          refine W.region ?_
          refine WL.move rfl rfl ?_
          refine WL.call Try.func44 rfl Try.nm44 rfl rfl (sig_c ha) ?_
          rintro _ w16 ⟨rfl, hGw16⟩
          have hB := ext_trans hB hGw16
          have ha := ha0.ext hB
          refine WL.move rfl rfl ?_
          refine WL.call Try.func94 rfl Try.nm94 rfl rfl (powerOf_c (Rd.sig ha) (Lim.trim hLa) n (by omega) (by omega) hn (by rw [nv_trimL]; omega) (by rw [nv_trimL]; exact pow_small (by omega) (by omega)) (by omega)) ?_
          rintro _ w17 ⟨A18, m19, cp20, rfl, hGw17, hO, hm21⟩
          have hO := hO.low (b' := w.heap.size) hB.size
          have hB := ext_trans hB hGw17
          have hO_l := hO.rd.ulen
          rw [nv_trimL] at hO
          have hO_k := hO.rd.ulen
          refine WL.assign rfl rfl ?_
          refine WL.done ?_
          refine W.seq ?_
          refine W.seq ?_
          refine W.region ?_
          refine WL.move rfl rfl ?_
          refine WL.len Try.underlying23 rfl rfl ?_
          refine WL.gtr rfl rfl rfl (fun c22 => ?_) (fun c22 => ?_)
          · refine WL.done ?_
            refine W.condT rfl ?_
            refine W.seq ?_
            refine W.region ?_
            refine WL.assign rfl rfl ?_
            refine WL.assign rfl rfl ?_
            refine WL.done ?_
            refine W.ret ?_
            refine ⟨_, rfl, ?_⟩
            exact ⟨rfl, hB⟩
          · exfalso
            have := digs_big.1 (by omega : (digs (nv xa ^ n)).length ≤ 4096)
            omega

theorem rPow_neg {w : World} {Ba : Nat} {Aa : Option Addr} {ma ca : Nat} {xa : List Nat} (ha : Rd Ba w 1 Aa ma ca (us xa)) (hLa : Lim xa) {X : Int} (hX : X < 0) :
    Calls Try.prog 76 #[.slice Aa ma ca, .int .i64 X] w fun e w2 => ∃ v, e = .returned v ∧ (fun v w2 => v = .tuple #[.slice none 0 0, .int .i64 6] ∧ w.grownBy w2 none) v w2 := by
  have ha := ha.norm
  have ha_l := ha.ulen
  have ha_x := ha.max
  simp only [maxLen] at ha_x
  have ha_c := ha.cap
  have ha0 := ha
  have hgt := bigN_gt
  have hbt : bitn (nv (trimL xa)) = bitn (nv xa) := by rw [nv_trimL]
  have htl := trimL_len xa
  have hbx := bitn_len hLa
  have hsx := sigL_le xa
  have hB := ext_refl w
  refine calls_of_W (vs := [.slice Aa ma ca, .int .i64 X]) [4, 5] Try.func76 rfl rfl rfl rfl ?_
  refine W.seq ?_
  refine W.region ?_
  refine WL.assign rfl rfl ?_
  refine WL.assign rfl rfl ?_
  refine WL.done ?_
  refine W.seq ?_
  refine W.seq ?_
  refine W.region ?_
  refine WL.move rfl rfl ?_
  refine WL.lss rfl rfl rfl (fun c11 => ?_) (fun c11 => ?_)
  · refine WL.done ?_
    refine W.condT rfl ?_
    refine W.seq ?_
    refine W.region ?_
    refine WL.assign rfl rfl ?_
    refine WL.assign rfl rfl ?_
    refine WL.done ?_
    refine W.ret ?_
    refine ⟨_, rfl, ?_⟩
    exact ⟨rfl, hB⟩
  · exfalso
    omega

theorem rPow_ok {w : World} {Ba : Nat} {Aa : Option Addr} {ma ca : Nat} {xa : List Nat} (ha : Rd Ba w 1 Aa ma ca (us xa)) (hLa : Lim xa) (n : Nat) {X : Int} (hX : X = n) (hn : n < 9223372036854775808) (hs : ma ≤ 1048576) (hbig : nv xa ^ n < bigN) :
    Calls Try.prog 76 #[.slice Aa ma ca, .int .i64 X] w fun e w2 => ∃ v, e = .returned v ∧ (fun v w2 => ∃ A2 m2 c2, v = .tuple #[.slice A2 m2 c2, .int .i64 0] ∧ w.grownBy w2 none ∧ Own w.heap.size w2 43 1 A2 m2 c2 (us (digs (nv xa ^ n))) ∧ m2 ≤ 4096) v w2 := by
  have ha := ha.norm
  have ha_l := ha.ulen
  have ha_x := ha.max
  simp only [maxLen] at ha_x
  have ha_c := ha.cap
  have ha0 := ha
  have hgt := bigN_gt
  have hbt : bitn (nv (trimL xa)) = bitn (nv xa) := by rw [nv_trimL]
  have htl := trimL_len xa
  have hbx := bitn_len hLa
  have hsx := sigL_le xa
  have hB := ext_refl w
  refine calls_of_W (vs := [.slice Aa ma ca, .int .i64 X]) [4, 5] Try.func76 rfl rfl rfl rfl ?_
  refine W.seq ?_
  refine W.region ?_
  refine WL.assign rfl rfl ?_
  refine WL.assign rfl rfl ?_
  refine WL.done ?_
  refine W.seq ?_
  refine W.seq ?_
  refine W.region ?_
  refine WL.move rfl rfl ?_
  refine WL.lss rfl rfl rfl (fun c11 => ?_) (fun c11 => ?_)
  · exfalso
    omega
  · refine WL.done ?_
    refine W.condF rfl ?_
    refine W.skip ?_
    refine W.seq ?_
    refine W.region ?_
    refine WL.move rfl rfl ?_
    refine WL.call Try.func88 rfl Try.nm88 rfl rfl (rTrim_c ha (by omega)) ?_
    rintro _ w12 ⟨A13, m14, cp15, rfl, hGw12, hT, hm16⟩
    have hT := hT.low (b' := w.heap.size) hB.size
    have hB := ext_trans hB hGw12
    have hT_l := hT.rd.ulen
    refine WL.assign rfl rfl ?_
    refine WL.done ?_
    refine W.seq ?_
    refine W.seq ?_
    refine W.region ?_
    refine WL.move rfl rfl ?_
    refine WL.eql rfl rfl rfl (fun c17 => ?_) (fun c17 => ?_)
    · refine WL.done ?_
      refine W.condT rfl ?_
      refine W.seq ?_
      refine W.region ?_
      refine WL.lit1 (b := w12.heap.size) Try.underlying23 Try.el43 rfl rfl rfl rfl (by intro v hv; simp only [List.mem_cons, List.not_mem_nil, or_false] at hv; rcases hv with rfl <;> rfl) (Nat.le_refl _) rfl ?_
      rintro A18 w19 - hO20 hGw19
      have hO20 := hO20.low (b' := w.heap.size) hB.size
      have hB := ext_trans hB hGw19
      change Own _ _ _ _ _ _ _ (us [1]) at hO20
      refine WL.assign rfl rfl ?_
      refine WL.assign rfl rfl ?_
      refine WL.done ?_
      refine W.ret ?_
      refine ⟨_, rfl, ?_⟩
      have hn0 : n = 0 := by omega
      subst hn0
      have hO9 := hO20
      rw [← (show digs (nv xa ^ 0) = [1] from digs_lit (Nat.pow_zero _) (by decide) (by decide))] at hO9
      have hO_z := hO9.rd.ulen
      have := digs_big.2 hbig
      exact ⟨_, _, _, rfl, hB, hO9, by omega⟩
    · refine WL.done ?_
      refine W.condF rfl ?_
      refine W.skip ?_
      refine W.seq ?_
      refine W.seq ?_
      refine W.region ?_
      refine WL.move rfl rfl ?_
      refine WL.call Try.func89 rfl Try.nm89 rfl rfl (rBits_c hT.rd (Lim.trim hLa) (by omega)) ?_
      rintro _ w21 ⟨rfl, hGw21⟩
      have hB := ext_trans hB hGw21
      have hT := hT.ext hGw21
      refine WL.leq rfl rfl rfl (fun c22 => ?_) (fun c22 => ?_)
      · refine WL.done ?_
        refine W.condT rfl ?_
        refine W.seq ?_
        refine W.region ?_
        refine WL.move rfl rfl ?_
        refine WL.assign rfl rfl ?_
        refine WL.assign rfl rfl ?_
        refine WL.done ?_
        refine W.ret ?_
        refine ⟨_, rfl, ?_⟩
        have h1 := bitn_one (a := nv xa) (by omega)
        have hO9 := hT
        rw [digs_trim hLa, ← pow_le_one h1 (by omega : 0 < n)] at hO9
        have hO_z := hO9.rd.ulen
        have := digs_big.2 hbig
        exact ⟨_, _, _, rfl, hB, hO9, by omega⟩
      · refine WL.done ?_
        refine W.condF rfl ?_
        refine W.skip ?_
        refine W.seq ?_
        refine W.seq ?_
        refine W.region ?_
        refine WL.move rfl rfl ?_
        have h2a : 2 ≤ nv xa := by have := bitn_lt.1 (show 1 < bitn (nv xa) by omega); omega
        refine WL.gtr rfl rfl rfl (fun c23 => ?_) (fun c23 => ?_)
        · exfalso
          have := pow_big2 (a := nv xa) (n := n) h2a (by omega)
          omega
        · refine WL.done ?_
          refine W.condF rfl ?_
          refine W.skip ?_
          refine W.seq ?_
          refine W.region ?_
          refine WL.lit1 (b := w21.heap.size) Try.underlying23 Try.el43 rfl rfl rfl rfl (by intro v hv; simp only [List.mem_cons, List.not_mem_nil, or_false] at hv; rcases hv with rfl <;> rfl) (Nat.le_refl _) rfl ?_
          rintro A24 w25 - hO26 hGw25
          have hO26 := hO26.low (b' := w.heap.size) hB.size
          have hB := ext_trans hB hGw25
          have hT := hT.ext hGw25
          change Own _ _ _ _ _ _ _ (us [1]) at hO26
          refine WL.assign rfl rfl ?_
          refine WL.done ?_
          refine W.seq ?_
          refine W.seq ?_
          refine W.region ?_
          refine WL.assign rfl rfl ?_
          refine WL.done ?_
          refine W.block ?_
          refine W.loop (σ := Nat × Option Addr × Nat × Nat × Option Addr × Nat × Nat) (fun s w1 => match s with | (k, Ao, mo, co, At, mt, ct) => w.grownBy w1 none ∧ k ≤ 19 ∧ mo ≤ 4096 ∧ Own w.heap.size w1 43 1 Ao mo co (us (digs (nv xa ^ (n / 2 ^ k)))) ∧ Own w.heap.size w1 43 1 At mt ct (us (trimL xa))) (fun s => match s with | (k, Ao, mo, co, At, mt, ct) => [(0, .slice At mt ct), (1, .int .i64 X), (6, .slice Ao mo co), (7, .int .i64 ((2 ^ k / 2 : Nat) : Int))]) (fun s => match s with | (k, Ao, mo, co, At, mt, ct) => k) (19, A24, 1, 1, A13, m14, cp15) ?_ ?_ ?_
          · exact ⟨hB, by omega, by omega, by rw [show n / 2 ^ 19 = 0 by omega, Nat.pow_zero, digs_lit rfl (by decide) (by decide)]; exact hO26, hT⟩
          · exact ⟨rfl, iv (by omega), rfl, iv (by omega), trivial⟩
          · rintro ⟨k, Ao, mo, co, At, mt, ct⟩ w27 ⟨hB, hk, hmo, ho, ht⟩
            have ho_l := ho.rd.ulen
            have ht_l := ht.rd.ulen
            have hp0 := Nat.pow_pos (n := k) (show 0 < 2 by decide)
            have hpk : 2 ^ k ≤ 524288 := Nat.le_trans (Nat.pow_le_pow_right (by decide) hk) (by decide)
            refine W.seq ?_
            refine W.seq ?_
            refine W.region ?_
            refine WL.move rfl rfl ?_
            refine WL.gtr rfl rfl rfl (fun c28 => ?_) (fun c28 => ?_)
            · refine WL.done ?_
              refine W.condT rfl ?_
              refine W.skip ?_
              refine W.seq ?_
              refine W.block ?_
              refine W.seq ?_
              refine W.region ?_
              refine WL.move rfl rfl ?_
              refine WL.move rfl rfl ?_
              have hk0 := pw_zero (k := k) (by omega)
              have hkd := pw_half hk0
              have hh := half_pow (n := n) hk0
              have hU : n / (2 ^ k / 2) = n / 2 ^ (k - 1) := by rw [hkd]
              have hun := Nat.div_le_self n (2 ^ (k - 1))
              have hsq := sq_len (a := nv xa) (q := n / 2 ^ k) (by omega)
              refine WL.call Try.func68 rfl Try.nm68 rfl rfl (rMul_c ho.rd ho.rd (digs_lim _) (digs_lim _) (by omega) (by omega)) ?_
              rintro _ w29 ⟨A30, m31, cp32, rfl, hGw29, hO, hm33⟩
              have hO := hO.low (b' := w.heap.size) hB.size
              have hB := ext_trans hB hGw29
              have ht := ht.ext hGw29
              have hO_l := hO.rd.ulen
              rw [nv_digs, ← Nat.pow_add] at hO
              have hO_k := hO.rd.ulen
              have hl4 : (digs (nv xa ^ (n / 2 ^ k + n / 2 ^ k))).length ≤ 4096 := digs_big.2 (Nat.lt_of_le_of_lt (Nat.pow_le_pow_right (by omega) (by omega)) hbig)
              refine WL.assign rfl rfl ?_
              refine WL.done ?_
              refine W.seq ?_
              refine W.seq ?_
              refine W.region ?_
              refine WL.move rfl rfl ?_
              refine WL.move rfl rfl ?_
              refine WL.quo (r := ((n / (2 ^ k / 2) : Nat) : Int)) rfl rfl (by omega) (qi64 (by omega) (by omega) (by omega)) rfl ?_
              refine WL.rem (r := (((n / (2 ^ k / 2)) % 2 : Nat) : Int)) rfl rfl (by omega) (tmod_nat (by omega) (by omega)) rfl ?_
              refine WL.eql rfl rfl rfl (fun c34 => ?_) (fun c34 => ?_)
              · refine WL.done ?_
                refine W.condT rfl ?_
                refine W.region ?_
                refine WL.move rfl rfl ?_
                refine WL.move rfl rfl ?_
                refine WL.call Try.func68 rfl Try.nm68 rfl rfl (rMul_c hO.rd ht.rd (digs_lim _) (Lim.trim hLa) (by omega) (by omega)) ?_
                rintro _ w35 ⟨A36, m37, cp38, rfl, hGw35, hO2, hm39⟩
                have hO2 := hO2.low (b' := w.heap.size) hB.size
                have hB := ext_trans hB hGw35
                have ht := ht.ext hGw35
                have hO2_l := hO2.rd.ulen
                rw [nv_digs, nv_trimL, ← Nat.pow_succ, Nat.succ_eq_add_one] at hO2
                have hO2_k := hO2.rd.ulen
                have hl4 : (digs (nv xa ^ (n / 2 ^ k + n / 2 ^ k + 1))).length ≤ 4096 := digs_big.2 (Nat.lt_of_le_of_lt (Nat.pow_le_pow_right (by omega) (by omega)) hbig)
                refine WL.assign rfl rfl ?_
                refine WL.done ?_
                refine W.seq ?_
                refine W.region ?_
                refine WL.move rfl rfl ?_
                refine WL.len Try.underlying23 rfl rfl ?_
                refine WL.gtr rfl rfl rfl (fun c40 => ?_) (fun c40 => ?_)
                · exfalso
                  omega
                · refine WL.done ?_
                  refine W.condF rfl ?_
                  refine W.skip ?_
                  refine W.region ?_
                  refine WL.move rfl rfl ?_
                  refine WL.quo (r := (((2 ^ k / 2) / 2 : Nat) : Int)) rfl rfl (by omega) (qi64 (by omega) (by omega) (by omega)) rfl ?_
                  refine WL.assign rfl rfl ?_
                  refine WL.done ?_
                  refine ⟨(k - 1, _, _, _, _, _, _), ⟨rfl, iv (by omega), rfl, iv (by omega), trivial⟩, by (dsimp only; omega), ?_⟩
                  exact ⟨hB, by omega, by omega, by rw [show n / 2 ^ (k - 1) = n / 2 ^ k + n / 2 ^ k + 1 by omega]; exact hO2, ht⟩
              · refine WL.done ?_
                refine W.condF rfl ?_
                refine W.skip ?_
                refine W.seq ?_
                refine W.region ?_
                refine WL.move rfl rfl ?_
                refine WL.len Try.underlying23 rfl rfl ?_
                refine WL.gtr rfl rfl rfl (fun c41 => ?_) (fun c41 => ?_)
                · exfalso
                  omega
                · refine WL.done ?_
                  refine W.condF rfl ?_
                  refine W.skip ?_
                  refine W.region ?_
                  refine WL.move rfl rfl ?_
                  refine WL.quo (r := (((2 ^ k / 2) / 2 : Nat) : Int)) rfl rfl (by omega) (qi64 (by omega) (by omega) (by omega)) rfl ?_
                  refine WL.assign rfl rfl ?_
                  refine WL.done ?_
                  refine ⟨(k - 1, _, _, _, _, _, _), ⟨rfl, iv (by omega), rfl, iv (by omega), trivial⟩, by (dsimp only; omega), ?_⟩
                  exact ⟨hB, by omega, by omega, by rw [show n / 2 ^ (k - 1) = n / 2 ^ k + n / 2 ^ k by omega]; exact hO, ht⟩
            · refine WL.done ?_
              refine W.condF rfl ?_
              refine W.exit ?_
              refine W.seq ?_
              refine W.region ?_
              refine WL.move rfl rfl ?_
              refine WL.assign rfl rfl ?_
              refine WL.assign rfl rfl ?_
              refine WL.done ?_
              refine W.ret ?_
              refine ⟨_, rfl, ?_⟩
              have hk := pw_none (k := k) (by omega)
              subst hk
              rw [Nat.pow_zero, Nat.div_one] at ho
              have hO_z := ho.rd.ulen
              have := digs_big.2 hbig
              exact ⟨_, _, _, rfl, hB, ho, by omega⟩

theorem rPow_err {w : World} {Ba : Nat} {Aa : Option Addr} {ma ca : Nat} {xa : List Nat} (ha : Rd Ba w 1 Aa ma ca (us xa)) (hLa : Lim xa) (n : Nat) {X : Int} (hX : X = n) (hn : n < 9223372036854775808) (hs : ma ≤ 1048576) (hbig : bigN ≤ nv xa ^ n) :
    Calls Try.prog 76 #[.slice Aa ma ca, .int .i64 X] w fun e w2 => ∃ v, e = .returned v ∧ (fun v w2 => v = .tuple #[.slice none 0 0, .int .i64 8] ∧ w.grownBy w2 none) v w2 := by
  have ha := ha.norm
  have ha_l := ha.ulen
  have ha_x := ha.max
  simp only [maxLen] at ha_x
  have ha_c := ha.cap
  have ha0 := ha
  have hgt := bigN_gt
  have hbt : bitn (nv (trimL xa)) = bitn (nv xa) := by rw [nv_trimL]
  have htl := trimL_len xa
  have hbx := bitn_len hLa
  have hsx := sigL_le xa
  have hB := ext_refl w
  refine calls_of_W (vs := [.slice Aa ma ca, .int .i64 X]) [4, 5] Try.func76 rfl rfl rfl rfl ?_
  refine W.seq ?_
  refine W.region ?_
  refine WL.assign rfl rfl ?_
  refine WL.assign rfl rfl ?_
  refine WL.done ?_
  refine W.seq ?_
  refine W.seq ?_
  refine W.region ?_
  refine WL.move rfl rfl ?_
  refine WL.lss rfl rfl rfl (fun c11 => ?_) (fun c11 => ?_)
  · exfalso
    omega
  · refine WL.done ?_
    refine W.condF rfl ?_
    refine W.skip ?_
    refine W.seq ?_
    refine W.region ?_
    refine WL.move rfl rfl ?_
    refine WL.call Try.func88 rfl Try.nm88 rfl rfl (rTrim_c ha (by omega)) ?_
    rintro _ w12 ⟨A13, m14, cp15, rfl, hGw12, hT, hm16⟩
    have hT := hT.low (b' := w.heap.size) hB.size
    have hB := ext_trans hB hGw12
    have hT_l := hT.rd.ulen
    refine WL.assign rfl rfl ?_
    refine WL.done ?_
    refine W.seq ?_
    refine W.seq ?_
    refine W.region ?_
    refine WL.move rfl rfl ?_
    refine WL.eql rfl rfl rfl (fun c17 => ?_) (fun c17 => ?_)
    · exfalso
      have hn0 : n = 0 := by omega
      subst hn0
      rw [Nat.pow_zero] at hbig
      omega
    · refine WL.done ?_
      refine W.condF rfl ?_
      refine W.skip ?_
      refine W.seq ?_
      refine W.seq ?_
      refine W.region ?_
      refine WL.move rfl rfl ?_
      refine WL.call Try.func89 rfl Try.nm89 rfl rfl (rBits_c hT.rd (Lim.trim hLa) (by omega)) ?_
      rintro _ w18 ⟨rfl, hGw18⟩
      have hB := ext_trans hB hGw18
      have hT := hT.ext hGw18
      refine WL.leq rfl rfl rfl (fun c19 => ?_) (fun c19 => ?_)
      · exfalso
        have h1 := bitn_one (a := nv xa) (by omega)
        have h2 := pow_le_one h1 (by omega : 0 < n)
        rw [h2] at hbig
        omega
      · refine WL.done ?_
        refine W.condF rfl ?_
        refine W.skip ?_
        refine W.seq ?_
        refine W.seq ?_
        refine W.region ?_
        refine WL.move rfl rfl ?_
        have h2a : 2 ≤ nv xa := by have := bitn_lt.1 (show 1 < bitn (nv xa) by omega); omega
        refine WL.gtr rfl rfl rfl (fun c20 => ?_) (fun c20 => ?_)
        · refine WL.done ?_
          refine W.condT rfl ?_
          refine W.seq ?_
          refine W.region ?_
          refine WL.assign rfl rfl ?_
          refine WL.assign rfl rfl ?_
          refine WL.done ?_
          refine W.ret ?_
          refine ⟨_, rfl, ?_⟩
          first
          | exact ⟨rfl, hB⟩
          | (exfalso; have hk := pw_none (k := k) (by omega); subst hk; rw [Nat.pow_zero, Nat.div_one] at ho_l; have := digs_big.1 (by omega : (digs (nv xa ^ n)).length ≤ 4096); omega)
        · refine WL.done ?_
          refine W.condF rfl ?_
          refine W.skip ?_
          refine W.seq ?_
          refine W.region ?_
          refine WL.lit1 (b := w18.heap.size) Try.underlying23 Try.el43 rfl rfl rfl rfl (by intro v hv; simp only [List.mem_cons, List.not_mem_nil, or_false] at hv; rcases hv with rfl <;> rfl) (Nat.le_refl _) rfl ?_
          rintro A21 w22 - hO23 hGw22
          have hO23 := hO23.low (b' := w.heap.size) hB.size
          have hB := ext_trans hB hGw22
          have hT := hT.ext hGw22
          change Own _ _ _ _ _ _ _ (us [1]) at hO23
          refine WL.assign rfl rfl ?_
          refine WL.done ?_
          refine W.seq ?_
          refine W.seq ?_
          refine W.region ?_
          refine WL.assign rfl rfl ?_
          refine WL.done ?_
          refine W.block ?_
          refine W.loop (σ := Nat × Option Addr × Nat × Nat × Option Addr × Nat × Nat) (fun s w1 => match s with | (k, Ao, mo, co, At, mt, ct) => w.grownBy w1 none ∧ k ≤ 19 ∧ mo ≤ 4096 ∧ Own w.heap.size w1 43 1 Ao mo co (us (digs (nv xa ^ (n / 2 ^ k)))) ∧ Own w.heap.size w1 43 1 At mt ct (us (trimL xa))) (fun s => match s with | (k, Ao, mo, co, At, mt, ct) => [(0, .slice At mt ct), (1, .int .i64 X), (6, .slice Ao mo co), (7, .int .i64 ((2 ^ k / 2 : Nat) : Int))]) (fun s => match s with | (k, Ao, mo, co, At, mt, ct) => k) (19, A21, 1, 1, A13, m14, cp15) ?_ ?_ ?_
          · exact ⟨hB, by omega, by omega, by rw [show n / 2 ^ 19 = 0 by omega, Nat.pow_zero, digs_lit rfl (by decide) (by decide)]; exact hO23, hT⟩
          · exact ⟨rfl, iv (by omega), rfl, iv (by omega), trivial⟩
          · rintro ⟨k, Ao, mo, co, At, mt, ct⟩ w24 ⟨hB, hk, hmo, ho, ht⟩
            have ho_l := ho.rd.ulen
            have ht_l := ht.rd.ulen
            have hp0 := Nat.pow_pos (n := k) (show 0 < 2 by decide)
            have hpk : 2 ^ k ≤ 524288 := Nat.le_trans (Nat.pow_le_pow_right (by decide) hk) (by decide)
            refine W.seq ?_
            refine W.seq ?_
            refine W.region ?_
            refine WL.move rfl rfl ?_
            refine WL.gtr rfl rfl rfl (fun c25 => ?_) (fun c25 => ?_)
            · refine WL.done ?_
              refine W.condT rfl ?_
              refine W.skip ?_
              refine W.seq ?_
              refine W.block ?_
              refine W.seq ?_
              refine W.region ?_
              refine WL.move rfl rfl ?_
              refine WL.move rfl rfl ?_
              have hk0 := pw_zero (k := k) (by omega)
              have hkd := pw_half hk0
              have hh := half_pow (n := n) hk0
              have hU : n / (2 ^ k / 2) = n / 2 ^ (k - 1) := by rw [hkd]
              have hun := Nat.div_le_self n (2 ^ (k - 1))
              have hsq := sq_len (a := nv xa) (q := n / 2 ^ k) (by omega)
              refine WL.call Try.func68 rfl Try.nm68 rfl rfl (rMul_c ho.rd ho.rd (digs_lim _) (digs_lim _) (by omega) (by omega)) ?_
              rintro _ w26 ⟨A27, m28, cp29, rfl, hGw26, hO, hm30⟩
              have hO := hO.low (b' := w.heap.size) hB.size
              have hB := ext_trans hB hGw26
              have ht := ht.ext hGw26
              have hO_l := hO.rd.ulen
              rw [nv_digs, ← Nat.pow_add] at hO
              have hO_k := hO.rd.ulen
              refine WL.assign rfl rfl ?_
              refine WL.done ?_
              refine W.seq ?_
              refine W.seq ?_
              refine W.region ?_
              refine WL.move rfl rfl ?_
              refine WL.move rfl rfl ?_
              refine WL.quo (r := ((n / (2 ^ k / 2) : Nat) : Int)) rfl rfl (by omega) (qi64 (by omega) (by omega) (by omega)) rfl ?_
              refine WL.rem (r := (((n / (2 ^ k / 2)) % 2 : Nat) : Int)) rfl rfl (by omega) (tmod_nat (by omega) (by omega)) rfl ?_
              refine WL.eql rfl rfl rfl (fun c31 => ?_) (fun c31 => ?_)
              · refine WL.done ?_
                refine W.condT rfl ?_
                refine W.region ?_
                refine WL.move rfl rfl ?_
                refine WL.move rfl rfl ?_
                refine WL.call Try.func68 rfl Try.nm68 rfl rfl (rMul_c hO.rd ht.rd (digs_lim _) (Lim.trim hLa) (by omega) (by omega)) ?_
                rintro _ w32 ⟨A33, m34, cp35, rfl, hGw32, hO2, hm36⟩
                have hO2 := hO2.low (b' := w.heap.size) hB.size
                have hB := ext_trans hB hGw32
                have ht := ht.ext hGw32
                have hO2_l := hO2.rd.ulen
                rw [nv_digs, nv_trimL, ← Nat.pow_succ, Nat.succ_eq_add_one] at hO2
                have hO2_k := hO2.rd.ulen
                refine WL.assign rfl rfl ?_
                refine WL.done ?_
                refine W.seq ?_
                refine W.region ?_
                refine WL.move rfl rfl ?_
                refine WL.len Try.underlying23 rfl rfl ?_
                refine WL.gtr rfl rfl rfl (fun c37 => ?_) (fun c37 => ?_)
                · refine WL.done ?_
                  refine W.condT rfl ?_
                  refine W.seq ?_
                  refine W.region ?_
                  refine WL.assign rfl rfl ?_
                  refine WL.assign rfl rfl ?_
                  refine WL.done ?_
                  refine W.ret ?_
                  refine ⟨_, rfl, ?_⟩
                  first
                  | exact ⟨rfl, hB⟩
                  | (exfalso; have hk := pw_none (k := k) (by omega); subst hk; rw [Nat.pow_zero, Nat.div_one] at ho_l; have := digs_big.1 (by omega : (digs (nv xa ^ n)).length ≤ 4096); omega)
                · refine WL.done ?_
                  refine W.condF rfl ?_
                  refine W.skip ?_
                  refine W.region ?_
                  refine WL.move rfl rfl ?_
                  refine WL.quo (r := (((2 ^ k / 2) / 2 : Nat) : Int)) rfl rfl (by omega) (qi64 (by omega) (by omega) (by omega)) rfl ?_
                  refine WL.assign rfl rfl ?_
                  refine WL.done ?_
                  refine ⟨(k - 1, _, _, _, _, _, _), ⟨rfl, iv (by omega), rfl, iv (by omega), trivial⟩, by (dsimp only; omega), ?_⟩
                  exact ⟨hB, by omega, by omega, by rw [show n / 2 ^ (k - 1) = n / 2 ^ k + n / 2 ^ k + 1 by omega]; exact hO2, ht⟩
              · refine WL.done ?_
                refine W.condF rfl ?_
                refine W.skip ?_
                refine W.seq ?_
                refine W.region ?_
                refine WL.move rfl rfl ?_
                refine WL.len Try.underlying23 rfl rfl ?_
                refine WL.gtr rfl rfl rfl (fun c38 => ?_) (fun c38 => ?_)
                · refine WL.done ?_
                  refine W.condT rfl ?_
                  refine W.seq ?_
                  refine W.region ?_
                  refine WL.assign rfl rfl ?_
                  refine WL.assign rfl rfl ?_
                  refine WL.done ?_
                  refine W.ret ?_
                  refine ⟨_, rfl, ?_⟩
                  first
                  | exact ⟨rfl, hB⟩
                  | (exfalso; have hk := pw_none (k := k) (by omega); subst hk; rw [Nat.pow_zero, Nat.div_one] at ho_l; have := digs_big.1 (by omega : (digs (nv xa ^ n)).length ≤ 4096); omega)
                · refine WL.done ?_
                  refine W.condF rfl ?_
                  refine W.skip ?_
                  refine W.region ?_
                  refine WL.move rfl rfl ?_
                  refine WL.quo (r := (((2 ^ k / 2) / 2 : Nat) : Int)) rfl rfl (by omega) (qi64 (by omega) (by omega) (by omega)) rfl ?_
                  refine WL.assign rfl rfl ?_
                  refine WL.done ?_
                  refine ⟨(k - 1, _, _, _, _, _, _), ⟨rfl, iv (by omega), rfl, iv (by omega), trivial⟩, by (dsimp only; omega), ?_⟩
                  exact ⟨hB, by omega, by omega, by rw [show n / 2 ^ (k - 1) = n / 2 ^ k + n / 2 ^ k by omega]; exact hO, ht⟩
            · refine WL.done ?_
              refine W.condF rfl ?_
              refine W.exit ?_
              refine W.seq ?_
              refine W.region ?_
              refine WL.move rfl rfl ?_
              refine WL.assign rfl rfl ?_
              refine WL.assign rfl rfl ?_
              refine WL.done ?_
              refine W.ret ?_
              refine ⟨_, rfl, ?_⟩
              first
              | exact ⟨rfl, hB⟩
              | (exfalso; have hk := pw_none (k := k) (by omega); subst hk; rw [Nat.pow_zero, Nat.div_one] at ho_l; have := digs_big.1 (by omega : (digs (nv xa ^ n)).length ≤ 4096); omega)
end Go.Proofs.Ythfpcebcfjlkmab
