/- Contracts of functions of the program, and what they lean on. -/
import Derived.Test.YthfpcebcfjlkmabW7
import Derived.Test.YthfpcebcfjlkmabBl
set_option linter.unusedSimpArgs false
set_option linter.unusedVariables false
namespace Go.Proofs.Ythfpcebcfjlkmab
open Go.RowKit
theorem Len32_c {w : World} (x : Nat) {X : Int} (hX : X = x) (hx : x < 4294967296) :
    Calls Try.prog 95 #[.int .u32 X] w fun e w2 => ∃ v, e = .returned v ∧ (fun v w2 => v = .int .i64 ((bitn x : Nat) : Int) ∧ w.grownBy w2 none) v w2 := by
  have hB := ext_refl w
  refine calls_of_W (vs := [.int .u32 X]) [2] Try.func95 rfl rfl rfl rfl ?_
  refine W.seq ?_
  refine W.region ?_
  refine WL.assign rfl rfl ?_
  refine WL.done ?_
  refine W.seq ?_
  refine W.seq ?_
  refine W.region ?_
  refine WL.move rfl rfl ?_
  refine WL.geq rfl rfl rfl (fun c11 => ?_) (fun c11 => ?_)
  · refine WL.done ?_
    refine W.condT rfl ?_
    refine W.seq ?_
    refine W.region ?_
    refine WL.move rfl rfl ?_
    refine WL.shr (r := ((x / 65536 : Nat) : Int)) rfl rfl (by omega) (shr_nat (a := x) (s := 16) (by omega) (by omega) 32 (by omega)) rfl ?_
    refine WL.assign rfl rfl ?_
    refine WL.done ?_
    refine W.region ?_
    refine WL.assign rfl rfl ?_
    refine WL.done ?_
    refine W.seq ?_
    refine W.seq ?_
    refine W.region ?_
    refine WL.move rfl rfl ?_
    refine WL.geq rfl rfl rfl (fun c12 => ?_) (fun c12 => ?_)
    · refine WL.done ?_
      refine W.condT rfl ?_
      refine W.seq ?_
      refine W.region ?_
      refine WL.move rfl rfl ?_
      refine WL.shr (r := (((x / 65536) / 256 : Nat) : Int)) rfl rfl (by omega) (shr_nat (a := x / 65536) (s := 8) (by omega) (by omega) 32 (by omega)) rfl ?_
      refine WL.assign rfl rfl ?_
      refine WL.done ?_
      refine W.region ?_
      refine WL.move rfl rfl ?_
      refine WL.add (r := ((16 + 8 : Nat) : Int)) rfl rfl (wi64 (by omega) (by omega) (by omega)) rfl ?_
      refine WL.assign rfl rfl ?_
      refine WL.done ?_
      refine W.seq ?_
      refine W.region ?_
      refine WL.move rfl rfl ?_
      refine WL.move rfl rfl ?_
      refine WL.conv (r := (((x / 65536) / 256 : Nat) : Int)) Try.underlying43 Try.underlying5 rfl (wu8 (by omega) (by omega) (by omega)) rfl ?_
      have hb8 := bitn_8lt (x := (x / 65536) / 256) (by omega)
      refine WL.indexTab (i := (x / 65536) / 256) bitn Try.underlying9 rfl rfl (by omega) (by omega) (by decide +kernel) rfl ?_
      refine WL.conv (r := ((bitn ((x / 65536) / 256) : Nat) : Int)) Try.underlying5 Try.underlying3 rfl (wi64 (by omega) (by omega) (by omega)) rfl ?_
      refine WL.add (r := (((16 + 8) + (bitn ((x / 65536) / 256)) : Nat) : Int)) rfl rfl (wi64 (by omega) (by omega) (by omega)) rfl ?_
      refine WL.assign rfl rfl ?_
      refine WL.done ?_
      refine W.ret ?_
      refine ⟨_, rfl, ?_⟩
      exact ⟨by congr 1; first | (have := bitn_8 (x := x / 65536) (by omega); have := bitn_16 (x := x) (by omega); omega) | (have := bitn_16 (x := x) (by omega); omega) | (have := bitn_8 (x := x) (by omega); omega) | omega, hB⟩
    · refine WL.done ?_
      refine W.condF rfl ?_
      refine W.skip ?_
      refine W.seq ?_
      refine W.region ?_
      refine WL.move rfl rfl ?_
      refine WL.move rfl rfl ?_
      refine WL.conv (r := ((x / 65536 : Nat) : Int)) Try.underlying43 Try.underlying5 rfl (wu8 (by omega) (by omega) (by omega)) rfl ?_
      have hb8 := bitn_8lt (x := x / 65536) (by omega)
      refine WL.indexTab (i := x / 65536) bitn Try.underlying9 rfl rfl (by omega) (by omega) (by decide +kernel) rfl ?_
      refine WL.conv (r := ((bitn (x / 65536) : Nat) : Int)) Try.underlying5 Try.underlying3 rfl (wi64 (by omega) (by omega) (by omega)) rfl ?_
      refine WL.add (r := ((16 + (bitn (x / 65536)) : Nat) : Int)) rfl rfl (wi64 (by omega) (by omega) (by omega)) rfl ?_
      refine WL.assign rfl rfl ?_
      refine WL.done ?_
      refine W.ret ?_
      refine ⟨_, rfl, ?_⟩
      exact ⟨by congr 1; first | (have := bitn_8 (x := x / 65536) (by omega); have := bitn_16 (x := x) (by omega); omega) | (have := bitn_16 (x := x) (by omega); omega) | (have := bitn_8 (x := x) (by omega); omega) | omega, hB⟩
  · refine WL.done ?_
    refine W.condF rfl ?_
    refine W.skip ?_
    refine W.seq ?_
    refine W.seq ?_
    refine W.region ?_
    refine WL.move rfl rfl ?_
    refine WL.geq rfl rfl rfl (fun c13 => ?_) (fun c13 => ?_)
    · refine WL.done ?_
      refine W.condT rfl ?_
      refine W.seq ?_
      refine W.region ?_
      refine WL.move rfl rfl ?_
      refine WL.shr (r := ((x / 256 : Nat) : Int)) rfl rfl (by omega) (shr_nat (a := x) (s := 8) (by omega) (by omega) 32 (by omega)) rfl ?_
      refine WL.assign rfl rfl ?_
      refine WL.done ?_
      refine W.region ?_
      refine WL.move rfl rfl ?_
      refine WL.add (r := ((0 + 8 : Nat) : Int)) rfl rfl (wi64 (by omega) (by omega) (by omega)) rfl ?_
      refine WL.assign rfl rfl ?_
      refine WL.done ?_
      refine W.seq ?_
      refine W.region ?_
      refine WL.move rfl rfl ?_
      refine WL.move rfl rfl ?_
      refine WL.conv (r := ((x / 256 : Nat) : Int)) Try.underlying43 Try.underlying5 rfl (wu8 (by omega) (by omega) (by omega)) rfl ?_
      have hb8 := bitn_8lt (x := x / 256) (by omega)
      refine WL.indexTab (i := x / 256) bitn Try.underlying9 rfl rfl (by omega) (by omega) (by decide +kernel) rfl ?_
      refine WL.conv (r := ((bitn (x / 256) : Nat) : Int)) Try.underlying5 Try.underlying3 rfl (wi64 (by omega) (by omega) (by omega)) rfl ?_
      refine WL.add (r := (((0 + 8) + (bitn (x / 256)) : Nat) : Int)) rfl rfl (wi64 (by omega) (by omega) (by omega)) rfl ?_
      refine WL.assign rfl rfl ?_
      refine WL.done ?_
      refine W.ret ?_
      refine ⟨_, rfl, ?_⟩
      exact ⟨by congr 1; first | (have := bitn_8 (x := x / 65536) (by omega); have := bitn_16 (x := x) (by omega); omega) | (have := bitn_16 (x := x) (by omega); omega) | (have := bitn_8 (x := x) (by omega); omega) | omega, hB⟩
    · refine WL.done ?_
      refine W.condF rfl ?_
      refine W.skip ?_
      refine W.seq ?_
      refine W.region ?_
      refine WL.move rfl rfl ?_
      refine WL.move rfl rfl ?_
      refine WL.conv (r := X) Try.underlying43 Try.underlying5 rfl (wu8 (by omega) (by omega) (by omega)) rfl ?_
      have hb8 := bitn_8lt (x := x) (by omega)
      refine WL.indexTab (i := x) bitn Try.underlying9 rfl rfl (by omega) (by omega) (by decide +kernel) rfl ?_
      refine WL.conv (r := ((bitn (x) : Nat) : Int)) Try.underlying5 Try.underlying3 rfl (wi64 (by omega) (by omega) (by omega)) rfl ?_
      refine WL.add (r := ((0 + (bitn (x)) : Nat) : Int)) rfl rfl (wi64 (by omega) (by omega) (by omega)) rfl ?_
      refine WL.assign rfl rfl ?_
      refine WL.done ?_
      refine W.ret ?_
      refine ⟨_, rfl, ?_⟩
      exact ⟨by congr 1; first | (have := bitn_8 (x := x / 65536) (by omega); have := bitn_16 (x := x) (by omega); omega) | (have := bitn_16 (x := x) (by omega); omega) | (have := bitn_8 (x := x) (by omega); omega) | omega, hB⟩

theorem word_c {w : World} {Ba : Nat} {Aa : Option Addr} {ma ca : Nat} {xa : List Nat} (ha : Rd Ba w 1 Aa ma ca (us xa)) (hLa : Lim xa) :
    Calls Try.prog 86 #[.slice Aa ma ca] w fun e w2 => ∃ v, e = .returned v ∧ (fun v w2 => v = .int .u64 ((xa.getD 0 0 + 4294967296 * xa.getD 1 0 : Nat) : Int) ∧ w.grownBy w2 none) v w2 := by
  have ha := ha.norm
  have ha_l := ha.ulen
  have ha_x := ha.max
  simp only [maxLen] at ha_x
  have ha_c := ha.cap
  have ha0 := ha
  have hx0 := hLa.getD 0
  have hx1 := hLa.getD 1
  have hB := ext_refl w
  refine calls_of_W (vs := [.slice Aa ma ca]) [2] Try.func86 rfl rfl rfl rfl ?_
  refine W.seq ?_
  refine W.region ?_
  refine WL.assign rfl rfl ?_
  refine WL.done ?_
  refine W.seq ?_
  refine W.region ?_
  refine WL.move rfl rfl ?_
  refine WL.call Try.func79 rfl Try.nm79 rfl rfl (limbAt_c ha (1) (by omega)) ?_
  rintro _ w11 ⟨rfl, hGw11⟩
  have hB := ext_trans hB hGw11
  have ha := ha0.ext hB
  refine WL.conv (r := ((xa.getD 1 0 : Nat) : Int)) Try.underlying43 Try.underlying72 rfl (wu64 (by omega) (by omega) (by omega)) rfl ?_
  refine WL.shl (r := ((xa.getD 1 0 * 4294967296 : Nat) : Int)) rfl rfl (by omega) (by rw [show IntKind.u64.bits = 64 from rfl, shl_nat (a := xa.getD 1 0) (s := 32) (by omega) (by omega) 64 (by omega)]; exact wu64 (by omega) (by omega) (by omega)) rfl ?_
  refine WL.move rfl rfl ?_
  refine WL.call Try.func79 rfl Try.nm79 rfl rfl (limbAt_c ha (0) (by omega)) ?_
  rintro _ w12 ⟨rfl, hGw12⟩
  have hB := ext_trans hB hGw12
  refine WL.conv (r := ((xa.getD 0 0 : Nat) : Int)) Try.underlying43 Try.underlying72 rfl (wu64 (by omega) (by omega) (by omega)) rfl ?_
  refine WL.bits (r := ((xa.getD 0 0 + 4294967296 * xa.getD 1 0 : Nat) : Int)) rfl rfl (.inr (.inl rfl)) (or64 rfl rfl hx1 hx0) rfl ?_
  refine WL.assign rfl rfl ?_
  refine WL.done ?_
  refine W.ret ?_
  refine ⟨_, rfl, ?_⟩
  exact ⟨rfl, hB⟩

theorem Of_c {w : World} (n : Nat) {X : Int} (hX : X = n) (hn : n < 18446744073709551616) :
    Calls Try.prog 84 #[.int .u64 X] w fun e w2 => ∃ v, e = .returned v ∧ (fun v w2 => ∃ A2 m2 c2, v = .slice A2 m2 c2 ∧ w.grownBy w2 none ∧ Own w.heap.size w2 43 1 A2 m2 c2 (us (digs n)) ∧ 0 ≤ m2) v w2 := by
  have hB := ext_refl w
  refine calls_of_W (vs := [.int .u64 X]) [2] Try.func84 rfl rfl rfl rfl ?_
  refine W.seq ?_
  refine W.region ?_
  refine WL.assign rfl rfl ?_
  refine WL.done ?_
  refine W.seq ?_
  refine W.region ?_
  refine WL.move rfl rfl ?_
  refine WL.conv (r := ((n % 4294967296 : Nat) : Int)) Try.underlying72 Try.underlying43 rfl (wu32m (by omega)) rfl ?_
  refine WL.move rfl rfl ?_
  refine WL.shr (r := ((n / 4294967296 : Nat) : Int)) rfl rfl (by omega) (shr_nat (a := n) (s := 32) (by omega) (by omega) 64 (by omega)) rfl ?_
  refine WL.conv (r := ((n / 4294967296 : Nat) : Int)) Try.underlying72 Try.underlying43 rfl (wu32m (by omega)) rfl ?_
  refine WL.lit1 (b := w.heap.size) Try.underlying23 Try.el43 rfl rfl rfl rfl (by intro v hv; simp only [List.mem_cons, List.not_mem_nil, or_false] at hv; rcases hv with rfl | rfl <;> rfl) (Nat.le_refl _) rfl ?_
  rintro A11 w12 - hO13 hGw12
  have hO13 := hO13.low (b' := w.heap.size) hB.size
  have hB := ext_trans hB hGw12
  change Own _ _ _ _ _ _ _ (us [n % 4294967296, n / 4294967296]) at hO13
  refine WL.call Try.func46 rfl Try.nm46 rfl rfl (Trim_c hO13.rd (by omega)) ?_
  rintro _ w14 ⟨A15, m16, cp17, rfl, hGw14, hO, hm18⟩
  have hO := hO.low (b' := w.heap.size) hB.size
  have hB := ext_trans hB hGw14
  have hO_l := hO.rd.ulen
  refine WL.assign rfl rfl ?_
  refine WL.done ?_
  refine W.ret ?_
  refine ⟨_, rfl, ?_⟩
  rw [digs_pair hn] at hO
  exact ⟨_, _, _, rfl, hB, hO, Nat.zero_le _⟩

theorem rOf_c {w : World} (n : Nat) {X : Int} (hX : X = n) (hn : n < 18446744073709551616) :
    Calls Try.prog 87 #[.int .u64 X] w fun e w2 => ∃ v, e = .returned v ∧ (fun v w2 => ∃ A2 m2 c2, v = .slice A2 m2 c2 ∧ w.grownBy w2 none ∧ Own w.heap.size w2 43 1 A2 m2 c2 (us (digs n)) ∧ 0 ≤ m2) v w2 := by
  have hB := ext_refl w
  refine calls_of_W (vs := [.int .u64 X]) [2] Try.func87 rfl rfl rfl rfl ?_
  refine W.seq ?_
  refine W.region ?_
  refine WL.assign rfl rfl ?_
  refine WL.done ?_
  refine W.seq ?_
  refine W.region ?_
  refine WL.move rfl rfl ?_
  refine WL.rem (r := ((n % 4294967296 : Nat) : Int)) rfl rfl (by omega) (tmod_nat (by omega) (by omega)) rfl ?_
  refine WL.conv (r := ((n % 4294967296 : Nat) : Int)) Try.underlying72 Try.underlying43 rfl (wu32m (by omega)) rfl ?_
  refine WL.move rfl rfl ?_
  refine WL.quo (r := ((n / 4294967296 : Nat) : Int)) rfl rfl (by omega) (qu64 (by omega) (by omega) (by omega)) rfl ?_
  refine WL.conv (r := ((n / 4294967296 : Nat) : Int)) Try.underlying72 Try.underlying43 rfl (wu32m (by omega)) rfl ?_
  refine WL.lit1 (b := w.heap.size) Try.underlying23 Try.el43 rfl rfl rfl rfl (by intro v hv; simp only [List.mem_cons, List.not_mem_nil, or_false] at hv; rcases hv with rfl | rfl <;> rfl) (Nat.le_refl _) rfl ?_
  rintro A11 w12 - hO13 hGw12
  have hO13 := hO13.low (b' := w.heap.size) hB.size
  have hB := ext_trans hB hGw12
  change Own _ _ _ _ _ _ _ (us [n % 4294967296, n / 4294967296]) at hO13
  refine WL.call Try.func88 rfl Try.nm88 rfl rfl (rTrim_c hO13.rd (by omega)) ?_
  rintro _ w14 ⟨A15, m16, cp17, rfl, hGw14, hO, hm18⟩
  have hO := hO.low (b' := w.heap.size) hB.size
  have hB := ext_trans hB hGw14
  have hO_l := hO.rd.ulen
  refine WL.assign rfl rfl ?_
  refine WL.done ?_
  refine W.ret ?_
  refine ⟨_, rfl, ?_⟩
  rw [digs_pair hn] at hO
  exact ⟨_, _, _, rfl, hB, hO, Nat.zero_le _⟩

theorem Bits_c {w : World} {Ba : Nat} {Aa : Option Addr} {ma ca : Nat} {xa : List Nat} (ha : Rd Ba w 1 Aa ma ca (us xa)) (hLa : Lim xa) (hs : ma ≤ 1099511627776) :
    Calls Try.prog 81 #[.slice Aa ma ca] w fun e w2 => ∃ v, e = .returned v ∧ (fun v w2 => v = .int .i64 ((bitn (nv xa) : Nat) : Int) ∧ w.grownBy w2 none) v w2 := by
  have ha := ha.norm
  have ha_l := ha.ulen
  have ha_x := ha.max
  simp only [maxLen] at ha_x
  have ha_c := ha.cap
  have ha0 := ha
  have hsa2 := sigL_le xa
  have htl : (trimL xa).length = sigL xa := rfl
  have hbx := bitn_len hLa
  have hB := ext_refl w
  refine calls_of_W (vs := [.slice Aa ma ca]) [2] Try.func81 rfl rfl rfl rfl ?_
  refine W.seq ?_
  refine W.region ?_
  refine WL.assign rfl rfl ?_
  refine WL.done ?_
  refine W.seq ?_
  refine W.region ?_
  refine WL.move rfl rfl ?_
  refine WL.call Try.func44 rfl Try.nm44 rfl rfl (sig_c ha) ?_
  rintro _ w11 ⟨rfl, hGw11⟩
  have hB := ext_trans hB hGw11
  have ha := ha0.ext hB
  refine WL.assign rfl rfl ?_
  refine WL.done ?_
  refine W.seq ?_
  refine W.seq ?_
  refine W.region ?_
  refine WL.move rfl rfl ?_
  refine WL.len Try.underlying23 rfl rfl ?_
  refine WL.eql rfl rfl rfl (fun c12 => ?_) (fun c12 => ?_)
  · refine WL.done ?_
    refine W.condT rfl ?_
    refine W.seq ?_
    refine W.region ?_
    refine WL.assign rfl rfl ?_
    refine WL.done ?_
    refine W.ret ?_
    refine ⟨_, rfl, ?_⟩
    have h0 : bitn (nv xa) = 0 := by rw [← nv_take_sig (l := xa) (i := 0) (by omega)]; rfl
    exact ⟨by rw [h0]; rfl, hB⟩
  · refine WL.done ?_
    refine W.condF rfl ?_
    refine W.skip ?_
    refine W.seq ?_
    refine W.region ?_
    refine WL.move rfl rfl ?_
    refine WL.len Try.underlying23 rfl rfl ?_
    refine WL.sub (r := (((sigL xa) - 1 : Nat) : Int)) rfl rfl (wi64 (by omega) (by omega) (by omega)) rfl ?_
    refine WL.assign rfl rfl ?_
    refine WL.done ?_
    refine W.seq ?_
    refine W.region ?_
    refine WL.move rfl rfl ?_
    refine WL.mul (r := ((((sigL xa) - 1) * 32 : Nat) : Int)) rfl rfl (wi64 (by omega) (by omega) (by omega)) rfl ?_
    refine WL.move rfl rfl ?_
    refine WL.move rfl rfl ?_
    refine WL.index1 ((sigL xa) - 1) Try.underlying23 Try.el43 rfl rfl (by omega) (by omega) (Rd.sig ha) rfl ?_
    refine WL.load Try.underlying43 rfl rfl (Rd.at_ (Rd.sig ha) (us_at (by omega))) rfl ?_
    have htl : (trimL xa).length = sigL xa := rfl
    have hxt := hLa.trim.getD (sigL xa - 1)
    have hb32 := bitn_32 hxt
    refine WL.call Try.func95 rfl Try.nm95 rfl rfl (Len32_c ((trimL xa).getD ((sigL xa) - 1) 0) (by omega) (by omega)) ?_
    rintro _ w13 ⟨rfl, hGw13⟩
    have hB := ext_trans hB hGw13
    refine WL.add (r := (((((sigL xa) - 1) * 32) + (bitn ((trimL xa).getD ((sigL xa) - 1) 0)) : Nat) : Int)) rfl rfl (wi64 (by omega) (by omega) (by omega)) rfl ?_
    refine WL.assign rfl rfl ?_
    refine WL.done ?_
    refine W.ret ?_
    refine ⟨_, rfl, ?_⟩
    have hbn := bitn_nv hLa (by omega)
    rw [trimL_getD0]
    rw [trimL_getD0] at hb32
    exact ⟨by congr 1; omega, hB⟩

theorem rBits_c {w : World} {Ba : Nat} {Aa : Option Addr} {ma ca : Nat} {xa : List Nat} (ha : Rd Ba w 1 Aa ma ca (us xa)) (hLa : Lim xa) (hs : ma ≤ 1099511627776) :
    Calls Try.prog 89 #[.slice Aa ma ca] w fun e w2 => ∃ v, e = .returned v ∧ (fun v w2 => v = .int .i64 ((bitn (nv xa) : Nat) : Int) ∧ w.grownBy w2 none) v w2 := by
  have ha := ha.norm
  have ha_l := ha.ulen
  have ha_x := ha.max
  simp only [maxLen] at ha_x
  have ha_c := ha.cap
  have ha0 := ha
  have hsa2 := sigL_le xa
  have htl : (trimL xa).length = sigL xa := rfl
  have hbx := bitn_len hLa
  have hB := ext_refl w
  refine calls_of_W (vs := [.slice Aa ma ca]) [2] Try.func89 rfl rfl rfl rfl ?_
  refine W.seq ?_
  refine W.region ?_
  refine WL.assign rfl rfl ?_
  refine WL.done ?_
  refine W.seq ?_
  refine W.region ?_
  refine WL.move rfl rfl ?_
  refine WL.call Try.func88 rfl Try.nm88 rfl rfl (rTrim_c ha (by omega)) ?_
  rintro _ w11 ⟨A12, m13, cp14, rfl, hGw11, hO, hm15⟩
  have hO := hO.low (b' := w.heap.size) hB.size
  have hB := ext_trans hB hGw11
  have hO_l := hO.rd.ulen
  have hO_L : (trimL xa).length = sigL xa := rfl
  refine WL.assign rfl rfl ?_
  refine WL.done ?_
  refine W.seq ?_
  refine W.seq ?_
  refine W.region ?_
  refine WL.move rfl rfl ?_
  refine WL.len Try.underlying23 rfl rfl ?_
  refine WL.eql rfl rfl rfl (fun c16 => ?_) (fun c16 => ?_)
  · refine WL.done ?_
    refine W.condT rfl ?_
    refine W.seq ?_
    refine W.region ?_
    refine WL.assign rfl rfl ?_
    refine WL.done ?_
    refine W.ret ?_
    refine ⟨_, rfl, ?_⟩
    have h0 : bitn (nv xa) = 0 := by rw [← nv_take_sig (l := xa) (i := 0) (by omega)]; rfl
    exact ⟨by rw [h0]; rfl, hB⟩
  · refine WL.done ?_
    refine W.condF rfl ?_
    refine W.skip ?_
    refine W.seq ?_
    refine W.region ?_
    refine WL.move rfl rfl ?_
    refine WL.len Try.underlying23 rfl rfl ?_
    refine WL.sub (r := ((m13 - 1 : Nat) : Int)) rfl rfl (wi64 (by omega) (by omega) (by omega)) rfl ?_
    refine WL.mul (r := ((32 * (m13 - 1) : Nat) : Int)) rfl rfl (wi64 (by omega) (by omega) (by omega)) rfl ?_
    refine WL.assign rfl rfl ?_
    refine WL.done ?_
    refine W.seq ?_
    refine W.seq ?_
    refine W.region ?_
    refine WL.move rfl rfl ?_
    refine WL.move rfl rfl ?_
    refine WL.len Try.underlying23 rfl rfl ?_
    refine WL.sub (r := ((m13 - 1 : Nat) : Int)) rfl rfl (wi64 (by omega) (by omega) (by omega)) rfl ?_
    refine WL.index1 (m13 - 1) Try.underlying23 Try.el43 rfl rfl (by omega) (by omega) hO.rd rfl ?_
    have hsl := hO_L
    have hxt := hLa.trim.getD (sigL xa - 1)
    refine WL.load Try.underlying43 rfl rfl (Rd.at_ hO.rd (us_at (by omega))) rfl ?_
    refine WL.assign rfl rfl ?_
    refine WL.done ?_
    refine W.block ?_
    refine W.loop (σ := Nat × Nat) (fun s w1 => match s with | (n, t) => w.grownBy w1 none ∧ n + bitn t = bitn (nv xa) ∧ t < 4294967296) (fun s => match s with | (n, t) => [(3, .int .i64 ((n : Nat) : Int)), (4, .int .u32 ((t : Nat) : Int))]) (fun s => match s with | (n, t) => t) (32 * (m13 - 1), (trimL xa).getD (m13 - 1) 0) ?_ ?_ ?_
    · exact ⟨hB, by rw [show m13 = sigL xa by omega, trimL_getD0]; exact (bitn_nv hLa (by omega)).symm, hLa.trim.getD _⟩
    · exact ⟨iv (by omega), iv (by omega), trivial⟩
    · rintro ⟨n, t⟩ w17 ⟨hB, hn, ht⟩
      have hb32 := bitn_32 ht
      have hbt : bitn (nv xa) ≤ 35184372088864 := by omega
      refine W.seq ?_
      refine W.seq ?_
      refine W.region ?_
      refine WL.move rfl rfl ?_
      refine WL.gtr rfl rfl rfl (fun c18 => ?_) (fun c18 => ?_)
      · refine WL.done ?_
        refine W.condT rfl ?_
        refine W.skip ?_
        refine W.seq ?_
        refine W.block ?_
        refine W.region ?_
        refine WL.move rfl rfl ?_
        refine WL.add (r := ((n + 1 : Nat) : Int)) rfl rfl (wi64 (by omega) (by omega) (by omega)) rfl ?_
        refine WL.assign rfl rfl ?_
        refine WL.done ?_
        refine W.region ?_
        refine WL.move rfl rfl ?_
        refine WL.quo (r := ((t / 2 : Nat) : Int)) rfl rfl (by omega) (qu32 (by omega) (by omega) (by omega)) rfl ?_
        refine WL.assign rfl rfl ?_
        refine WL.done ?_
        refine ⟨(n + 1, t / 2), ⟨iv (by omega), iv (by omega), trivial⟩, by (dsimp only; omega), ?_⟩
        exact ⟨hB, by have := bitn_half (x := t) (by omega); omega, by omega⟩
      · refine WL.done ?_
        refine W.condF rfl ?_
        refine W.exit ?_
        refine W.seq ?_
        refine W.region ?_
        refine WL.move rfl rfl ?_
        refine WL.assign rfl rfl ?_
        refine WL.done ?_
        refine W.ret ?_
        refine ⟨_, rfl, ?_⟩
        have ht0 : t = 0 := by omega
        subst ht0
        rw [bitn_zero] at hn
        exact ⟨by congr 1; omega, hB⟩
end Go.Proofs.Ythfpcebcfjlkmab
