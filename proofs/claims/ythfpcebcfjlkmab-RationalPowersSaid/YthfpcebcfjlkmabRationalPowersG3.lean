/- Contracts of functions of the program, and what they lean on: W8, Pw, W9, Ch, W10, Va, W11, Kn, Win, W12. -/
import Derived.Test.YthfpcebcfjlkmabRationalPowersG2
set_option linter.unusedSimpArgs false
set_option linter.unusedVariables false
namespace Go.Proofs.Ythfpcebcfjlkmab
open Go.RowKit
theorem Len32_c {w : World} (x : Nat) {X : Int} (hX : X = x) (hx : x < 4294967296) :
    Calls Try.prog 95 #[.int .u32 X] w fun e w2 => ∃ v, e = .returned v ∧ (fun v w2 => v = .int .i64 ((bitn x : Nat) : Int) ∧ w.grownBy w2 none) v w2 := by
  have hB := ext_refl w
  refine calls_of_W (vs := [.int .u32 X]) [2] Try.func95 rfl rfl rfl rfl ?_
  refine W.seq ?_
  refine W.region ?_
  refine WL.assign rfl rfl ?_
  refine WL.done ?_
  refine W.seq ?_
  refine W.seq ?_
  refine W.region ?_
  refine WL.move rfl rfl ?_
  refine WL.geq rfl rfl rfl (fun c11 => ?_) (fun c11 => ?_)
  · refine WL.done ?_
    refine W.condT rfl ?_
    refine W.seq ?_
    refine W.region ?_
    refine WL.move rfl rfl ?_
    refine WL.shr (r := ((x / 65536 : Nat) : Int)) rfl rfl (by omega) (shr_nat (a := x) (s := 16) (by omega) (by omega) 32 (by omega)) rfl ?_
    refine WL.assign rfl rfl ?_
    refine WL.done ?_
    refine W.region ?_
    refine WL.assign rfl rfl ?_
    refine WL.done ?_
    refine W.seq ?_
    refine W.seq ?_
    refine W.region ?_
    refine WL.move rfl rfl ?_
    refine WL.geq rfl rfl rfl (fun c12 => ?_) (fun c12 => ?_)
    · refine WL.done ?_
      refine W.condT rfl ?_
      refine W.seq ?_
      refine W.region ?_
      refine WL.move rfl rfl ?_
      refine WL.shr (r := (((x / 65536) / 256 : Nat) : Int)) rfl rfl (by omega) (shr_nat (a := x / 65536) (s := 8) (by omega) (by omega) 32 (by omega)) rfl ?_
      refine WL.assign rfl rfl ?_
      refine WL.done ?_
      refine W.region ?_
      refine WL.move rfl rfl ?_
      refine WL.add (r := ((16 + 8 : Nat) : Int)) rfl rfl (wi64 (by omega) (by omega) (by omega)) rfl ?_
      refine WL.assign rfl rfl ?_
      refine WL.done ?_
      refine W.seq ?_
      refine W.region ?_
      refine WL.move rfl rfl ?_
      refine WL.move rfl rfl ?_
      refine WL.conv (r := (((x / 65536) / 256 : Nat) : Int)) Try.underlying43 Try.underlying5 rfl (wu8 (by omega) (by omega) (by omega)) rfl ?_
      have hb8 := bitn_8lt (x := (x / 65536) / 256) (by omega)
      refine WL.indexTab (i := (x / 65536) / 256) bitn Try.underlying9 rfl rfl (by omega) (by omega) (by decide +kernel) rfl ?_
      refine WL.conv (r := ((bitn ((x / 65536) / 256) : Nat) : Int)) Try.underlying5 Try.underlying3 rfl (wi64 (by omega) (by omega) (by omega)) rfl ?_
      refine WL.add (r := (((16 + 8) + (bitn ((x / 65536) / 256)) : Nat) : Int)) rfl rfl (wi64 (by omega) (by omega) (by omega)) rfl ?_
      refine WL.assign rfl rfl ?_
      refine WL.done ?_
      refine W.ret ?_
      refine ⟨_, rfl, ?_⟩
      exact ⟨by congr 1; first | (have := bitn_8 (x := x / 65536) (by omega); have := bitn_16 (x := x) (by omega); omega) | (have := bitn_16 (x := x) (by omega); omega) | (have := bitn_8 (x := x) (by omega); omega) | omega, hB⟩
    · refine WL.done ?_
      refine W.condF rfl ?_
      refine W.skip ?_
      refine W.seq ?_
      refine W.region ?_
      refine WL.move rfl rfl ?_
      refine WL.move rfl rfl ?_
      refine WL.conv (r := ((x / 65536 : Nat) : Int)) Try.underlying43 Try.underlying5 rfl (wu8 (by omega) (by omega) (by omega)) rfl ?_
      have hb8 := bitn_8lt (x := x / 65536) (by omega)
      refine WL.indexTab (i := x / 65536) bitn Try.underlying9 rfl rfl (by omega) (by omega) (by decide +kernel) rfl ?_
      refine WL.conv (r := ((bitn (x / 65536) : Nat) : Int)) Try.underlying5 Try.underlying3 rfl (wi64 (by omega) (by omega) (by omega)) rfl ?_
      refine WL.add (r := ((16 + (bitn (x / 65536)) : Nat) : Int)) rfl rfl (wi64 (by omega) (by omega) (by omega)) rfl ?_
      refine WL.assign rfl rfl ?_
      refine WL.done ?_
      refine W.ret ?_
      refine ⟨_, rfl, ?_⟩
      exact ⟨by congr 1; first | (have := bitn_8 (x := x / 65536) (by omega); have := bitn_16 (x := x) (by omega); omega) | (have := bitn_16 (x := x) (by omega); omega) | (have := bitn_8 (x := x) (by omega); omega) | omega, hB⟩
  · refine WL.done ?_
    refine W.condF rfl ?_
    refine W.skip ?_
    refine W.seq ?_
    refine W.seq ?_
    refine W.region ?_
    refine WL.move rfl rfl ?_
    refine WL.geq rfl rfl rfl (fun c13 => ?_) (fun c13 => ?_)
    · refine WL.done ?_
      refine W.condT rfl ?_
      refine W.seq ?_
      refine W.region ?_
      refine WL.move rfl rfl ?_
      refine WL.shr (r := ((x / 256 : Nat) : Int)) rfl rfl (by omega) (shr_nat (a := x) (s := 8) (by omega) (by omega) 32 (by omega)) rfl ?_
      refine WL.assign rfl rfl ?_
      refine WL.done ?_
      refine W.region ?_
      refine WL.move rfl rfl ?_
      refine WL.add (r := ((0 + 8 : Nat) : Int)) rfl rfl (wi64 (by omega) (by omega) (by omega)) rfl ?_
      refine WL.assign rfl rfl ?_
      refine WL.done ?_
      refine W.seq ?_
      refine W.region ?_
      refine WL.move rfl rfl ?_
      refine WL.move rfl rfl ?_
      refine WL.conv (r := ((x / 256 : Nat) : Int)) Try.underlying43 Try.underlying5 rfl (wu8 (by omega) (by omega) (by omega)) rfl ?_
      have hb8 := bitn_8lt (x := x / 256) (by omega)
      refine WL.indexTab (i := x / 256) bitn Try.underlying9 rfl rfl (by omega) (by omega) (by decide +kernel) rfl ?_
      refine WL.conv (r := ((bitn (x / 256) : Nat) : Int)) Try.underlying5 Try.underlying3 rfl (wi64 (by omega) (by omega) (by omega)) rfl ?_
      refine WL.add (r := (((0 + 8) + (bitn (x / 256)) : Nat) : Int)) rfl rfl (wi64 (by omega) (by omega) (by omega)) rfl ?_
      refine WL.assign rfl rfl ?_
      refine WL.done ?_
      refine W.ret ?_
      refine ⟨_, rfl, ?_⟩
      exact ⟨by congr 1; first | (have := bitn_8 (x := x / 65536) (by omega); have := bitn_16 (x := x) (by omega); omega) | (have := bitn_16 (x := x) (by omega); omega) | (have := bitn_8 (x := x) (by omega); omega) | omega, hB⟩
    · refine WL.done ?_
      refine W.condF rfl ?_
      refine W.skip ?_
      refine W.seq ?_
      refine W.region ?_
      refine WL.move rfl rfl ?_
      refine WL.move rfl rfl ?_
      refine WL.conv (r := X) Try.underlying43 Try.underlying5 rfl (wu8 (by omega) (by omega) (by omega)) rfl ?_
      have hb8 := bitn_8lt (x := x) (by omega)
      refine WL.indexTab (i := x) bitn Try.underlying9 rfl rfl (by omega) (by omega) (by decide +kernel) rfl ?_
      refine WL.conv (r := ((bitn (x) : Nat) : Int)) Try.underlying5 Try.underlying3 rfl (wi64 (by omega) (by omega) (by omega)) rfl ?_
      refine WL.add (r := ((0 + (bitn (x)) : Nat) : Int)) rfl rfl (wi64 (by omega) (by omega) (by omega)) rfl ?_
      refine WL.assign rfl rfl ?_
      refine WL.done ?_
      refine W.ret ?_
      refine ⟨_, rfl, ?_⟩
      exact ⟨by congr 1; first | (have := bitn_8 (x := x / 65536) (by omega); have := bitn_16 (x := x) (by omega); omega) | (have := bitn_16 (x := x) (by omega); omega) | (have := bitn_8 (x := x) (by omega); omega) | omega, hB⟩

theorem word_c {w : World} {Ba : Nat} {Aa : Option Addr} {ma ca : Nat} {xa : List Nat} (ha : Rd Ba w 1 Aa ma ca (us xa)) (hLa : Lim xa) :
    Calls Try.prog 86 #[.slice Aa ma ca] w fun e w2 => ∃ v, e = .returned v ∧ (fun v w2 => v = .int .u64 ((xa.getD 0 0 + 4294967296 * xa.getD 1 0 : Nat) : Int) ∧ w.grownBy w2 none) v w2 := by
  have ha := ha.norm
  have ha_l := ha.ulen
  have ha_x := ha.max
  simp only [maxLen] at ha_x
  have ha_c := ha.cap
  have ha0 := ha
  have hx0 := hLa.getD 0
  have hx1 := hLa.getD 1
  have hB := ext_refl w
  refine calls_of_W (vs := [.slice Aa ma ca]) [2] Try.func86 rfl rfl rfl rfl ?_
  refine W.seq ?_
  refine W.region ?_
  refine WL.assign rfl rfl ?_
  refine WL.done ?_
  refine W.seq ?_
  refine W.region ?_
  refine WL.move rfl rfl ?_
  refine WL.call Try.func79 rfl Try.nm79 rfl rfl (limbAt_c ha (1) (by omega)) ?_
  rintro _ w11 ⟨rfl, hGw11⟩
  have hB := ext_trans hB hGw11
  have ha := ha0.ext hB
  refine WL.conv (r := ((xa.getD 1 0 : Nat) : Int)) Try.underlying43 Try.underlying72 rfl (wu64 (by omega) (by omega) (by omega)) rfl ?_
  refine WL.shl (r := ((xa.getD 1 0 * 4294967296 : Nat) : Int)) rfl rfl (by omega) (by rw [show IntKind.u64.bits = 64 from rfl, shl_nat (a := xa.getD 1 0) (s := 32) (by omega) (by omega) 64 (by omega)]; exact wu64 (by omega) (by omega) (by omega)) rfl ?_
  refine WL.move rfl rfl ?_
  refine WL.call Try.func79 rfl Try.nm79 rfl rfl (limbAt_c ha (0) (by omega)) ?_
  rintro _ w12 ⟨rfl, hGw12⟩
  have hB := ext_trans hB hGw12
  refine WL.conv (r := ((xa.getD 0 0 : Nat) : Int)) Try.underlying43 Try.underlying72 rfl (wu64 (by omega) (by omega) (by omega)) rfl ?_
  refine WL.bits (r := ((xa.getD 0 0 + 4294967296 * xa.getD 1 0 : Nat) : Int)) rfl rfl (.inr (.inl rfl)) (or64 rfl rfl hx1 hx0) rfl ?_
  refine WL.assign rfl rfl ?_
  refine WL.done ?_
  refine W.ret ?_
  refine ⟨_, rfl, ?_⟩
  exact ⟨rfl, hB⟩

theorem Of_c {w : World} (n : Nat) {X : Int} (hX : X = n) (hn : n < 18446744073709551616) :
    Calls Try.prog 84 #[.int .u64 X] w fun e w2 => ∃ v, e = .returned v ∧ (fun v w2 => ∃ A2 m2 c2, v = .slice A2 m2 c2 ∧ w.grownBy w2 none ∧ Own w.heap.size w2 43 1 A2 m2 c2 (us (digs n)) ∧ 0 ≤ m2) v w2 := by
  have hB := ext_refl w
  refine calls_of_W (vs := [.int .u64 X]) [2] Try.func84 rfl rfl rfl rfl ?_
  refine W.seq ?_
  refine W.region ?_
  refine WL.assign rfl rfl ?_
  refine WL.done ?_
  refine W.seq ?_
  refine W.region ?_
  refine WL.move rfl rfl ?_
  refine WL.conv (r := ((n % 4294967296 : Nat) : Int)) Try.underlying72 Try.underlying43 rfl (wu32m (by omega)) rfl ?_
  refine WL.move rfl rfl ?_
  refine WL.shr (r := ((n / 4294967296 : Nat) : Int)) rfl rfl (by omega) (shr_nat (a := n) (s := 32) (by omega) (by omega) 64 (by omega)) rfl ?_
  refine WL.conv (r := ((n / 4294967296 : Nat) : Int)) Try.underlying72 Try.underlying43 rfl (wu32m (by omega)) rfl ?_
  refine WL.lit1 (b := w.heap.size) Try.underlying23 Try.el43 rfl rfl rfl rfl (by intro v hv; simp only [List.mem_cons, List.not_mem_nil, or_false] at hv; rcases hv with rfl | rfl <;> rfl) (Nat.le_refl _) rfl ?_
  rintro A11 w12 - hO13 hGw12
  have hO13 := hO13.low (b' := w.heap.size) hB.size
  have hB := ext_trans hB hGw12
  change Own _ _ _ _ _ _ _ (us [n % 4294967296, n / 4294967296]) at hO13
  refine WL.call Try.func46 rfl Try.nm46 rfl rfl (Trim_c hO13.rd (by omega)) ?_
  rintro _ w14 ⟨A15, m16, cp17, rfl, hGw14, hO, hm18⟩
  have hO := hO.low (b' := w.heap.size) hB.size
  have hB := ext_trans hB hGw14
  have hO_l := hO.rd.ulen
  refine WL.assign rfl rfl ?_
  refine WL.done ?_
  refine W.ret ?_
  refine ⟨_, rfl, ?_⟩
  rw [digs_pair hn] at hO
  exact ⟨_, _, _, rfl, hB, hO, Nat.zero_le _⟩

theorem Bits_c {w : World} {Ba : Nat} {Aa : Option Addr} {ma ca : Nat} {xa : List Nat} (ha : Rd Ba w 1 Aa ma ca (us xa)) (hLa : Lim xa) (hs : ma ≤ 1099511627776) :
    Calls Try.prog 81 #[.slice Aa ma ca] w fun e w2 => ∃ v, e = .returned v ∧ (fun v w2 => v = .int .i64 ((bitn (nv xa) : Nat) : Int) ∧ w.grownBy w2 none) v w2 := by
  have ha := ha.norm
  have ha_l := ha.ulen
  have ha_x := ha.max
  simp only [maxLen] at ha_x
  have ha_c := ha.cap
  have ha0 := ha
  have hsa2 := sigL_le xa
  have htl : (trimL xa).length = sigL xa := rfl
  have hbx := bitn_len hLa
  have hB := ext_refl w
  refine calls_of_W (vs := [.slice Aa ma ca]) [2] Try.func81 rfl rfl rfl rfl ?_
  refine W.seq ?_
  refine W.region ?_
  refine WL.assign rfl rfl ?_
  refine WL.done ?_
  refine W.seq ?_
  refine W.region ?_
  refine WL.move rfl rfl ?_
  refine WL.call Try.func44 rfl Try.nm44 rfl rfl (sig_c ha) ?_
  rintro _ w11 ⟨rfl, hGw11⟩
  have hB := ext_trans hB hGw11
  have ha := ha0.ext hB
  refine WL.assign rfl rfl ?_
  refine WL.done ?_
  refine W.seq ?_
  refine W.seq ?_
  refine W.region ?_
  refine WL.move rfl rfl ?_
  refine WL.len Try.underlying23 rfl rfl ?_
  refine WL.eql rfl rfl rfl (fun c12 => ?_) (fun c12 => ?_)
  · refine WL.done ?_
    refine W.condT rfl ?_
    refine W.seq ?_
    refine W.region ?_
    refine WL.assign rfl rfl ?_
    refine WL.done ?_
    refine W.ret ?_
    refine ⟨_, rfl, ?_⟩
    have h0 : bitn (nv xa) = 0 := by rw [← nv_take_sig (l := xa) (i := 0) (by omega)]; rfl
    exact ⟨by rw [h0]; rfl, hB⟩
  · refine WL.done ?_
    refine W.condF rfl ?_
    refine W.skip ?_
    refine W.seq ?_
    refine W.region ?_
    refine WL.move rfl rfl ?_
    refine WL.len Try.underlying23 rfl rfl ?_
    refine WL.sub (r := (((sigL xa) - 1 : Nat) : Int)) rfl rfl (wi64 (by omega) (by omega) (by omega)) rfl ?_
    refine WL.assign rfl rfl ?_
    refine WL.done ?_
    refine W.seq ?_
    refine W.region ?_
    refine WL.move rfl rfl ?_
    refine WL.mul (r := ((((sigL xa) - 1) * 32 : Nat) : Int)) rfl rfl (wi64 (by omega) (by omega) (by omega)) rfl ?_
    refine WL.move rfl rfl ?_
    refine WL.move rfl rfl ?_
    refine WL.index1 ((sigL xa) - 1) Try.underlying23 Try.el43 rfl rfl (by omega) (by omega) (Rd.sig ha) rfl ?_
    refine WL.load Try.underlying43 rfl rfl (Rd.at_ (Rd.sig ha) (us_at (by omega))) rfl ?_
    have htl : (trimL xa).length = sigL xa := rfl
    have hxt := hLa.trim.getD (sigL xa - 1)
    have hb32 := bitn_32 hxt
    refine WL.call Try.func95 rfl Try.nm95 rfl rfl (Len32_c ((trimL xa).getD ((sigL xa) - 1) 0) (by omega) (by omega)) ?_
    rintro _ w13 ⟨rfl, hGw13⟩
    have hB := ext_trans hB hGw13
    refine WL.add (r := (((((sigL xa) - 1) * 32) + (bitn ((trimL xa).getD ((sigL xa) - 1) 0)) : Nat) : Int)) rfl rfl (wi64 (by omega) (by omega) (by omega)) rfl ?_
    refine WL.assign rfl rfl ?_
    refine WL.done ?_
    refine W.ret ?_
    refine ⟨_, rfl, ?_⟩
    have hbn := bitn_nv hLa (by omega)
    rw [trimL_getD0]
    rw [trimL_getD0] at hb32
    exact ⟨by congr 1; omega, hB⟩

theorem rBits_c {w : World} {Ba : Nat} {Aa : Option Addr} {ma ca : Nat} {xa : List Nat} (ha : Rd Ba w 1 Aa ma ca (us xa)) (hLa : Lim xa) (hs : ma ≤ 1099511627776) :
    Calls Try.prog 89 #[.slice Aa ma ca] w fun e w2 => ∃ v, e = .returned v ∧ (fun v w2 => v = .int .i64 ((bitn (nv xa) : Nat) : Int) ∧ w.grownBy w2 none) v w2 := by
  have ha := ha.norm
  have ha_l := ha.ulen
  have ha_x := ha.max
  simp only [maxLen] at ha_x
  have ha_c := ha.cap
  have ha0 := ha
  have hsa2 := sigL_le xa
  have htl : (trimL xa).length = sigL xa := rfl
  have hbx := bitn_len hLa
  have hB := ext_refl w
  refine calls_of_W (vs := [.slice Aa ma ca]) [2] Try.func89 rfl rfl rfl rfl ?_
  refine W.seq ?_
  refine W.region ?_
  refine WL.assign rfl rfl ?_
  refine WL.done ?_
  refine W.seq ?_
  refine W.region ?_
  refine WL.move rfl rfl ?_
  refine WL.call Try.func88 rfl Try.nm88 rfl rfl (rTrim_c ha (by omega)) ?_
  rintro _ w11 ⟨A12, m13, cp14, rfl, hGw11, hO, hm15⟩
  have hO := hO.low (b' := w.heap.size) hB.size
  have hB := ext_trans hB hGw11
  have hO_l := hO.rd.ulen
  have hO_L : (trimL xa).length = sigL xa := rfl
  refine WL.assign rfl rfl ?_
  refine WL.done ?_
  refine W.seq ?_
  refine W.seq ?_
  refine W.region ?_
  refine WL.move rfl rfl ?_
  refine WL.len Try.underlying23 rfl rfl ?_
  refine WL.eql rfl rfl rfl (fun c16 => ?_) (fun c16 => ?_)
  · refine WL.done ?_
    refine W.condT rfl ?_
    refine W.seq ?_
    refine W.region ?_
    refine WL.assign rfl rfl ?_
    refine WL.done ?_
    refine W.ret ?_
    refine ⟨_, rfl, ?_⟩
    have h0 : bitn (nv xa) = 0 := by rw [← nv_take_sig (l := xa) (i := 0) (by omega)]; rfl
    exact ⟨by rw [h0]; rfl, hB⟩
  · refine WL.done ?_
    refine W.condF rfl ?_
    refine W.skip ?_
    refine W.seq ?_
    refine W.region ?_
    refine WL.move rfl rfl ?_
    refine WL.len Try.underlying23 rfl rfl ?_
    refine WL.sub (r := ((m13 - 1 : Nat) : Int)) rfl rfl (wi64 (by omega) (by omega) (by omega)) rfl ?_
    refine WL.mul (r := ((32 * (m13 - 1) : Nat) : Int)) rfl rfl (wi64 (by omega) (by omega) (by omega)) rfl ?_
    refine WL.assign rfl rfl ?_
    refine WL.done ?_
    refine W.seq ?_
    refine W.seq ?_
    refine W.region ?_
    refine WL.move rfl rfl ?_
    refine WL.move rfl rfl ?_
    refine WL.len Try.underlying23 rfl rfl ?_
    refine WL.sub (r := ((m13 - 1 : Nat) : Int)) rfl rfl (wi64 (by omega) (by omega) (by omega)) rfl ?_
    refine WL.index1 (m13 - 1) Try.underlying23 Try.el43 rfl rfl (by omega) (by omega) hO.rd rfl ?_
    have hsl := hO_L
    have hxt := hLa.trim.getD (sigL xa - 1)
    refine WL.load Try.underlying43 rfl rfl (Rd.at_ hO.rd (us_at (by omega))) rfl ?_
    refine WL.assign rfl rfl ?_
    refine WL.done ?_
    refine W.block ?_
    refine W.loop (σ := Nat × Nat) (fun s w1 => match s with | (n, t) => w.grownBy w1 none ∧ n + bitn t = bitn (nv xa) ∧ t < 4294967296) (fun s => match s with | (n, t) => [(3, .int .i64 ((n : Nat) : Int)), (4, .int .u32 ((t : Nat) : Int))]) (fun s => match s with | (n, t) => t) (32 * (m13 - 1), (trimL xa).getD (m13 - 1) 0) ?_ ?_ ?_
    · exact ⟨hB, by rw [show m13 = sigL xa by omega, trimL_getD0]; exact (bitn_nv hLa (by omega)).symm, hLa.trim.getD _⟩
    · exact ⟨iv (by omega), iv (by omega), trivial⟩
    · rintro ⟨n, t⟩ w17 ⟨hB, hn, ht⟩
      have hb32 := bitn_32 ht
      have hbt : bitn (nv xa) ≤ 35184372088864 := by omega
      refine W.seq ?_
      refine W.seq ?_
      refine W.region ?_
      refine WL.move rfl rfl ?_
      refine WL.gtr rfl rfl rfl (fun c18 => ?_) (fun c18 => ?_)
      · refine WL.done ?_
        refine W.condT rfl ?_
        refine W.skip ?_
        refine W.seq ?_
        refine W.block ?_
        refine W.region ?_
        refine WL.move rfl rfl ?_
        refine WL.add (r := ((n + 1 : Nat) : Int)) rfl rfl (wi64 (by omega) (by omega) (by omega)) rfl ?_
        refine WL.assign rfl rfl ?_
        refine WL.done ?_
        refine W.region ?_
        refine WL.move rfl rfl ?_
        refine WL.quo (r := ((t / 2 : Nat) : Int)) rfl rfl (by omega) (qu32 (by omega) (by omega) (by omega)) rfl ?_
        refine WL.assign rfl rfl ?_
        refine WL.done ?_
        refine ⟨(n + 1, t / 2), ⟨iv (by omega), iv (by omega), trivial⟩, by (dsimp only; omega), ?_⟩
        exact ⟨hB, by have := bitn_half (x := t) (by omega); omega, by omega⟩
      · refine WL.done ?_
        refine W.condF rfl ?_
        refine W.exit ?_
        refine W.seq ?_
        refine W.region ?_
        refine WL.move rfl rfl ?_
        refine WL.assign rfl rfl ?_
        refine WL.done ?_
        refine W.ret ?_
        refine ⟨_, rfl, ?_⟩
        have ht0 : t = 0 := by omega
        subst ht0
        rw [bitn_zero] at hn
        exact ⟨by congr 1; omega, hB⟩
end Go.Proofs.Ythfpcebcfjlkmab
namespace Go.Proofs.Ythfpcebcfjlkmab
open Go.RowKit
/-- The greatest number of limbs, and twice that. -/
def c4 : Nat := 4096
def c8 : Nat := 8192
theorem c4_eq : c4 = 4096 := rfl
theorem c8_eq : c8 = 8192 := rfl
theorem c48 : c8 = c4 + c4 := rfl
/-- The least number with more than 4096 limbs. -/
def bigN : Nat := 4294967296 ^ c4
theorem bigN_eq : bigN = 4294967296 ^ c4 := by unfold bigN; rfl
theorem bigN_two : bigN = 2 ^ (32 * c4) := by rw [bigN_eq, pow32]
theorem bigN_gt : 4294967296 ≤ bigN := by
  rw [bigN_eq]
  have : 4294967296 ^ 1 ≤ 4294967296 ^ c4 := Nat.pow_le_pow_right (by decide) (by rw [c4_eq]; decide)
  rwa [Nat.pow_one] at this
theorem digs_len_iff {n k : Nat} : (digs n).length ≤ k ↔ n < 4294967296 ^ k := by
  constructor
  · intro h
    have h1 := nv_lt (digs_lim n)
    rw [nv_digs] at h1
    exact Nat.lt_of_lt_of_le h1 (Nat.pow_le_pow_right (by decide) h)
  · exact digs_len
theorem digs_big {n : Nat} : (digs n).length ≤ 4096 ↔ n < bigN := by rw [← c4_eq, bigN_eq]; exact digs_len_iff
theorem pow_big {a n : Nat} (hb : 2 ≤ bitn a) (h : 131071 / (bitn a - 1) < n) : bigN ≤ a ^ n := by
  have h1 : 2 ^ (bitn a - 1) ≤ a := bitn_lt.1 (by omega)
  have h2 := (Nat.div_lt_iff_lt_mul (by omega : 0 < bitn a - 1)).1 h
  have h3 : (2 ^ (bitn a - 1)) ^ n ≤ a ^ n := Nat.pow_le_pow_left h1 n
  rw [← Nat.pow_mul] at h3
  rw [bigN_two]
  exact Nat.le_trans (Nat.pow_le_pow_right (by decide) (by rw [Nat.mul_comm] at h2; rw [c4_eq]; omega)) h3
theorem pow_small {a n : Nat} (hb : 2 ≤ bitn a) (h : n ≤ 131071 / (bitn a - 1)) : a ^ n < 4294967296 ^ c8 := by
  have h1 : a < 2 ^ bitn a := bitn_le.1 (Nat.le_refl _)
  have h2 := (Nat.le_div_iff_mul_le (by omega : 0 < bitn a - 1)).1 h
  have h3 : a ^ n ≤ (2 ^ bitn a) ^ n := Nat.pow_le_pow_left (by omega) n
  rw [← Nat.pow_mul] at h3
  have h4 : n * bitn a ≤ n * (2 * (bitn a - 1)) := Nat.mul_le_mul_left n (by omega)
  have h5 : n * (2 * (bitn a - 1)) = 2 * (n * (bitn a - 1)) := by rw [Nat.mul_left_comm]
  rw [Nat.mul_comm] at h3
  rw [pow32]
  exact Nat.lt_of_le_of_lt h3 (Nat.pow_lt_pow_right (by decide) (by rw [c8_eq]; omega))
theorem pow_big2 {a n : Nat} (ha : 2 ≤ a) (h : 131072 ≤ n) : bigN ≤ a ^ n := by
  rw [bigN_two]
  have e : 32 * c4 ≤ n := by rw [c4_eq]; omega
  exact Nat.le_trans (Nat.pow_le_pow_right (by decide) e) (Nat.pow_le_pow_left ha n)
theorem pow_len {a k n c : Nat} (ha : 0 < a) (hk : k ≤ n) (h : a ^ n < 4294967296 ^ c) : (digs (a ^ k)).length ≤ c :=
  digs_len (Nat.lt_of_le_of_lt (Nat.pow_le_pow_right ha hk) h)
theorem sq_len {a q : Nat} (h : (digs (a ^ q)).length ≤ 4096) : (digs (a ^ (q + q))).length ≤ 8192 := by
  rw [← c4_eq, digs_len_iff] at h
  rw [← c8_eq, digs_len_iff, Nat.pow_add, c48, Nat.pow_add]
  exact Nat.mul_lt_mul'' h h
theorem half_pow {n j : Nat} (hj : 0 < j) : n / 2 ^ (j - 1) / 2 = n / 2 ^ j := by
  rw [Nat.div_div_eq_div_mul, ← Nat.pow_succ, show (j - 1).succ = j by omega]
theorem top_one {n : Nat} (h : 0 < n) : n / 2 ^ (bitn n - 1) = 1 := by
  have hp : 0 < bitn n := bitn_lt.2 (by omega)
  have h1 : 2 ^ (bitn n - 1) ≤ n := bitn_lt.1 (by omega)
  have h2 : n < 2 ^ (bitn n - 1 + 1) := bitn_le.1 (by omega)
  rw [Nat.pow_succ] at h2
  rw [Nat.div_eq_iff (Nat.pow_pos (by decide))]
  omega
theorem pw_half {k : Nat} (h : 0 < k) : 2 ^ k / 2 = 2 ^ (k - 1) := by
  obtain ⟨j, rfl⟩ : ∃ j, k = j + 1 := ⟨k - 1, by omega⟩
  rw [Nat.pow_succ]; simp
theorem pw_zero {k : Nat} (h : 0 < 2 ^ k / 2) : 0 < k := by
  rcases Nat.eq_zero_or_pos k with h0 | h0
  · subst h0; simp at h
  · exact h0
theorem pw_none {k : Nat} (h : 2 ^ k / 2 = 0) : k = 0 := by
  rcases Nat.eq_zero_or_pos k with h0 | h0
  · exact h0
  · rw [pw_half h0] at h
    have := Nat.pow_pos (n := k - 1) (show 0 < 2 by decide)
    omega
theorem and1_i64 {P : Program} {w : World} {a : Nat} {x : Int} (hx : x = a) (ha : a < 9223372036854775808) : (Op.intBits .and .i64 x 1).run P w = .ok (.int .i64 ((a % 2 : Nat) : Int)) w := by
  subst hx
  have e1 : (BitVec.ofInt 64 (a : Int) &&& BitVec.ofInt 64 (1 : Int)).toNat = a % 2 := by
    rw [show (1 : Int) = ((1 : Nat) : Int) from rfl, BitVec.ofInt_natCast, BitVec.ofInt_natCast, BitVec.toNat_and, BitVec.toNat_ofNat, BitVec.toNat_ofNat, Nat.mod_eq_of_lt (by omega), Nat.mod_eq_of_lt (by omega), Nat.and_one_is_mod]
  have e2 : IntKind.i64.wrap ((a % 2 : Nat) : Int) = ((a % 2 : Nat) : Int) := wi64 (by omega) (by omega) rfl
  show Result.ok (Value.int .i64 (IntKind.i64.wrap ((BitVec.ofInt 64 (a : Int) &&& BitVec.ofInt 64 (1 : Int)).toNat : Int))) w = _
  rw [e1, e2]
theorem bitn_one {a : Nat} (h : bitn a ≤ 1) : a ≤ 1 := by have := bitn_le.1 h; omega
theorem pow_le_one {a n : Nat} (h : a ≤ 1) (hn : 0 < n) : a ^ n = a := by
  rcases (by omega : a = 0 ∨ a = 1) with rfl | rfl
  · exact Nat.zero_pow hn
  · simp
end Go.Proofs.Ythfpcebcfjlkmab
set_option linter.unusedSimpArgs false
set_option linter.unusedVariables false
namespace Go.Proofs.Ythfpcebcfjlkmab
open Go.RowKit
theorem Len64_c {w : World} (x : Nat) {X : Int} (hX : X = x) (hx : x < 18446744073709551616) :
    Calls Try.prog 109 #[.int .u64 X] w fun e w2 => ∃ v, e = .returned v ∧ (fun v w2 => v = .int .i64 ((bitn x : Nat) : Int) ∧ w.grownBy w2 none) v w2 := by
  have s32 := @bitn_s32 x
  have s16 := @bitn_16 x
  have s8 := @bitn_8 x
  have t16 := @bitn_16 (x / 4294967296)
  have t8 := @bitn_8 (x / 4294967296)
  have u8 := @bitn_8 (x / 65536)
  have v8 := @bitn_8 (x / 4294967296 / 65536)
  have hB := ext_refl w
  refine calls_of_W (vs := [.int .u64 X]) [2] Try.func109 rfl rfl rfl rfl ?_
  refine W.seq ?_
  refine W.region ?_
  refine WL.assign rfl rfl ?_
  refine WL.done ?_
  refine W.seq ?_
  refine W.seq ?_
  refine W.region ?_
  refine WL.move rfl rfl ?_
  refine WL.geq rfl rfl rfl (fun c11 => ?_) (fun c11 => ?_)
  · refine WL.done ?_
    refine W.condT rfl ?_
    refine W.seq ?_
    refine W.region ?_
    refine WL.move rfl rfl ?_
    refine WL.shr (r := ((x / 4294967296 : Nat) : Int)) rfl rfl (by omega) (shr_nat (a := x) (s := 32) (by omega) (by omega) 64 (by omega)) rfl ?_
    refine WL.assign rfl rfl ?_
    refine WL.done ?_
    refine W.region ?_
    refine WL.assign rfl rfl ?_
    refine WL.done ?_
    refine W.seq ?_
    refine W.seq ?_
    refine W.region ?_
    refine WL.move rfl rfl ?_
    refine WL.geq rfl rfl rfl (fun c12 => ?_) (fun c12 => ?_)
    · refine WL.done ?_
      refine W.condT rfl ?_
      refine W.seq ?_
      refine W.region ?_
      refine WL.move rfl rfl ?_
      refine WL.shr (r := (((x / 4294967296) / 65536 : Nat) : Int)) rfl rfl (by omega) (shr_nat (a := x / 4294967296) (s := 16) (by omega) (by omega) 64 (by omega)) rfl ?_
      refine WL.assign rfl rfl ?_
      refine WL.done ?_
      refine W.region ?_
      refine WL.move rfl rfl ?_
      refine WL.add (r := ((32 + 16 : Nat) : Int)) rfl rfl (wi64 (by omega) (by omega) (by omega)) rfl ?_
      refine WL.assign rfl rfl ?_
      refine WL.done ?_
      refine W.seq ?_
      refine W.seq ?_
      refine W.region ?_
      refine WL.move rfl rfl ?_
      refine WL.geq rfl rfl rfl (fun c13 => ?_) (fun c13 => ?_)
      · refine WL.done ?_
        refine W.condT rfl ?_
        refine W.seq ?_
        refine W.region ?_
        refine WL.move rfl rfl ?_
        refine WL.shr (r := ((((x / 4294967296) / 65536) / 256 : Nat) : Int)) rfl rfl (by omega) (shr_nat (a := (x / 4294967296) / 65536) (s := 8) (by omega) (by omega) 64 (by omega)) rfl ?_
        refine WL.assign rfl rfl ?_
        refine WL.done ?_
        refine W.region ?_
        refine WL.move rfl rfl ?_
        refine WL.add (r := (((32 + 16) + 8 : Nat) : Int)) rfl rfl (wi64 (by omega) (by omega) (by omega)) rfl ?_
        refine WL.assign rfl rfl ?_
        refine WL.done ?_
        refine W.seq ?_
        refine W.region ?_
        refine WL.move rfl rfl ?_
        refine WL.move rfl rfl ?_
        refine WL.conv (r := ((((x / 4294967296) / 65536) / 256 : Nat) : Int)) Try.underlying72 Try.underlying5 rfl (wu8 (by omega) (by omega) (by omega)) rfl ?_
        have hb8 := bitn_8lt (x := ((x / 4294967296) / 65536) / 256) (by omega)
        refine WL.indexTab (i := ((x / 4294967296) / 65536) / 256) bitn Try.underlying9 rfl rfl (by omega) (by omega) (by decide +kernel) rfl ?_
        refine WL.conv (r := ((bitn (((x / 4294967296) / 65536) / 256) : Nat) : Int)) Try.underlying5 Try.underlying3 rfl (wi64 (by omega) (by omega) (by omega)) rfl ?_
        refine WL.add (r := ((((32 + 16) + 8) + (bitn (((x / 4294967296) / 65536) / 256)) : Nat) : Int)) rfl rfl (wi64 (by omega) (by omega) (by omega)) rfl ?_
        refine WL.assign rfl rfl ?_
        refine WL.done ?_
        refine W.ret ?_
        refine ⟨_, rfl, ?_⟩
        exact ⟨by congr 1; omega, hB⟩
      · refine WL.done ?_
        refine W.condF rfl ?_
        refine W.skip ?_
        refine W.seq ?_
        refine W.region ?_
        refine WL.move rfl rfl ?_
        refine WL.move rfl rfl ?_
        refine WL.conv (r := (((x / 4294967296) / 65536 : Nat) : Int)) Try.underlying72 Try.underlying5 rfl (wu8 (by omega) (by omega) (by omega)) rfl ?_
        have hb8 := bitn_8lt (x := (x / 4294967296) / 65536) (by omega)
        refine WL.indexTab (i := (x / 4294967296) / 65536) bitn Try.underlying9 rfl rfl (by omega) (by omega) (by decide +kernel) rfl ?_
        refine WL.conv (r := ((bitn ((x / 4294967296) / 65536) : Nat) : Int)) Try.underlying5 Try.underlying3 rfl (wi64 (by omega) (by omega) (by omega)) rfl ?_
        refine WL.add (r := (((32 + 16) + (bitn ((x / 4294967296) / 65536)) : Nat) : Int)) rfl rfl (wi64 (by omega) (by omega) (by omega)) rfl ?_
        refine WL.assign rfl rfl ?_
        refine WL.done ?_
        refine W.ret ?_
        refine ⟨_, rfl, ?_⟩
        exact ⟨by congr 1; omega, hB⟩
    · refine WL.done ?_
      refine W.condF rfl ?_
      refine W.skip ?_
      refine W.seq ?_
      refine W.seq ?_
      refine W.region ?_
      refine WL.move rfl rfl ?_
      refine WL.geq rfl rfl rfl (fun c14 => ?_) (fun c14 => ?_)
      · refine WL.done ?_
        refine W.condT rfl ?_
        refine W.seq ?_
        refine W.region ?_
        refine WL.move rfl rfl ?_
        refine WL.shr (r := (((x / 4294967296) / 256 : Nat) : Int)) rfl rfl (by omega) (shr_nat (a := x / 4294967296) (s := 8) (by omega) (by omega) 64 (by omega)) rfl ?_
        refine WL.assign rfl rfl ?_
        refine WL.done ?_
        refine W.region ?_
        refine WL.move rfl rfl ?_
        refine WL.add (r := ((32 + 8 : Nat) : Int)) rfl rfl (wi64 (by omega) (by omega) (by omega)) rfl ?_
        refine WL.assign rfl rfl ?_
        refine WL.done ?_
        refine W.seq ?_
        refine W.region ?_
        refine WL.move rfl rfl ?_
        refine WL.move rfl rfl ?_
        refine WL.conv (r := (((x / 4294967296) / 256 : Nat) : Int)) Try.underlying72 Try.underlying5 rfl (wu8 (by omega) (by omega) (by omega)) rfl ?_
        have hb8 := bitn_8lt (x := (x / 4294967296) / 256) (by omega)
        refine WL.indexTab (i := (x / 4294967296) / 256) bitn Try.underlying9 rfl rfl (by omega) (by omega) (by decide +kernel) rfl ?_
        refine WL.conv (r := ((bitn ((x / 4294967296) / 256) : Nat) : Int)) Try.underlying5 Try.underlying3 rfl (wi64 (by omega) (by omega) (by omega)) rfl ?_
        refine WL.add (r := (((32 + 8) + (bitn ((x / 4294967296) / 256)) : Nat) : Int)) rfl rfl (wi64 (by omega) (by omega) (by omega)) rfl ?_
        refine WL.assign rfl rfl ?_
        refine WL.done ?_
        refine W.ret ?_
        refine ⟨_, rfl, ?_⟩
        exact ⟨by congr 1; omega, hB⟩
      · refine WL.done ?_
        refine W.condF rfl ?_
        refine W.skip ?_
        refine W.seq ?_
        refine W.region ?_
        refine WL.move rfl rfl ?_
        refine WL.move rfl rfl ?_
        refine WL.conv (r := ((x / 4294967296 : Nat) : Int)) Try.underlying72 Try.underlying5 rfl (wu8 (by omega) (by omega) (by omega)) rfl ?_
        have hb8 := bitn_8lt (x := x / 4294967296) (by omega)
        refine WL.indexTab (i := x / 4294967296) bitn Try.underlying9 rfl rfl (by omega) (by omega) (by decide +kernel) rfl ?_
        refine WL.conv (r := ((bitn (x / 4294967296) : Nat) : Int)) Try.underlying5 Try.underlying3 rfl (wi64 (by omega) (by omega) (by omega)) rfl ?_
        refine WL.add (r := ((32 + (bitn (x / 4294967296)) : Nat) : Int)) rfl rfl (wi64 (by omega) (by omega) (by omega)) rfl ?_
        refine WL.assign rfl rfl ?_
        refine WL.done ?_
        refine W.ret ?_
        refine ⟨_, rfl, ?_⟩
        exact ⟨by congr 1; omega, hB⟩
  · refine WL.done ?_
    refine W.condF rfl ?_
    refine W.skip ?_
    refine W.seq ?_
    refine W.seq ?_
    refine W.region ?_
    refine WL.move rfl rfl ?_
    refine WL.geq rfl rfl rfl (fun c15 => ?_) (fun c15 => ?_)
    · refine WL.done ?_
      refine W.condT rfl ?_
      refine W.seq ?_
      refine W.region ?_
      refine WL.move rfl rfl ?_
      refine WL.shr (r := ((x / 65536 : Nat) : Int)) rfl rfl (by omega) (shr_nat (a := x) (s := 16) (by omega) (by omega) 64 (by omega)) rfl ?_
      refine WL.assign rfl rfl ?_
      refine WL.done ?_
      refine W.region ?_
      refine WL.move rfl rfl ?_
      refine WL.add (r := ((0 + 16 : Nat) : Int)) rfl rfl (wi64 (by omega) (by omega) (by omega)) rfl ?_
      refine WL.assign rfl rfl ?_
      refine WL.done ?_
      refine W.seq ?_
      refine W.seq ?_
      refine W.region ?_
      refine WL.move rfl rfl ?_
      refine WL.geq rfl rfl rfl (fun c16 => ?_) (fun c16 => ?_)
      · refine WL.done ?_
        refine W.condT rfl ?_
        refine W.seq ?_
        refine W.region ?_
        refine WL.move rfl rfl ?_
        refine WL.shr (r := (((x / 65536) / 256 : Nat) : Int)) rfl rfl (by omega) (shr_nat (a := x / 65536) (s := 8) (by omega) (by omega) 64 (by omega)) rfl ?_
        refine WL.assign rfl rfl ?_
        refine WL.done ?_
        refine W.region ?_
        refine WL.move rfl rfl ?_
        refine WL.add (r := (((0 + 16) + 8 : Nat) : Int)) rfl rfl (wi64 (by omega) (by omega) (by omega)) rfl ?_
        refine WL.assign rfl rfl ?_
        refine WL.done ?_
        refine W.seq ?_
        refine W.region ?_
        refine WL.move rfl rfl ?_
        refine WL.move rfl rfl ?_
        refine WL.conv (r := (((x / 65536) / 256 : Nat) : Int)) Try.underlying72 Try.underlying5 rfl (wu8 (by omega) (by omega) (by omega)) rfl ?_
        have hb8 := bitn_8lt (x := (x / 65536) / 256) (by omega)
        refine WL.indexTab (i := (x / 65536) / 256) bitn Try.underlying9 rfl rfl (by omega) (by omega) (by decide +kernel) rfl ?_
        refine WL.conv (r := ((bitn ((x / 65536) / 256) : Nat) : Int)) Try.underlying5 Try.underlying3 rfl (wi64 (by omega) (by omega) (by omega)) rfl ?_
        refine WL.add (r := ((((0 + 16) + 8) + (bitn ((x / 65536) / 256)) : Nat) : Int)) rfl rfl (wi64 (by omega) (by omega) (by omega)) rfl ?_
        refine WL.assign rfl rfl ?_
        refine WL.done ?_
        refine W.ret ?_
        refine ⟨_, rfl, ?_⟩
        exact ⟨by congr 1; omega, hB⟩
      · refine WL.done ?_
        refine W.condF rfl ?_
        refine W.skip ?_
        refine W.seq ?_
        refine W.region ?_
        refine WL.move rfl rfl ?_
        refine WL.move rfl rfl ?_
        refine WL.conv (r := ((x / 65536 : Nat) : Int)) Try.underlying72 Try.underlying5 rfl (wu8 (by omega) (by omega) (by omega)) rfl ?_
        have hb8 := bitn_8lt (x := x / 65536) (by omega)
        refine WL.indexTab (i := x / 65536) bitn Try.underlying9 rfl rfl (by omega) (by omega) (by decide +kernel) rfl ?_
        refine WL.conv (r := ((bitn (x / 65536) : Nat) : Int)) Try.underlying5 Try.underlying3 rfl (wi64 (by omega) (by omega) (by omega)) rfl ?_
        refine WL.add (r := (((0 + 16) + (bitn (x / 65536)) : Nat) : Int)) rfl rfl (wi64 (by omega) (by omega) (by omega)) rfl ?_
        refine WL.assign rfl rfl ?_
        refine WL.done ?_
        refine W.ret ?_
        refine ⟨_, rfl, ?_⟩
        exact ⟨by congr 1; omega, hB⟩
    · refine WL.done ?_
      refine W.condF rfl ?_
      refine W.skip ?_
      refine W.seq ?_
      refine W.seq ?_
      refine W.region ?_
      refine WL.move rfl rfl ?_
      refine WL.geq rfl rfl rfl (fun c17 => ?_) (fun c17 => ?_)
      · refine WL.done ?_
        refine W.condT rfl ?_
        refine W.seq ?_
        refine W.region ?_
        refine WL.move rfl rfl ?_
        refine WL.shr (r := ((x / 256 : Nat) : Int)) rfl rfl (by omega) (shr_nat (a := x) (s := 8) (by omega) (by omega) 64 (by omega)) rfl ?_
        refine WL.assign rfl rfl ?_
        refine WL.done ?_
        refine W.region ?_
        refine WL.move rfl rfl ?_
        refine WL.add (r := ((0 + 8 : Nat) : Int)) rfl rfl (wi64 (by omega) (by omega) (by omega)) rfl ?_
        refine WL.assign rfl rfl ?_
        refine WL.done ?_
        refine W.seq ?_
        refine W.region ?_
        refine WL.move rfl rfl ?_
        refine WL.move rfl rfl ?_
        refine WL.conv (r := ((x / 256 : Nat) : Int)) Try.underlying72 Try.underlying5 rfl (wu8 (by omega) (by omega) (by omega)) rfl ?_
        have hb8 := bitn_8lt (x := x / 256) (by omega)
        refine WL.indexTab (i := x / 256) bitn Try.underlying9 rfl rfl (by omega) (by omega) (by decide +kernel) rfl ?_
        refine WL.conv (r := ((bitn (x / 256) : Nat) : Int)) Try.underlying5 Try.underlying3 rfl (wi64 (by omega) (by omega) (by omega)) rfl ?_
        refine WL.add (r := (((0 + 8) + (bitn (x / 256)) : Nat) : Int)) rfl rfl (wi64 (by omega) (by omega) (by omega)) rfl ?_
        refine WL.assign rfl rfl ?_
        refine WL.done ?_
        refine W.ret ?_
        refine ⟨_, rfl, ?_⟩
        exact ⟨by congr 1; omega, hB⟩
      · refine WL.done ?_
        refine W.condF rfl ?_
        refine W.skip ?_
        refine W.seq ?_
        refine W.region ?_
        refine WL.move rfl rfl ?_
        refine WL.move rfl rfl ?_
        refine WL.conv (r := X) Try.underlying72 Try.underlying5 rfl (wu8 (by omega) (by omega) (by omega)) rfl ?_
        have hb8 := bitn_8lt (x := x) (by omega)
        refine WL.indexTab (i := x) bitn Try.underlying9 rfl rfl (by omega) (by omega) (by decide +kernel) rfl ?_
        refine WL.conv (r := ((bitn (x) : Nat) : Int)) Try.underlying5 Try.underlying3 rfl (wi64 (by omega) (by omega) (by omega)) rfl ?_
        refine WL.add (r := ((0 + (bitn (x)) : Nat) : Int)) rfl rfl (wi64 (by omega) (by omega) (by omega)) rfl ?_
        refine WL.assign rfl rfl ?_
        refine WL.done ?_
        refine W.ret ?_
        refine ⟨_, rfl, ?_⟩
        exact ⟨by congr 1; omega, hB⟩

theorem Len_c {w : World} (x : Nat) {X : Int} (hX : X = x) (hx : x < 18446744073709551616) :
    Calls Try.prog 101 #[.int .u64 X] w fun e w2 => ∃ v, e = .returned v ∧ (fun v w2 => v = .int .i64 ((bitn x : Nat) : Int) ∧ w.grownBy w2 none) v w2 := by
  have hB := ext_refl w
  refine calls_of_W (vs := [.int .u64 X]) [2] Try.func101 rfl rfl rfl rfl ?_
  refine W.seq ?_
  refine W.region ?_
  refine WL.assign rfl rfl ?_
  refine WL.done ?_
  refine W.seq ?_
  refine W.condF rfl ?_
  refine W.skip ?_
  refine W.seq ?_
  refine W.region ?_
  refine WL.move rfl rfl ?_
  refine WL.call Try.func109 rfl Try.nm109 rfl rfl (Len64_c x (by omega) (by omega)) ?_
  rintro _ w11 ⟨rfl, hGw11⟩
  have hB := ext_trans hB hGw11
  refine WL.assign rfl rfl ?_
  refine WL.done ?_
  refine W.ret ?_
  refine ⟨_, rfl, ?_⟩
  exact ⟨rfl, hB⟩

theorem powerOf_c {w : World} {Ba : Nat} {Aa : Option Addr} {ma ca : Nat} {xa : List Nat} (ha : Rd Ba w 1 Aa ma ca (us xa)) (hLa : Lim xa) (n : Nat) {X : Int} (hX : X = n) (hn0 : 0 < n) (hn : n < 9223372036854775808) (hpa : 0 < nv xa) (hp : nv xa ^ n < 4294967296 ^ c8) (hs : ma ≤ 1099511627776) :
    Calls Try.prog 94 #[.slice Aa ma ca, .int .i64 X] w fun e w2 => ∃ v, e = .returned v ∧ (fun v w2 => ∃ A2 m2 c2, v = .slice A2 m2 c2 ∧ w.grownBy w2 none ∧ Own w.heap.size w2 43 1 A2 m2 c2 (us (digs (nv xa ^ n))) ∧ 0 ≤ m2) v w2 := by
  have ha := ha.norm
  have ha_l := ha.ulen
  have ha_x := ha.max
  simp only [maxLen] at ha_x
  have ha_c := ha.cap
  have ha0 := ha
  have h8 := c8_eq
  have hbn : 0 < bitn n := bitn_lt.2 (by omega)
  have hb64 : bitn n ≤ 63 := bitn_le.2 (by omega)
  have hB := ext_refl w
  refine calls_of_W (vs := [.slice Aa ma ca, .int .i64 X]) [4] Try.func94 rfl rfl rfl rfl ?_
  refine W.seq ?_
  refine W.region ?_
  refine WL.assign rfl rfl ?_
  refine WL.done ?_
  refine W.seq ?_
  refine W.region ?_
  refine WL.move rfl rfl ?_
  refine WL.call Try.func46 rfl Try.nm46 rfl rfl (Trim_c ha (by omega)) ?_
  rintro _ w11 ⟨A12, m13, cp14, rfl, hGw11, hT, hm15⟩
  have hT := hT.low (b' := w.heap.size) hB.size
  have hB := ext_trans hB hGw11
  have ha := ha0.ext hB
  have hT_l := hT.rd.ulen
  refine WL.assign rfl rfl ?_
  refine WL.done ?_
  refine W.seq ?_
  refine W.seq ?_
  refine W.region ?_
  refine WL.move rfl rfl ?_
  refine WL.conv (r := ((n : Nat) : Int)) Try.underlying3 Try.underlying73 rfl (wu64 (by omega) (by omega) (by omega)) rfl ?_
  refine WL.call Try.func101 rfl Try.nm101 rfl rfl (Len_c n (by omega) (by omega)) ?_
  rintro _ w16 ⟨rfl, hGw16⟩
  have hB := ext_trans hB hGw16
  have ha := ha0.ext hB
  have hT := hT.ext hGw16
  refine WL.sub (r := (((bitn n : Nat) : Int) - 2)) rfl rfl (wi64 (by omega) (by omega) (by omega)) rfl ?_
  refine WL.assign rfl rfl ?_
  refine WL.done ?_
  refine W.block ?_
  refine W.loop (σ := Nat × Option Addr × Nat × Nat) (fun s w1 => match s with | (j, Ao, mo, co) => w.grownBy w1 none ∧ j ≤ 63 ∧ Own w.heap.size w1 43 1 Ao mo co (us (digs (nv xa ^ (n / 2 ^ j))))) (fun s => match s with | (j, Ao, mo, co) => [(0, .slice Aa ma ca), (1, .int .i64 X), (5, .slice Ao mo co), (6, .int .i64 (((j : Nat) : Int) - 1))]) (fun s => match s with | (j, Ao, mo, co) => j) (bitn n - 1, A12, m13, cp14) ?_ ?_ ?_
  · exact ⟨hB, by omega, by rw [top_one hn0, Nat.pow_one, ← digs_trim hLa]; exact hT⟩
  · exact ⟨rfl, iv (by omega), rfl, iv (by omega), trivial⟩
  · rintro ⟨j, Ao, mo, co⟩ w17 ⟨hB, hj, ho⟩
    have ha := ha0.ext hB
    have ho_l := ho.rd.ulen
    have hq := pow_len (k := n / 2 ^ j) hpa (Nat.div_le_self _ _) hp
    refine W.seq ?_
    refine W.seq ?_
    refine W.region ?_
    refine WL.move rfl rfl ?_
    refine WL.geq rfl rfl rfl (fun c18 => ?_) (fun c18 => ?_)
    · refine WL.done ?_
      refine W.condT rfl ?_
      refine W.skip ?_
      refine W.seq ?_
      refine W.block ?_
      refine W.seq ?_
      refine W.region ?_
      refine WL.move rfl rfl ?_
      refine WL.move rfl rfl ?_
      have hh := half_pow (n := n) (j := j) (by omega)
      have hun := Nat.div_le_self n (2 ^ (j - 1))
      refine WL.call Try.func47 rfl Try.nm47 rfl rfl (product_c ho.rd ho.rd (digs_lim _) (digs_lim _) (by omega) (by omega)) ?_
      rintro _ w19 ⟨A20, m21, cp22, rfl, hGw19, hO, hm23⟩
      have hO := hO.low (b' := w.heap.size) hB.size
      have hB := ext_trans hB hGw19
      have ha := ha0.ext hB
      have hO_l := hO.rd.ulen
      rw [nv_digs, ← Nat.pow_add] at hO
      have hO_k := hO.rd.ulen
      have hq2 := pow_len (k := n / 2 ^ j + n / 2 ^ j) hpa (by omega) hp
      refine WL.assign rfl rfl ?_
      refine WL.done ?_
      refine W.seq ?_
      refine W.region ?_
      refine WL.move rfl rfl ?_
      refine WL.move rfl rfl ?_
      refine WL.shr (r := ((n / 2 ^ (j - 1) : Nat) : Int)) rfl rfl (by omega) (shr_nat (a := n) (s := j - 1) (by omega) (by omega) 64 (by omega)) rfl ?_
      refine WL.bits (r := ((n / 2 ^ (j - 1) % 2 : Nat) : Int)) rfl rfl (.inl rfl) (and1_i64 rfl (by omega)) rfl ?_
      refine WL.eql rfl rfl rfl (fun c24 => ?_) (fun c24 => ?_)
      · refine WL.done ?_
        refine W.condT rfl ?_
        refine W.region ?_
        refine WL.move rfl rfl ?_
        refine WL.move rfl rfl ?_
        refine WL.call Try.func47 rfl Try.nm47 rfl rfl (product_c hO.rd ha (digs_lim _) hLa (by omega) (by omega)) ?_
        rintro _ w25 ⟨A26, m27, cp28, rfl, hGw25, hO2, hm29⟩
        have hO2 := hO2.low (b' := w.heap.size) hB.size
        have hB := ext_trans hB hGw25
        have hO2_l := hO2.rd.ulen
        rw [nv_digs, ← Nat.pow_succ, Nat.succ_eq_add_one] at hO2
        refine WL.assign rfl rfl ?_
        refine WL.done ?_
        refine W.region ?_
        refine WL.move rfl rfl ?_
        refine WL.sub (r := ((((j : Nat) : Int) - 1) - (1 : Int))) rfl rfl (wi64 (by omega) (by omega) (by omega)) rfl ?_
        refine WL.assign rfl rfl ?_
        refine WL.done ?_
        refine ⟨(j - 1, _, _, _), ⟨rfl, iv (by omega), rfl, iv (by omega), trivial⟩, by (dsimp only; omega), ?_⟩
        exact ⟨hB, by omega, by rw [show n / 2 ^ (j - 1) = n / 2 ^ j + n / 2 ^ j + 1 by omega]; exact hO2⟩
      · refine WL.done ?_
        refine W.condF rfl ?_
        refine W.skip ?_
        refine W.region ?_
        refine WL.move rfl rfl ?_
        refine WL.sub (r := ((((j : Nat) : Int) - 1) - (1 : Int))) rfl rfl (wi64 (by omega) (by omega) (by omega)) rfl ?_
        refine WL.assign rfl rfl ?_
        refine WL.done ?_
        refine ⟨(j - 1, _, _, _), ⟨rfl, iv (by omega), rfl, iv (by omega), trivial⟩, by (dsimp only; omega), ?_⟩
        exact ⟨hB, by omega, by rw [show n / 2 ^ (j - 1) = n / 2 ^ j + n / 2 ^ j by omega]; exact hO⟩
    · refine WL.done ?_
      refine W.condF rfl ?_
      refine W.exit ?_
      refine W.seq ?_
      refine W.region ?_
      refine WL.move rfl rfl ?_
      refine WL.assign rfl rfl ?_
      refine WL.done ?_
      refine W.ret ?_
      refine ⟨_, rfl, ?_⟩
      have hj0 : j = 0 := by omega
      subst hj0
      rw [Nat.pow_zero, Nat.div_one] at ho
      exact ⟨_, _, _, rfl, hB, ho, Nat.zero_le _⟩

theorem Pow_ok {w : World} {Ba : Nat} {Aa : Option Addr} {ma ca : Nat} {xa : List Nat} (ha : Rd Ba w 1 Aa ma ca (us xa)) (hLa : Lim xa) (n : Nat) {X : Int} (hX : X = n) (hn : n < 9223372036854775808) (hs : ma ≤ 1048576) (hbig : nv xa ^ n < bigN) :
    Calls Try.prog 73 #[.slice Aa ma ca, .int .i64 X] w fun e w2 => ∃ v, e = .returned v ∧ (fun v w2 => ∃ A2 m2 c2, v = .tuple #[.slice A2 m2 c2, .int .i64 0] ∧ w.grownBy w2 none ∧ Own w.heap.size w2 43 1 A2 m2 c2 (us (digs (nv xa ^ n))) ∧ m2 ≤ 4096) v w2 := by
  have ha := ha.norm
  have ha_l := ha.ulen
  have ha_x := ha.max
  simp only [maxLen] at ha_x
  have ha_c := ha.cap
  have ha0 := ha
  have hgt := bigN_gt
  have hbt : bitn (nv (trimL xa)) = bitn (nv xa) := by rw [nv_trimL]
  have htl := trimL_len xa
  have hbx := bitn_len hLa
  have hsx := sigL_le xa
  have hB := ext_refl w
  refine calls_of_W (vs := [.slice Aa ma ca, .int .i64 X]) [4, 5] Try.func73 rfl rfl rfl rfl ?_
  refine W.seq ?_
  refine W.region ?_
  refine WL.assign rfl rfl ?_
  refine WL.assign rfl rfl ?_
  refine WL.done ?_
  refine W.seq ?_
  refine W.seq ?_
  refine W.region ?_
  refine WL.move rfl rfl ?_
  refine WL.lss rfl rfl rfl (fun c11 => ?_) (fun c11 => ?_)
  · exfalso
    omega
  · refine WL.done ?_
    refine W.condF rfl ?_
    refine W.skip ?_
    refine W.seq ?_
    refine W.seq ?_
    refine W.region ?_
    refine WL.move rfl rfl ?_
    refine WL.eql rfl rfl rfl (fun c12 => ?_) (fun c12 => ?_)
    · refine WL.done ?_
      refine W.condT rfl ?_
      refine W.seq ?_
      refine W.region ?_
      refine WL.lit1 (b := w.heap.size) Try.underlying23 Try.el43 rfl rfl rfl rfl (by intro v hv; simp only [List.mem_cons, List.not_mem_nil, or_false] at hv; rcases hv with rfl <;> rfl) (Nat.le_refl _) rfl ?_
      rintro A13 w14 - hO15 hGw14
      have hO15 := hO15.low (b' := w.heap.size) hB.size
      have hB := ext_trans hB hGw14
      change Own _ _ _ _ _ _ _ (us [1]) at hO15
      refine WL.assign rfl rfl ?_
      refine WL.assign rfl rfl ?_
      refine WL.done ?_
      refine W.ret ?_
      refine ⟨_, rfl, ?_⟩
      have hn0 : n = 0 := by omega
      subst hn0
      have hO9 := hO15
      rw [← (show digs (nv xa ^ 0) = [1] from digs_lit (Nat.pow_zero _) (by decide) (by decide))] at hO9
      have hO_z := hO9.rd.ulen
      have := digs_big.2 hbig
      exact ⟨_, _, _, rfl, hB, hO9, by omega⟩
    · refine WL.done ?_
      refine W.condF rfl ?_
      refine W.skip ?_
      refine W.seq ?_
      refine W.region ?_
      refine WL.move rfl rfl ?_
      refine WL.call Try.func81 rfl Try.nm81 rfl rfl (Bits_c ha hLa (by omega)) ?_
      rintro _ w16 ⟨rfl, hGw16⟩
      have hB := ext_trans hB hGw16
      have ha := ha0.ext hB
      refine WL.assign rfl rfl ?_
      refine WL.done ?_
      refine W.seq ?_
      refine W.seq ?_
      refine W.region ?_
      refine WL.move rfl rfl ?_
      refine WL.leq rfl rfl rfl (fun c17 => ?_) (fun c17 => ?_)
      · refine WL.done ?_
        refine W.condT rfl ?_
        refine W.seq ?_
        refine W.region ?_
        refine WL.move rfl rfl ?_
        refine WL.call Try.func46 rfl Try.nm46 rfl rfl (Trim_c ha (by omega)) ?_
        rintro _ w18 ⟨A19, m20, cp21, rfl, hGw18, hO22, hm23⟩
        have hO22 := hO22.low (b' := w.heap.size) hB.size
        have hB := ext_trans hB hGw18
        have hO22_l := hO22.rd.ulen
        refine WL.assign rfl rfl ?_
        refine WL.assign rfl rfl ?_
        refine WL.done ?_
        refine W.ret ?_
        refine ⟨_, rfl, ?_⟩
        have h1 := bitn_one (a := nv xa) (by omega)
        have hO9 := hO22
        rw [digs_trim hLa, ← pow_le_one h1 (by omega : 0 < n)] at hO9
        have hO_z := hO9.rd.ulen
        have := digs_big.2 hbig
        exact ⟨_, _, _, rfl, hB, hO9, by omega⟩
      · refine WL.done ?_
        refine W.condF rfl ?_
        refine W.skip ?_
        refine W.seq ?_
        refine W.seq ?_
        refine W.region ?_
        refine WL.move rfl rfl ?_
        refine WL.move rfl rfl ?_
        have hpos : 0 < nv xa := by have := bitn_lt.1 (show 0 < bitn (nv xa) by omega); omega
        refine WL.sub (r := (((bitn (nv xa)) - 1 : Nat) : Int)) rfl rfl (wi64 (by omega) (by omega) (by omega)) rfl ?_
        refine WL.quo (r := ((131071 / ((bitn (nv xa)) - 1) : Nat) : Int)) rfl rfl (by omega) (qi64 (by omega) (by omega) (by omega)) rfl ?_
        refine WL.gtr rfl rfl rfl (fun c24 => ?_) (fun c24 => ?_)
        · exfalso
          have := pow_big (a := nv xa) (n := n) (by omega) (by omega)
          omega
        · refine WL.done ?_
          refine W.condF rfl ?_
          refine W.skip ?_
          refine W.seq ?_
          refine W.region ?_
          refine WL.move rfl rfl ?_
          refine WL.call Try.func44 rfl Try.nm44 rfl rfl (sig_c ha) ?_
          rintro _ w25 ⟨rfl, hGw25⟩
          have hB := ext_trans hB hGw25
          have ha := ha0.ext hB
          refine WL.move rfl rfl ?_
          refine WL.call Try.func94 rfl Try.nm94 rfl rfl (powerOf_c (Rd.sig ha) (Lim.trim hLa) n (by omega) (by omega) hn (by rw [nv_trimL]; omega) (by rw [nv_trimL]; exact pow_small (by omega) (by omega)) (by omega)) ?_
          rintro _ w26 ⟨A27, m28, cp29, rfl, hGw26, hO, hm30⟩
          have hO := hO.low (b' := w.heap.size) hB.size
          have hB := ext_trans hB hGw26
          have hO_l := hO.rd.ulen
          rw [nv_trimL] at hO
          have hO_k := hO.rd.ulen
          refine WL.assign rfl rfl ?_
          refine WL.done ?_
          refine W.seq ?_
          refine W.seq ?_
          refine W.region ?_
          refine WL.move rfl rfl ?_
          refine WL.len Try.underlying23 rfl rfl ?_
          refine WL.gtr rfl rfl rfl (fun c31 => ?_) (fun c31 => ?_)
          · exfalso
            have := digs_big.2 hbig
            omega
          · refine WL.done ?_
            refine W.condF rfl ?_
            refine W.skip ?_
            refine W.seq ?_
            refine W.region ?_
            refine WL.move rfl rfl ?_
            refine WL.assign rfl rfl ?_
            refine WL.assign rfl rfl ?_
            refine WL.done ?_
            refine W.ret ?_
            refine ⟨_, rfl, ?_⟩
            have hO_z := hO.rd.ulen
            have := digs_big.2 hbig
            exact ⟨_, _, _, rfl, hB, hO, by omega⟩

theorem Pow_err {w : World} {Ba : Nat} {Aa : Option Addr} {ma ca : Nat} {xa : List Nat} (ha : Rd Ba w 1 Aa ma ca (us xa)) (hLa : Lim xa) (n : Nat) {X : Int} (hX : X = n) (hn : n < 9223372036854775808) (hs : ma ≤ 1048576) (hbig : bigN ≤ nv xa ^ n) :
    Calls Try.prog 73 #[.slice Aa ma ca, .int .i64 X] w fun e w2 => ∃ v, e = .returned v ∧ (fun v w2 => v = .tuple #[.slice none 0 0, .int .i64 8] ∧ w.grownBy w2 none) v w2 := by
  have ha := ha.norm
  have ha_l := ha.ulen
  have ha_x := ha.max
  simp only [maxLen] at ha_x
  have ha_c := ha.cap
  have ha0 := ha
  have hgt := bigN_gt
  have hbt : bitn (nv (trimL xa)) = bitn (nv xa) := by rw [nv_trimL]
  have htl := trimL_len xa
  have hbx := bitn_len hLa
  have hsx := sigL_le xa
  have hB := ext_refl w
  refine calls_of_W (vs := [.slice Aa ma ca, .int .i64 X]) [4, 5] Try.func73 rfl rfl rfl rfl ?_
  refine W.seq ?_
  refine W.region ?_
  refine WL.assign rfl rfl ?_
  refine WL.assign rfl rfl ?_
  refine WL.done ?_
  refine W.seq ?_
  refine W.seq ?_
  refine W.region ?_
  refine WL.move rfl rfl ?_
  refine WL.lss rfl rfl rfl (fun c11 => ?_) (fun c11 => ?_)
  · exfalso
    omega
  · refine WL.done ?_
    refine W.condF rfl ?_
    refine W.skip ?_
    refine W.seq ?_
    refine W.seq ?_
    refine W.region ?_
    refine WL.move rfl rfl ?_
    refine WL.eql rfl rfl rfl (fun c12 => ?_) (fun c12 => ?_)
    · exfalso
      have hn0 : n = 0 := by omega
      subst hn0
      rw [Nat.pow_zero] at hbig
      omega
    · refine WL.done ?_
      refine W.condF rfl ?_
      refine W.skip ?_
      refine W.seq ?_
      refine W.region ?_
      refine WL.move rfl rfl ?_
      refine WL.call Try.func81 rfl Try.nm81 rfl rfl (Bits_c ha hLa (by omega)) ?_
      rintro _ w13 ⟨rfl, hGw13⟩
      have hB := ext_trans hB hGw13
      have ha := ha0.ext hB
      refine WL.assign rfl rfl ?_
      refine WL.done ?_
      refine W.seq ?_
      refine W.seq ?_
      refine W.region ?_
      refine WL.move rfl rfl ?_
      refine WL.leq rfl rfl rfl (fun c14 => ?_) (fun c14 => ?_)
      · exfalso
        have h1 := bitn_one (a := nv xa) (by omega)
        have h2 := pow_le_one h1 (by omega : 0 < n)
        rw [h2] at hbig
        omega
      · refine WL.done ?_
        refine W.condF rfl ?_
        refine W.skip ?_
        refine W.seq ?_
        refine W.seq ?_
        refine W.region ?_
        refine WL.move rfl rfl ?_
        refine WL.move rfl rfl ?_
        have hpos : 0 < nv xa := by have := bitn_lt.1 (show 0 < bitn (nv xa) by omega); omega
        refine WL.sub (r := (((bitn (nv xa)) - 1 : Nat) : Int)) rfl rfl (wi64 (by omega) (by omega) (by omega)) rfl ?_
        refine WL.quo (r := ((131071 / ((bitn (nv xa)) - 1) : Nat) : Int)) rfl rfl (by omega) (qi64 (by omega) (by omega) (by omega)) rfl ?_
        refine WL.gtr rfl rfl rfl (fun c15 => ?_) (fun c15 => ?_)
        · refine WL.done ?_
          refine W.condT rfl ?_
          refine W.seq ?_
          refine W.region ?_
          refine WL.assign rfl rfl ?_
          refine WL.assign rfl rfl ?_
          refine WL.done ?_
          refine W.ret ?_
          refine ⟨_, rfl, ?_⟩
          exact ⟨rfl, hB⟩
        · refine WL.done ?_
          refine W.condF rfl ?_
          refine W.skip ?_
          refine W.seq ?_
          refine W.region ?_
          refine WL.move rfl rfl ?_
          refine WL.call Try.func44 rfl Try.nm44 rfl rfl (sig_c ha) ?_
          rintro _ w16 ⟨rfl, hGw16⟩
          have hB := ext_trans hB hGw16
          have ha := ha0.ext hB
          refine WL.move rfl rfl ?_
          refine WL.call Try.func94 rfl Try.nm94 rfl rfl (powerOf_c (Rd.sig ha) (Lim.trim hLa) n (by omega) (by omega) hn (by rw [nv_trimL]; omega) (by rw [nv_trimL]; exact pow_small (by omega) (by omega)) (by omega)) ?_
          rintro _ w17 ⟨A18, m19, cp20, rfl, hGw17, hO, hm21⟩
          have hO := hO.low (b' := w.heap.size) hB.size
          have hB := ext_trans hB hGw17
          have hO_l := hO.rd.ulen
          rw [nv_trimL] at hO
          have hO_k := hO.rd.ulen
          refine WL.assign rfl rfl ?_
          refine WL.done ?_
          refine W.seq ?_
          refine W.seq ?_
          refine W.region ?_
          refine WL.move rfl rfl ?_
          refine WL.len Try.underlying23 rfl rfl ?_
          refine WL.gtr rfl rfl rfl (fun c22 => ?_) (fun c22 => ?_)
          · refine WL.done ?_
            refine W.condT rfl ?_
            refine W.seq ?_
            refine W.region ?_
            refine WL.assign rfl rfl ?_
            refine WL.assign rfl rfl ?_
            refine WL.done ?_
            refine W.ret ?_
            refine ⟨_, rfl, ?_⟩
            exact ⟨rfl, hB⟩
          · exfalso
            have := digs_big.1 (by omega : (digs (nv xa ^ n)).length ≤ 4096)
            omega

theorem rPow_ok {w : World} {Ba : Nat} {Aa : Option Addr} {ma ca : Nat} {xa : List Nat} (ha : Rd Ba w 1 Aa ma ca (us xa)) (hLa : Lim xa) (n : Nat) {X : Int} (hX : X = n) (hn : n < 9223372036854775808) (hs : ma ≤ 1048576) (hbig : nv xa ^ n < bigN) :
    Calls Try.prog 76 #[.slice Aa ma ca, .int .i64 X] w fun e w2 => ∃ v, e = .returned v ∧ (fun v w2 => ∃ A2 m2 c2, v = .tuple #[.slice A2 m2 c2, .int .i64 0] ∧ w.grownBy w2 none ∧ Own w.heap.size w2 43 1 A2 m2 c2 (us (digs (nv xa ^ n))) ∧ m2 ≤ 4096) v w2 := by
  have ha := ha.norm
  have ha_l := ha.ulen
  have ha_x := ha.max
  simp only [maxLen] at ha_x
  have ha_c := ha.cap
  have ha0 := ha
  have hgt := bigN_gt
  have hbt : bitn (nv (trimL xa)) = bitn (nv xa) := by rw [nv_trimL]
  have htl := trimL_len xa
  have hbx := bitn_len hLa
  have hsx := sigL_le xa
  have hB := ext_refl w
  refine calls_of_W (vs := [.slice Aa ma ca, .int .i64 X]) [4, 5] Try.func76 rfl rfl rfl rfl ?_
  refine W.seq ?_
  refine W.region ?_
  refine WL.assign rfl rfl ?_
  refine WL.assign rfl rfl ?_
  refine WL.done ?_
  refine W.seq ?_
  refine W.seq ?_
  refine W.region ?_
  refine WL.move rfl rfl ?_
  refine WL.lss rfl rfl rfl (fun c11 => ?_) (fun c11 => ?_)
  · exfalso
    omega
  · refine WL.done ?_
    refine W.condF rfl ?_
    refine W.skip ?_
    refine W.seq ?_
    refine W.region ?_
    refine WL.move rfl rfl ?_
    refine WL.call Try.func88 rfl Try.nm88 rfl rfl (rTrim_c ha (by omega)) ?_
    rintro _ w12 ⟨A13, m14, cp15, rfl, hGw12, hT, hm16⟩
    have hT := hT.low (b' := w.heap.size) hB.size
    have hB := ext_trans hB hGw12
    have hT_l := hT.rd.ulen
    refine WL.assign rfl rfl ?_
    refine WL.done ?_
    refine W.seq ?_
    refine W.seq ?_
    refine W.region ?_
    refine WL.move rfl rfl ?_
    refine WL.eql rfl rfl rfl (fun c17 => ?_) (fun c17 => ?_)
    · refine WL.done ?_
      refine W.condT rfl ?_
      refine W.seq ?_
      refine W.region ?_
      refine WL.lit1 (b := w12.heap.size) Try.underlying23 Try.el43 rfl rfl rfl rfl (by intro v hv; simp only [List.mem_cons, List.not_mem_nil, or_false] at hv; rcases hv with rfl <;> rfl) (Nat.le_refl _) rfl ?_
      rintro A18 w19 - hO20 hGw19
      have hO20 := hO20.low (b' := w.heap.size) hB.size
      have hB := ext_trans hB hGw19
      change Own _ _ _ _ _ _ _ (us [1]) at hO20
      refine WL.assign rfl rfl ?_
      refine WL.assign rfl rfl ?_
      refine WL.done ?_
      refine W.ret ?_
      refine ⟨_, rfl, ?_⟩
      have hn0 : n = 0 := by omega
      subst hn0
      have hO9 := hO20
      rw [← (show digs (nv xa ^ 0) = [1] from digs_lit (Nat.pow_zero _) (by decide) (by decide))] at hO9
      have hO_z := hO9.rd.ulen
      have := digs_big.2 hbig
      exact ⟨_, _, _, rfl, hB, hO9, by omega⟩
    · refine WL.done ?_
      refine W.condF rfl ?_
      refine W.skip ?_
      refine W.seq ?_
      refine W.seq ?_
      refine W.region ?_
      refine WL.move rfl rfl ?_
      refine WL.call Try.func89 rfl Try.nm89 rfl rfl (rBits_c hT.rd (Lim.trim hLa) (by omega)) ?_
      rintro _ w21 ⟨rfl, hGw21⟩
      have hB := ext_trans hB hGw21
      have hT := hT.ext hGw21
      refine WL.leq rfl rfl rfl (fun c22 => ?_) (fun c22 => ?_)
      · refine WL.done ?_
        refine W.condT rfl ?_
        refine W.seq ?_
        refine W.region ?_
        refine WL.move rfl rfl ?_
        refine WL.assign rfl rfl ?_
        refine WL.assign rfl rfl ?_
        refine WL.done ?_
        refine W.ret ?_
        refine ⟨_, rfl, ?_⟩
        have h1 := bitn_one (a := nv xa) (by omega)
        have hO9 := hT
        rw [digs_trim hLa, ← pow_le_one h1 (by omega : 0 < n)] at hO9
        have hO_z := hO9.rd.ulen
        have := digs_big.2 hbig
        exact ⟨_, _, _, rfl, hB, hO9, by omega⟩
      · refine WL.done ?_
        refine W.condF rfl ?_
        refine W.skip ?_
        refine W.seq ?_
        refine W.seq ?_
        refine W.region ?_
        refine WL.move rfl rfl ?_
        have h2a : 2 ≤ nv xa := by have := bitn_lt.1 (show 1 < bitn (nv xa) by omega); omega
        refine WL.gtr rfl rfl rfl (fun c23 => ?_) (fun c23 => ?_)
        · exfalso
          have := pow_big2 (a := nv xa) (n := n) h2a (by omega)
          omega
        · refine WL.done ?_
          refine W.condF rfl ?_
          refine W.skip ?_
          refine W.seq ?_
          refine W.region ?_
          refine WL.lit1 (b := w21.heap.size) Try.underlying23 Try.el43 rfl rfl rfl rfl (by intro v hv; simp only [List.mem_cons, List.not_mem_nil, or_false] at hv; rcases hv with rfl <;> rfl) (Nat.le_refl _) rfl ?_
          rintro A24 w25 - hO26 hGw25
          have hO26 := hO26.low (b' := w.heap.size) hB.size
          have hB := ext_trans hB hGw25
          have hT := hT.ext hGw25
          change Own _ _ _ _ _ _ _ (us [1]) at hO26
          refine WL.assign rfl rfl ?_
          refine WL.done ?_
          refine W.seq ?_
          refine W.seq ?_
          refine W.region ?_
          refine WL.assign rfl rfl ?_
          refine WL.done ?_
          refine W.block ?_
          refine W.loop (σ := Nat × Option Addr × Nat × Nat × Option Addr × Nat × Nat) (fun s w1 => match s with | (k, Ao, mo, co, At, mt, ct) => w.grownBy w1 none ∧ k ≤ 19 ∧ mo ≤ 4096 ∧ Own w.heap.size w1 43 1 Ao mo co (us (digs (nv xa ^ (n / 2 ^ k)))) ∧ Own w.heap.size w1 43 1 At mt ct (us (trimL xa))) (fun s => match s with | (k, Ao, mo, co, At, mt, ct) => [(0, .slice At mt ct), (1, .int .i64 X), (6, .slice Ao mo co), (7, .int .i64 ((2 ^ k / 2 : Nat) : Int))]) (fun s => match s with | (k, Ao, mo, co, At, mt, ct) => k) (19, A24, 1, 1, A13, m14, cp15) ?_ ?_ ?_
          · exact ⟨hB, by omega, by omega, by rw [show n / 2 ^ 19 = 0 by omega, Nat.pow_zero, digs_lit rfl (by decide) (by decide)]; exact hO26, hT⟩
          · exact ⟨rfl, iv (by omega), rfl, iv (by omega), trivial⟩
          · rintro ⟨k, Ao, mo, co, At, mt, ct⟩ w27 ⟨hB, hk, hmo, ho, ht⟩
            have ho_l := ho.rd.ulen
            have ht_l := ht.rd.ulen
            have hp0 := Nat.pow_pos (n := k) (show 0 < 2 by decide)
            have hpk : 2 ^ k ≤ 524288 := Nat.le_trans (Nat.pow_le_pow_right (by decide) hk) (by decide)
            refine W.seq ?_
            refine W.seq ?_
            refine W.region ?_
            refine WL.move rfl rfl ?_
            refine WL.gtr rfl rfl rfl (fun c28 => ?_) (fun c28 => ?_)
            · refine WL.done ?_
              refine W.condT rfl ?_
              refine W.skip ?_
              refine W.seq ?_
              refine W.block ?_
              refine W.seq ?_
              refine W.region ?_
              refine WL.move rfl rfl ?_
              refine WL.move rfl rfl ?_
              have hk0 := pw_zero (k := k) (by omega)
              have hkd := pw_half hk0
              have hh := half_pow (n := n) hk0
              have hU : n / (2 ^ k / 2) = n / 2 ^ (k - 1) := by rw [hkd]
              have hun := Nat.div_le_self n (2 ^ (k - 1))
              have hsq := sq_len (a := nv xa) (q := n / 2 ^ k) (by omega)
              refine WL.call Try.func68 rfl Try.nm68 rfl rfl (rMul_c ho.rd ho.rd (digs_lim _) (digs_lim _) (by omega) (by omega)) ?_
              rintro _ w29 ⟨A30, m31, cp32, rfl, hGw29, hO, hm33⟩
              have hO := hO.low (b' := w.heap.size) hB.size
              have hB := ext_trans hB hGw29
              have ht := ht.ext hGw29
              have hO_l := hO.rd.ulen
              rw [nv_digs, ← Nat.pow_add] at hO
              have hO_k := hO.rd.ulen
              have hl4 : (digs (nv xa ^ (n / 2 ^ k + n / 2 ^ k))).length ≤ 4096 := digs_big.2 (Nat.lt_of_le_of_lt (Nat.pow_le_pow_right (by omega) (by omega)) hbig)
              refine WL.assign rfl rfl ?_
              refine WL.done ?_
              refine W.seq ?_
              refine W.seq ?_
              refine W.region ?_
              refine WL.move rfl rfl ?_
              refine WL.move rfl rfl ?_
              refine WL.quo (r := ((n / (2 ^ k / 2) : Nat) : Int)) rfl rfl (by omega) (qi64 (by omega) (by omega) (by omega)) rfl ?_
              refine WL.rem (r := (((n / (2 ^ k / 2)) % 2 : Nat) : Int)) rfl rfl (by omega) (tmod_nat (by omega) (by omega)) rfl ?_
              refine WL.eql rfl rfl rfl (fun c34 => ?_) (fun c34 => ?_)
              · refine WL.done ?_
                refine W.condT rfl ?_
                refine W.region ?_
                refine WL.move rfl rfl ?_
                refine WL.move rfl rfl ?_
                refine WL.call Try.func68 rfl Try.nm68 rfl rfl (rMul_c hO.rd ht.rd (digs_lim _) (Lim.trim hLa) (by omega) (by omega)) ?_
                rintro _ w35 ⟨A36, m37, cp38, rfl, hGw35, hO2, hm39⟩
                have hO2 := hO2.low (b' := w.heap.size) hB.size
                have hB := ext_trans hB hGw35
                have ht := ht.ext hGw35
                have hO2_l := hO2.rd.ulen
                rw [nv_digs, nv_trimL, ← Nat.pow_succ, Nat.succ_eq_add_one] at hO2
                have hO2_k := hO2.rd.ulen
                have hl4 : (digs (nv xa ^ (n / 2 ^ k + n / 2 ^ k + 1))).length ≤ 4096 := digs_big.2 (Nat.lt_of_le_of_lt (Nat.pow_le_pow_right (by omega) (by omega)) hbig)
                refine WL.assign rfl rfl ?_
                refine WL.done ?_
                refine W.seq ?_
                refine W.region ?_
                refine WL.move rfl rfl ?_
                refine WL.len Try.underlying23 rfl rfl ?_
                refine WL.gtr rfl rfl rfl (fun c40 => ?_) (fun c40 => ?_)
                · exfalso
                  omega
                · refine WL.done ?_
                  refine W.condF rfl ?_
                  refine W.skip ?_
                  refine W.region ?_
                  refine WL.move rfl rfl ?_
                  refine WL.quo (r := (((2 ^ k / 2) / 2 : Nat) : Int)) rfl rfl (by omega) (qi64 (by omega) (by omega) (by omega)) rfl ?_
                  refine WL.assign rfl rfl ?_
                  refine WL.done ?_
                  refine ⟨(k - 1, _, _, _, _, _, _), ⟨rfl, iv (by omega), rfl, iv (by omega), trivial⟩, by (dsimp only; omega), ?_⟩
                  exact ⟨hB, by omega, by omega, by rw [show n / 2 ^ (k - 1) = n / 2 ^ k + n / 2 ^ k + 1 by omega]; exact hO2, ht⟩
              · refine WL.done ?_
                refine W.condF rfl ?_
                refine W.skip ?_
                refine W.seq ?_
                refine W.region ?_
                refine WL.move rfl rfl ?_
                refine WL.len Try.underlying23 rfl rfl ?_
                refine WL.gtr rfl rfl rfl (fun c41 => ?_) (fun c41 => ?_)
                · exfalso
                  omega
                · refine WL.done ?_
                  refine W.condF rfl ?_
                  refine W.skip ?_
                  refine W.region ?_
                  refine WL.move rfl rfl ?_
                  refine WL.quo (r := (((2 ^ k / 2) / 2 : Nat) : Int)) rfl rfl (by omega) (qi64 (by omega) (by omega) (by omega)) rfl ?_
                  refine WL.assign rfl rfl ?_
                  refine WL.done ?_
                  refine ⟨(k - 1, _, _, _, _, _, _), ⟨rfl, iv (by omega), rfl, iv (by omega), trivial⟩, by (dsimp only; omega), ?_⟩
                  exact ⟨hB, by omega, by omega, by rw [show n / 2 ^ (k - 1) = n / 2 ^ k + n / 2 ^ k by omega]; exact hO, ht⟩
            · refine WL.done ?_
              refine W.condF rfl ?_
              refine W.exit ?_
              refine W.seq ?_
              refine W.region ?_
              refine WL.move rfl rfl ?_
              refine WL.assign rfl rfl ?_
              refine WL.assign rfl rfl ?_
              refine WL.done ?_
              refine W.ret ?_
              refine ⟨_, rfl, ?_⟩
              have hk := pw_none (k := k) (by omega)
              subst hk
              rw [Nat.pow_zero, Nat.div_one] at ho
              have hO_z := ho.rd.ulen
              have := digs_big.2 hbig
              exact ⟨_, _, _, rfl, hB, ho, by omega⟩

theorem rPow_err {w : World} {Ba : Nat} {Aa : Option Addr} {ma ca : Nat} {xa : List Nat} (ha : Rd Ba w 1 Aa ma ca (us xa)) (hLa : Lim xa) (n : Nat) {X : Int} (hX : X = n) (hn : n < 9223372036854775808) (hs : ma ≤ 1048576) (hbig : bigN ≤ nv xa ^ n) :
    Calls Try.prog 76 #[.slice Aa ma ca, .int .i64 X] w fun e w2 => ∃ v, e = .returned v ∧ (fun v w2 => v = .tuple #[.slice none 0 0, .int .i64 8] ∧ w.grownBy w2 none) v w2 := by
  have ha := ha.norm
  have ha_l := ha.ulen
  have ha_x := ha.max
  simp only [maxLen] at ha_x
  have ha_c := ha.cap
  have ha0 := ha
  have hgt := bigN_gt
  have hbt : bitn (nv (trimL xa)) = bitn (nv xa) := by rw [nv_trimL]
  have htl := trimL_len xa
  have hbx := bitn_len hLa
  have hsx := sigL_le xa
  have hB := ext_refl w
  refine calls_of_W (vs := [.slice Aa ma ca, .int .i64 X]) [4, 5] Try.func76 rfl rfl rfl rfl ?_
  refine W.seq ?_
  refine W.region ?_
  refine WL.assign rfl rfl ?_
  refine WL.assign rfl rfl ?_
  refine WL.done ?_
  refine W.seq ?_
  refine W.seq ?_
  refine W.region ?_
  refine WL.move rfl rfl ?_
  refine WL.lss rfl rfl rfl (fun c11 => ?_) (fun c11 => ?_)
  · exfalso
    omega
  · refine WL.done ?_
    refine W.condF rfl ?_
    refine W.skip ?_
    refine W.seq ?_
    refine W.region ?_
    refine WL.move rfl rfl ?_
    refine WL.call Try.func88 rfl Try.nm88 rfl rfl (rTrim_c ha (by omega)) ?_
    rintro _ w12 ⟨A13, m14, cp15, rfl, hGw12, hT, hm16⟩
    have hT := hT.low (b' := w.heap.size) hB.size
    have hB := ext_trans hB hGw12
    have hT_l := hT.rd.ulen
    refine WL.assign rfl rfl ?_
    refine WL.done ?_
    refine W.seq ?_
    refine W.seq ?_
    refine W.region ?_
    refine WL.move rfl rfl ?_
    refine WL.eql rfl rfl rfl (fun c17 => ?_) (fun c17 => ?_)
    · exfalso
      have hn0 : n = 0 := by omega
      subst hn0
      rw [Nat.pow_zero] at hbig
      omega
    · refine WL.done ?_
      refine W.condF rfl ?_
      refine W.skip ?_
      refine W.seq ?_
      refine W.seq ?_
      refine W.region ?_
      refine WL.move rfl rfl ?_
      refine WL.call Try.func89 rfl Try.nm89 rfl rfl (rBits_c hT.rd (Lim.trim hLa) (by omega)) ?_
      rintro _ w18 ⟨rfl, hGw18⟩
      have hB := ext_trans hB hGw18
      have hT := hT.ext hGw18
      refine WL.leq rfl rfl rfl (fun c19 => ?_) (fun c19 => ?_)
      · exfalso
        have h1 := bitn_one (a := nv xa) (by omega)
        have h2 := pow_le_one h1 (by omega : 0 < n)
        rw [h2] at hbig
        omega
      · refine WL.done ?_
        refine W.condF rfl ?_
        refine W.skip ?_
        refine W.seq ?_
        refine W.seq ?_
        refine W.region ?_
        refine WL.move rfl rfl ?_
        have h2a : 2 ≤ nv xa := by have := bitn_lt.1 (show 1 < bitn (nv xa) by omega); omega
        refine WL.gtr rfl rfl rfl (fun c20 => ?_) (fun c20 => ?_)
        · refine WL.done ?_
          refine W.condT rfl ?_
          refine W.seq ?_
          refine W.region ?_
          refine WL.assign rfl rfl ?_
          refine WL.assign rfl rfl ?_
          refine WL.done ?_
          refine W.ret ?_
          refine ⟨_, rfl, ?_⟩
          first
          | exact ⟨rfl, hB⟩
          | (exfalso; have hk := pw_none (k := k) (by omega); subst hk; rw [Nat.pow_zero, Nat.div_one] at ho_l; have := digs_big.1 (by omega : (digs (nv xa ^ n)).length ≤ 4096); omega)
        · refine WL.done ?_
          refine W.condF rfl ?_
          refine W.skip ?_
          refine W.seq ?_
          refine W.region ?_
          refine WL.lit1 (b := w18.heap.size) Try.underlying23 Try.el43 rfl rfl rfl rfl (by intro v hv; simp only [List.mem_cons, List.not_mem_nil, or_false] at hv; rcases hv with rfl <;> rfl) (Nat.le_refl _) rfl ?_
          rintro A21 w22 - hO23 hGw22
          have hO23 := hO23.low (b' := w.heap.size) hB.size
          have hB := ext_trans hB hGw22
          have hT := hT.ext hGw22
          change Own _ _ _ _ _ _ _ (us [1]) at hO23
          refine WL.assign rfl rfl ?_
          refine WL.done ?_
          refine W.seq ?_
          refine W.seq ?_
          refine W.region ?_
          refine WL.assign rfl rfl ?_
          refine WL.done ?_
          refine W.block ?_
          refine W.loop (σ := Nat × Option Addr × Nat × Nat × Option Addr × Nat × Nat) (fun s w1 => match s with | (k, Ao, mo, co, At, mt, ct) => w.grownBy w1 none ∧ k ≤ 19 ∧ mo ≤ 4096 ∧ Own w.heap.size w1 43 1 Ao mo co (us (digs (nv xa ^ (n / 2 ^ k)))) ∧ Own w.heap.size w1 43 1 At mt ct (us (trimL xa))) (fun s => match s with | (k, Ao, mo, co, At, mt, ct) => [(0, .slice At mt ct), (1, .int .i64 X), (6, .slice Ao mo co), (7, .int .i64 ((2 ^ k / 2 : Nat) : Int))]) (fun s => match s with | (k, Ao, mo, co, At, mt, ct) => k) (19, A21, 1, 1, A13, m14, cp15) ?_ ?_ ?_
          · exact ⟨hB, by omega, by omega, by rw [show n / 2 ^ 19 = 0 by omega, Nat.pow_zero, digs_lit rfl (by decide) (by decide)]; exact hO23, hT⟩
          · exact ⟨rfl, iv (by omega), rfl, iv (by omega), trivial⟩
          · rintro ⟨k, Ao, mo, co, At, mt, ct⟩ w24 ⟨hB, hk, hmo, ho, ht⟩
            have ho_l := ho.rd.ulen
            have ht_l := ht.rd.ulen
            have hp0 := Nat.pow_pos (n := k) (show 0 < 2 by decide)
            have hpk : 2 ^ k ≤ 524288 := Nat.le_trans (Nat.pow_le_pow_right (by decide) hk) (by decide)
            refine W.seq ?_
            refine W.seq ?_
            refine W.region ?_
            refine WL.move rfl rfl ?_
            refine WL.gtr rfl rfl rfl (fun c25 => ?_) (fun c25 => ?_)
            · refine WL.done ?_
              refine W.condT rfl ?_
              refine W.skip ?_
              refine W.seq ?_
              refine W.block ?_
              refine W.seq ?_
              refine W.region ?_
              refine WL.move rfl rfl ?_
              refine WL.move rfl rfl ?_
              have hk0 := pw_zero (k := k) (by omega)
              have hkd := pw_half hk0
              have hh := half_pow (n := n) hk0
              have hU : n / (2 ^ k / 2) = n / 2 ^ (k - 1) := by rw [hkd]
              have hun := Nat.div_le_self n (2 ^ (k - 1))
              have hsq := sq_len (a := nv xa) (q := n / 2 ^ k) (by omega)
              refine WL.call Try.func68 rfl Try.nm68 rfl rfl (rMul_c ho.rd ho.rd (digs_lim _) (digs_lim _) (by omega) (by omega)) ?_
              rintro _ w26 ⟨A27, m28, cp29, rfl, hGw26, hO, hm30⟩
              have hO := hO.low (b' := w.heap.size) hB.size
              have hB := ext_trans hB hGw26
              have ht := ht.ext hGw26
              have hO_l := hO.rd.ulen
              rw [nv_digs, ← Nat.pow_add] at hO
              have hO_k := hO.rd.ulen
              refine WL.assign rfl rfl ?_
              refine WL.done ?_
              refine W.seq ?_
              refine W.seq ?_
              refine W.region ?_
              refine WL.move rfl rfl ?_
              refine WL.move rfl rfl ?_
              refine WL.quo (r := ((n / (2 ^ k / 2) : Nat) : Int)) rfl rfl (by omega) (qi64 (by omega) (by omega) (by omega)) rfl ?_
              refine WL.rem (r := (((n / (2 ^ k / 2)) % 2 : Nat) : Int)) rfl rfl (by omega) (tmod_nat (by omega) (by omega)) rfl ?_
              refine WL.eql rfl rfl rfl (fun c31 => ?_) (fun c31 => ?_)
              · refine WL.done ?_
                refine W.condT rfl ?_
                refine W.region ?_
                refine WL.move rfl rfl ?_
                refine WL.move rfl rfl ?_
                refine WL.call Try.func68 rfl Try.nm68 rfl rfl (rMul_c hO.rd ht.rd (digs_lim _) (Lim.trim hLa) (by omega) (by omega)) ?_
                rintro _ w32 ⟨A33, m34, cp35, rfl, hGw32, hO2, hm36⟩
                have hO2 := hO2.low (b' := w.heap.size) hB.size
                have hB := ext_trans hB hGw32
                have ht := ht.ext hGw32
                have hO2_l := hO2.rd.ulen
                rw [nv_digs, nv_trimL, ← Nat.pow_succ, Nat.succ_eq_add_one] at hO2
                have hO2_k := hO2.rd.ulen
                refine WL.assign rfl rfl ?_
                refine WL.done ?_
                refine W.seq ?_
                refine W.region ?_
                refine WL.move rfl rfl ?_
                refine WL.len Try.underlying23 rfl rfl ?_
                refine WL.gtr rfl rfl rfl (fun c37 => ?_) (fun c37 => ?_)
                · refine WL.done ?_
                  refine W.condT rfl ?_
                  refine W.seq ?_
                  refine W.region ?_
                  refine WL.assign rfl rfl ?_
                  refine WL.assign rfl rfl ?_
                  refine WL.done ?_
                  refine W.ret ?_
                  refine ⟨_, rfl, ?_⟩
                  first
                  | exact ⟨rfl, hB⟩
                  | (exfalso; have hk := pw_none (k := k) (by omega); subst hk; rw [Nat.pow_zero, Nat.div_one] at ho_l; have := digs_big.1 (by omega : (digs (nv xa ^ n)).length ≤ 4096); omega)
                · refine WL.done ?_
                  refine W.condF rfl ?_
                  refine W.skip ?_
                  refine W.region ?_
                  refine WL.move rfl rfl ?_
                  refine WL.quo (r := (((2 ^ k / 2) / 2 : Nat) : Int)) rfl rfl (by omega) (qi64 (by omega) (by omega) (by omega)) rfl ?_
                  refine WL.assign rfl rfl ?_
                  refine WL.done ?_
                  refine ⟨(k - 1, _, _, _, _, _, _), ⟨rfl, iv (by omega), rfl, iv (by omega), trivial⟩, by (dsimp only; omega), ?_⟩
                  exact ⟨hB, by omega, by omega, by rw [show n / 2 ^ (k - 1) = n / 2 ^ k + n / 2 ^ k + 1 by omega]; exact hO2, ht⟩
              · refine WL.done ?_
                refine W.condF rfl ?_
                refine W.skip ?_
                refine W.seq ?_
                refine W.region ?_
                refine WL.move rfl rfl ?_
                refine WL.len Try.underlying23 rfl rfl ?_
                refine WL.gtr rfl rfl rfl (fun c38 => ?_) (fun c38 => ?_)
                · refine WL.done ?_
                  refine W.condT rfl ?_
                  refine W.seq ?_
                  refine W.region ?_
                  refine WL.assign rfl rfl ?_
                  refine WL.assign rfl rfl ?_
                  refine WL.done ?_
                  refine W.ret ?_
                  refine ⟨_, rfl, ?_⟩
                  first
                  | exact ⟨rfl, hB⟩
                  | (exfalso; have hk := pw_none (k := k) (by omega); subst hk; rw [Nat.pow_zero, Nat.div_one] at ho_l; have := digs_big.1 (by omega : (digs (nv xa ^ n)).length ≤ 4096); omega)
                · refine WL.done ?_
                  refine W.condF rfl ?_
                  refine W.skip ?_
                  refine W.region ?_
                  refine WL.move rfl rfl ?_
                  refine WL.quo (r := (((2 ^ k / 2) / 2 : Nat) : Int)) rfl rfl (by omega) (qi64 (by omega) (by omega) (by omega)) rfl ?_
                  refine WL.assign rfl rfl ?_
                  refine WL.done ?_
                  refine ⟨(k - 1, _, _, _, _, _, _), ⟨rfl, iv (by omega), rfl, iv (by omega), trivial⟩, by (dsimp only; omega), ?_⟩
                  exact ⟨hB, by omega, by omega, by rw [show n / 2 ^ (k - 1) = n / 2 ^ k + n / 2 ^ k by omega]; exact hO, ht⟩
            · refine WL.done ?_
              refine W.condF rfl ?_
              refine W.exit ?_
              refine W.seq ?_
              refine W.region ?_
              refine WL.move rfl rfl ?_
              refine WL.assign rfl rfl ?_
              refine WL.assign rfl rfl ?_
              refine WL.done ?_
              refine W.ret ?_
              refine ⟨_, rfl, ?_⟩
              first
              | exact ⟨rfl, hB⟩
              | (exfalso; have hk := pw_none (k := k) (by omega); subst hk; rw [Nat.pow_zero, Nat.div_one] at ho_l; have := digs_big.1 (by omega : (digs (nv xa ^ n)).length ≤ 4096); omega)
end Go.Proofs.Ythfpcebcfjlkmab
namespace Go.Proofs.Ythfpcebcfjlkmab
open Go.RowKit
/-- Binomial coefficients. -/
def choose : Nat → Nat → Nat
  | _, 0 => 1
  | 0, _ + 1 => 0
  | n + 1, k + 1 => choose n k + choose n (k + 1)
def c129 : Nat := 129
/-- The same at every whole number below. -/
def chz (n : Nat) (k : Int) : Nat := if k < 0 then 0 else choose n k.toNat
/-! ### division by one limb -/
theorem div_lim {h l y : Nat} (hh : h < y) (hl : l < 4294967296) : (l + 4294967296 * h) / y < 4294967296 := by
  rw [Nat.div_lt_iff_lt_mul (by omega)]
  have : 4294967296 * (h + 1) ≤ 4294967296 * y := Nat.mul_le_mul_left _ hh
  omega
theorem drop_set {l : List Nat} {i : Nat} (v : Nat) (h : i < l.length) : nv ((l.set i v).drop i) = v + 4294967296 * nv (l.drop (i + 1)) := by
  rw [nv_drop, List.drop_set_of_lt (by omega)]
  simp [h]
theorem div_step {xa zs : List Nat} {i d r x q : Nat} (hi : i < zs.length) (h : nv (xa.drop (i + 1)) = nv (zs.drop (i + 1)) * d + r) (hx : xa.getD i 0 = x) (hq : q = (x + 4294967296 * r) / d) :
    nv (xa.drop i) = nv ((zs.set i q).drop i) * d + (x + 4294967296 * r) % d := by
  rw [drop_set _ hi, nv_drop, hx, h]
  have h1 := Nat.div_add_mod (x + 4294967296 * r) d
  rw [← hq, Nat.mul_comm] at h1
  rw [Nat.add_mul, Nat.mul_add, Nat.mul_assoc]
  omega
theorem div_end {a q d r : Nat} (h : a = q * d + r) (hr : r < d) : q = a / d ∧ r = a % d := by
  subst h
  have hd : 0 < d := by omega
  constructor
  · rw [Nat.mul_comm, Nat.mul_add_div hd, Nat.div_eq_of_lt hr]; omega
  · rw [Nat.mul_comm, Nat.mul_add_mod, Nat.mod_eq_of_lt hr]
theorem wu32n {n : Nat} (h : n < 4294967296) : IntKind.u32.wrap (n : Int) = (n : Int) := wu32 (by omega) (by omega) rfl
theorem wu64n {n : Nat} (h : n < 18446744073709551616) : IntKind.u64.wrap (n : Int) = (n : Int) := wu64 (by omega) (by omega) rfl
theorem wi64n {n : Nat} (h : n < 9223372036854775808) : IntKind.i64.wrap (n : Int) = (n : Int) := wi64 (by omega) (by omega) rfl
end Go.Proofs.Ythfpcebcfjlkmab
set_option linter.unusedSimpArgs false
set_option linter.unusedVariables false
namespace Go.Proofs.Ythfpcebcfjlkmab
open Go.RowKit
theorem Div32_c {w : World} (x y d : Nat) {X Y D : Int} (hX : X = x) (hY : Y = y) (hD : D = d) (hx : x < d) (hy : y < 4294967296) (hd : d < 4294967296) :
    Calls Try.prog 77 #[.int .u32 X, .int .u32 Y, .int .u32 D] w fun e w2 => ∃ v, e = .returned v ∧ (fun v w2 => v = .tuple #[.int .u32 (((y + 4294967296 * x) / d : Nat) : Int), .int .u32 (((y + 4294967296 * x) % d : Nat) : Int)] ∧ w.grownBy w2 none) v w2 := by
  have hq := div_lim hx hy
  have hr := Nat.mod_lt (y + 4294967296 * x) (by omega : d > 0)
  have hB := ext_refl w
  refine calls_of_W (vs := [.int .u32 X, .int .u32 Y, .int .u32 D]) [6, 7] Try.func77 rfl rfl rfl rfl ?_
  refine W.seq ?_
  refine W.region ?_
  refine WL.assign rfl rfl ?_
  refine WL.assign rfl rfl ?_
  refine WL.done ?_
  refine W.seq ?_
  refine W.seq ?_
  refine W.region ?_
  refine WL.move rfl rfl ?_
  refine WL.neq rfl rfl rfl (fun c11 => ?_) (fun c11 => ?_)
  · refine WL.move rfl rfl ?_
    refine WL.take rfl ?_
    refine WL.move rfl rfl ?_
    refine WL.take rfl ?_
    refine WL.move rfl rfl ?_
    refine WL.take rfl ?_
    refine WL.leq rfl rfl rfl (fun c12 => ?_) (fun c12 => ?_)
    · exfalso
      omega
    · refine WL.pick rfl rfl rfl ?_
      refine WL.done ?_
      refine W.condF rfl ?_
      refine W.skip ?_
      refine W.seq ?_
      refine W.region ?_
      refine WL.move rfl rfl ?_
      refine WL.conv (r := X) Try.underlying43 Try.underlying72 rfl (wu64 (by omega) (by omega) (by omega)) rfl ?_
      refine WL.shl (r := ((x * 4294967296 : Nat) : Int)) rfl rfl (by omega) (by rw [show IntKind.u64.bits = 64 from rfl, shl_nat (a := x) (s := 32) (by omega) (by omega) 64 (by omega)]; exact wu64 (by omega) (by omega) (by omega)) rfl ?_
      refine WL.move rfl rfl ?_
      refine WL.conv (r := Y) Try.underlying43 Try.underlying72 rfl (wu64 (by omega) (by omega) (by omega)) rfl ?_
      refine WL.bits (r := ((y + 4294967296 * x : Nat) : Int)) rfl rfl (.inr (.inl rfl)) (or64 rfl (by omega) (by omega) hy) rfl ?_
      refine WL.assign rfl rfl ?_
      refine WL.done ?_
      refine W.seq ?_
      refine W.draw [⟨[], [8], true⟩, ⟨[], [2], true⟩, ⟨[1], [], true⟩, ⟨[0, 2], [], true⟩, ⟨[3], [], true⟩, ⟨[], [8], true⟩, ⟨[], [2], true⟩, ⟨[6], [], true⟩, ⟨[5, 7], [], true⟩, ⟨[8], [], true⟩, ⟨[4], [], true⟩, ⟨[9], [], true⟩] [[(8, .int .u64 ((y + 4294967296 * x : Nat) : Int))], [(2, .int .u32 D)], [], [], [], [(8, .int .u64 ((y + 4294967296 * x : Nat) : Int))], [(2, .int .u32 D)], [], [], [], [], []] (fun iQ => [fun v _ => v = .int .u64 ((y + 4294967296 * x : Nat) : Int), fun v _ => v = .int .u32 D, fun v _ => v = .int .u64 D, fun v _ => v = .int .u64 (((y + 4294967296 * x) / d : Nat) : Int), fun v _ => v = .int .u32 (((y + 4294967296 * x) / d : Nat) : Int), fun v _ => v = .int .u64 ((y + 4294967296 * x : Nat) : Int), fun v _ => v = .int .u32 D, fun v _ => v = .int .u64 D, fun v _ => v = .int .u64 (((y + 4294967296 * x) % d : Nat) : Int), fun v _ => v = .int .u32 (((y + 4294967296 * x) % d : Nat) : Int), fun v _ => v = .int .u32 (((y + 4294967296 * x) / d : Nat) : Int), fun v _ => v = .int .u32 (((y + 4294967296 * x) % d : Nat) : Int)].getD iQ (fun _ _ => True)) (fun _ => True) 12 Try.mixed (by kernel_rfl) ?_ ?_ ?_
      · refine Vs_mono _ ?_
        intro VQ hVQ vQ wQ1 wQ2 hQ1 hQ2
        simp only [List.mem_cons, List.not_mem_nil, or_false] at hVQ
        rcases hVQ with rfl | rfl | rfl | rfl | rfl | rfl | rfl | rfl | rfl | rfl | rfl | rfl <;> exact hQ1
      · refine ⟨⟨rfl, ⟨rfl, trivial⟩, ?_⟩, ⟨rfl, ⟨rfl, trivial⟩, ?_⟩, ⟨rfl, trivial, ?_⟩, ⟨rfl, trivial, ?_⟩, ⟨rfl, trivial, ?_⟩, ⟨rfl, ⟨rfl, trivial⟩, ?_⟩, ⟨rfl, ⟨rfl, trivial⟩, ?_⟩, ⟨rfl, trivial, ?_⟩, ⟨rfl, trivial, ?_⟩, ⟨rfl, trivial, ?_⟩, ⟨rfl, trivial, ?_⟩, ⟨rfl, trivial, ?_⟩, trivial⟩
        · intro w13 hE
          intro R
          refine WL.move rfl rfl ?_
          exact WL.done ⟨_, rfl, rfl, rfl⟩
        · intro w14 hE
          intro R
          refine WL.move rfl rfl ?_
          exact WL.done ⟨_, rfl, rfl, rfl⟩
        · intro w15 hE
          rintro _ rfl
          intro R
          refine WL.conv (r := D) Try.underlying43 Try.underlying72 rfl (wu64 (by omega) (by omega) (by omega)) rfl ?_
          exact WL.done ⟨_, rfl, rfl, rfl⟩
        · intro w16 hE
          rintro _ rfl
          rintro _ rfl
          intro R
          refine WL.quo (r := (((y + 4294967296 * x) / d : Nat) : Int)) rfl rfl (by omega) (qu64 (by omega) (by omega) (by omega)) rfl ?_
          exact WL.done ⟨_, rfl, rfl, rfl⟩
        · intro w17 hE
          rintro _ rfl
          intro R
          refine WL.conv (r := (((y + 4294967296 * x) / d : Nat) : Int)) Try.underlying72 Try.underlying43 rfl (wu32n hq) rfl ?_
          exact WL.done ⟨_, rfl, rfl, rfl⟩
        · intro w18 hE
          intro R
          refine WL.move rfl rfl ?_
          exact WL.done ⟨_, rfl, rfl, rfl⟩
        · intro w19 hE
          intro R
          refine WL.move rfl rfl ?_
          exact WL.done ⟨_, rfl, rfl, rfl⟩
        · intro w20 hE
          rintro _ rfl
          intro R
          refine WL.conv (r := D) Try.underlying43 Try.underlying72 rfl (wu64 (by omega) (by omega) (by omega)) rfl ?_
          exact WL.done ⟨_, rfl, rfl, rfl⟩
        · intro w21 hE
          rintro _ rfl
          rintro _ rfl
          intro R
          refine WL.rem (r := (((y + 4294967296 * x) % d : Nat) : Int)) rfl rfl (by omega) (tmod_nat (by omega) (by omega)) rfl ?_
          exact WL.done ⟨_, rfl, rfl, rfl⟩
        · intro w22 hE
          rintro _ rfl
          intro R
          refine WL.conv (r := (((y + 4294967296 * x) % d : Nat) : Int)) Try.underlying72 Try.underlying43 rfl (wu32n (Nat.lt_trans hr hd)) rfl ?_
          exact WL.done ⟨_, rfl, rfl, rfl⟩
        · intro w23 hE
          rintro _ rfl
          intro R
          refine WL.assign rfl rfl ?_
          exact WL.done ⟨_, rfl, rfl, rfl⟩
        · intro w24 hE
          rintro _ rfl
          intro R
          refine WL.assign rfl rfl ?_
          exact WL.done ⟨_, rfl, rfl, rfl⟩
      · intro vals w25 hT hVs
        rw [if_neg (by decide)] at hT
        have hB := ext_trans hB hT
        have hv0 : vals 0 = _ := hVs 0 (by decide) (by decide)
        have hv1 : vals 1 = _ := hVs 1 (by decide) (by decide)
        have hv2 : vals 2 = _ := hVs 2 (by decide) (by decide)
        have hv3 : vals 3 = _ := hVs 3 (by decide) (by decide)
        have hv4 : vals 4 = _ := hVs 4 (by decide) (by decide)
        have hv5 : vals 5 = _ := hVs 5 (by decide) (by decide)
        have hv6 : vals 6 = _ := hVs 6 (by decide) (by decide)
        have hv7 : vals 7 = _ := hVs 7 (by decide) (by decide)
        have hv8 : vals 8 = _ := hVs 8 (by decide) (by decide)
        have hv9 : vals 9 = _ := hVs 9 (by decide) (by decide)
        have hv10 : vals 10 = _ := hVs 10 (by decide) (by decide)
        have hv11 : vals 11 = _ := hVs 11 (by decide) (by decide)
        rw [show (List.filterMap (fun i => Option.map (fun t => (t, vals i)) (dstAt _ i)) (List.range _)) = [(23, .int .u64 ((y + 4294967296 * x : Nat) : Int)), (24, .int .u32 D), (25, .int .u64 D), (26, .int .u64 (((y + 4294967296 * x) / d : Nat) : Int)), (27, .int .u32 (((y + 4294967296 * x) / d : Nat) : Int)), (28, .int .u64 ((y + 4294967296 * x : Nat) : Int)), (29, .int .u32 D), (30, .int .u64 D), (31, .int .u64 (((y + 4294967296 * x) % d : Nat) : Int)), (32, .int .u32 (((y + 4294967296 * x) % d : Nat) : Int)), (6, .int .u32 (((y + 4294967296 * x) / d : Nat) : Int)), (7, .int .u32 (((y + 4294967296 * x) % d : Nat) : Int))] from by
          show [(23, vals 0), (24, vals 1), (25, vals 2), (26, vals 3), (27, vals 4), (28, vals 5), (29, vals 6), (30, vals 7), (31, vals 8), (32, vals 9), (6, vals 10), (7, vals 11)] = _
          rw [hv0, hv1, hv2, hv3, hv4, hv5, hv6, hv7, hv8, hv9, hv10, hv11]]
        refine W.ret ?_
        refine ⟨_, rfl, ?_⟩
        exact ⟨rfl, hB⟩
  · exfalso
    omega

theorem sdiv_c {w : World} {b0 : Nat} {Aa : Option Addr} {ma ca : Nat} {xa : List Nat} (ho : Own b0 w 43 1 Aa ma ca (us xa)) (hb0s : b0 ≤ w.heap.size) (hLa : Lim xa) (hs : ma ≤ 1099511627776) (d : Nat) {X : Int} (hX : X = d) (hd0 : 0 < d) (hd : d < 4294967296) :
    Calls Try.prog 43 #[.slice Aa ma ca, .int .u32 X] w fun e w2 => ∃ v, e = .returned v ∧ (fun v w2 => ∃ ys, v = .int .u32 ((nv xa % d : Nat) : Int) ∧ Below b0 w w2 ∧ Own b0 w2 43 1 Aa ma ca (us ys) ∧ Lim ys ∧ ys.length = ma ∧ nv ys = nv xa / d) v w2 := by
  have ho_l := ho.rd.ulen
  have ho_x := ho.rd.max
  simp only [maxLen] at ho_x
  have ho_c := ho.rd.cap
  have hB := Below.refl b0 w
  refine calls_of_W (vs := [.slice Aa ma ca, .int .u32 X]) [4] Try.func43 rfl rfl rfl rfl ?_
  refine W.seq ?_
  refine W.region ?_
  refine WL.assign rfl rfl ?_
  refine WL.done ?_
  refine W.seq ?_
  refine W.region ?_
  refine WL.assign rfl rfl ?_
  refine WL.done ?_
  refine W.seq ?_
  refine W.seq ?_
  refine W.region ?_
  refine WL.move rfl rfl ?_
  refine WL.len Try.underlying23 rfl rfl ?_
  refine WL.sub (r := ((ma : Nat) : Int) - 1) rfl rfl (wi64 (by omega) (by omega) (by omega)) rfl ?_
  refine WL.assign rfl rfl ?_
  refine WL.done ?_
  refine W.block ?_
  refine W.loop (σ := Nat × Nat × List Nat) (fun s w1 => match s with | (j, r, zs) => Below b0 w w1 ∧ j ≤ ma ∧ r < d ∧ Lim zs ∧ zs.length = ma ∧ (∀ t, t < j → zs.getD t 0 = xa.getD t 0) ∧ nv (xa.drop j) = nv (zs.drop j) * d + r ∧ Own b0 w1 43 1 Aa ma ca (us (zs))) (fun s => match s with | (j, r, zs) => [(0, .slice Aa ma ca), (1, .int .u32 X), (5, .int .u32 ((r : Nat) : Int)), (6, .int .i64 (((j : Nat) : Int) - 1))]) (fun s => match s with | (j, r, zs) => j) (ma, 0, xa) ?_ ?_ ?_
  · exact ⟨hB, by omega, hd0, hLa, by omega, fun _ _ => rfl, by rw [List.drop_of_length_le (by omega)]; simp, ho⟩
  · exact ⟨rfl, iv (by omega), iv (by omega), iv (by omega), trivial⟩
  · rintro ⟨j, r, zs⟩ w11 ⟨hB, hj, hr, hLz, hlz, hsame, heq, ho⟩
    have hz := hLz.getD (j - 1)
    have hq := div_lim hr hz
    have hmr := Nat.mod_lt (zs.getD (j - 1) 0 + 4294967296 * r) (show d > 0 by omega)
    refine W.seq ?_
    refine W.seq ?_
    refine W.region ?_
    refine WL.move rfl rfl ?_
    refine WL.geq rfl rfl rfl (fun c12 => ?_) (fun c12 => ?_)
    · refine WL.done ?_
      refine W.condT rfl ?_
      refine W.skip ?_
      refine W.seq ?_
      refine W.block ?_
      refine W.region ?_
      refine WL.move rfl rfl ?_
      refine WL.move rfl rfl ?_
      refine WL.move rfl rfl ?_
      refine WL.move rfl rfl ?_
      refine WL.move rfl rfl ?_
      refine WL.index1 (j - 1) Try.underlying23 Try.el43 rfl rfl (by omega) (by omega) ho.rd rfl ?_
      refine WL.load Try.underlying43 rfl rfl (Rd.at_ ho.rd (us_at (by omega))) rfl ?_
      refine WL.move rfl rfl ?_
      refine WL.call Try.func77 rfl Try.nm77 rfl rfl (Div32_c r (zs.getD (j - 1) 0) d (by omega) (by omega) (by omega) (by omega) (by omega) (by omega)) ?_
      rintro _ w13 ⟨rfl, hGw13⟩
      have hB := hB.grown hGw13 (Nat.le_trans hb0s hB.size) (fun _ h => by cases h)
      have ho := ho.ext hGw13
      refine WL.move rfl rfl ?_
      refine WL.extract rfl rfl rfl ?_
      refine WL.extract rfl rfl rfl ?_
      refine WL.index1 (j - 1) Try.underlying23 Try.el43 rfl rfl (by omega) (by omega) ho.rd rfl ?_
      refine WL.store Try.el43 rfl rfl rfl (by omega) ho ?_
      have hOld15 := ho
      intro w14 ho hGw14
      change Own _ _ _ _ _ _ _ ((us zs).set (j - 1) (.int .u32 ((((zs.getD (j - 1) 0) + 4294967296 * r) / d : Nat) : Int))) at ho
      rw [us_set] at ho
      have hB := hB.grown hGw14 (Nat.le_trans hb0s hB.size) (fun g hg => (hOld15.bl_ge g hg).1)
      have := ho.rd.ulen
      refine WL.assign rfl rfl ?_
      refine WL.done ?_
      refine W.region ?_
      refine WL.move rfl rfl ?_
      refine WL.sub (r := ((((j : Nat) : Int) - 1) - (1 : Int))) rfl rfl (wi64 (by omega) (by omega) (by omega)) rfl ?_
      refine WL.assign rfl rfl ?_
      refine WL.done ?_
      refine ⟨(j - 1, (zs.getD (j - 1) 0 + 4294967296 * r) % d, zs.set (j - 1) ((zs.getD (j - 1) 0 + 4294967296 * r) / d)), ⟨rfl, iv (by omega), iv (by omega), iv (by omega), trivial⟩, by (dsimp only; omega), ?_⟩
      exact ⟨hB, by omega, hmr, hLz.set _ hq, by simp [hlz], fun t ht => by rw [getD_set_ne (by omega)]; exact hsame t (by omega), div_step (by omega) (by rw [show j - 1 + 1 = j by omega]; exact heq) (hsame (j - 1) (by omega)).symm rfl, ho⟩
    · refine WL.done ?_
      refine W.condF rfl ?_
      refine W.exit ?_
      refine W.seq ?_
      refine W.region ?_
      refine WL.move rfl rfl ?_
      refine WL.assign rfl rfl ?_
      refine WL.done ?_
      refine W.ret ?_
      refine ⟨_, rfl, ?_⟩
      obtain rfl : j = 0 := by omega
      rw [List.drop_zero, List.drop_zero] at heq
      obtain ⟨e1, e2⟩ := div_end heq hr
      exact ⟨_, by rw [e2], hB, ho, hLz, hlz, e1⟩

end Go.Proofs.Ythfpcebcfjlkmab
namespace Go.Proofs.Ythfpcebcfjlkmab
open Go.RowKit
def sumTo (f : Nat → Nat) : Nat → Nat
  | 0 => 0
  | j + 1 => sumTo f j + f j
/-- The first terms of the identity of Vandermonde. -/
def vs (p q r j : Nat) : Nat := sumTo (fun i => choose p i * choose q (r - i)) j
end Go.Proofs.Ythfpcebcfjlkmab
set_option linter.unusedSimpArgs false
set_option linter.unusedVariables false
namespace Go.Proofs.Ythfpcebcfjlkmab
open Go.RowKit
end Go.Proofs.Ythfpcebcfjlkmab
namespace Go.Proofs.Ythfpcebcfjlkmab
open Go.RowKit
/-! ### the digits of a long division -/
/-- The estimate never falls below the digit. -/
theorem est_low {D W P v1 v2 D' top w2 W' dg left q : Nat} (hD : D = (v1 * 4294967296 + v2) * P + D') (hW : W = (top * 4294967296 + w2) * P + W') (hW' : W' < P)
    (hq : q * D ≤ W) (hinv : dg * v1 + left = top) (htest : left * 4294967296 + w2 < dg * v2) : q < dg := by
  rcases Nat.lt_or_ge q dg with h | h
  · exact h
  · exfalso
    have h1 : dg * D ≤ q * D := Nat.mul_le_mul_right D h
    have h2 : dg * (v1 * 4294967296 + v2) = (dg * v1) * 4294967296 + dg * v2 := by rw [Nat.mul_add, Nat.mul_assoc]
    have h3 : top * 4294967296 + w2 + 1 ≤ dg * (v1 * 4294967296 + v2) := by rw [h2]; omega
    have h4 : (top * 4294967296 + w2 + 1) * P ≤ dg * (v1 * 4294967296 + v2) * P := Nat.mul_le_mul_right P h3
    have h5 : dg * D = dg * (v1 * 4294967296 + v2) * P + dg * D' := by rw [hD, Nat.mul_add, Nat.mul_assoc]
    rw [Nat.add_mul, Nat.one_mul] at h4
    omega
theorem est_first {D W P v1 v2 D' top w2 W' q : Nat} (hD : D = (v1 * 4294967296 + v2) * P + D') (hW : W = (top * 4294967296 + w2) * P + W') (hW' : W' < P) (hw2 : w2 < 4294967296) (hv : 0 < v1) (hq : q * D ≤ W) : q ≤ top / v1 := by
  rw [Nat.le_div_iff_mul_le hv]
  rcases Nat.lt_or_ge top (q * v1) with h | h
  · exfalso
    have h1 : (top + 1) * (4294967296 * P) ≤ q * v1 * (4294967296 * P) := Nat.mul_le_mul_right _ h
    have h2 : q * D = q * v1 * (4294967296 * P) + q * v2 * P + q * D' := by rw [hD]; simp only [Nat.mul_add, Nat.add_mul, Nat.mul_assoc]
    have h3 : (top * 4294967296 + w2) * P + P ≤ (top + 1) * (4294967296 * P) := by
      have h4 : (top * 4294967296 + w2 + 1) * P ≤ ((top + 1) * 4294967296) * P := Nat.mul_le_mul_right _ (by omega)
      rw [Nat.add_mul _ 1, Nat.one_mul, Nat.mul_assoc (top + 1)] at h4
      exact h4
    omega
  · exact h
/-- At the end it is the digit, or one more. -/
theorem est_high {D W P v1 v2 D' top w2 W' dg left : Nat} (hD : D = (v1 * 4294967296 + v2) * P + D') (hW : W = (top * 4294967296 + w2) * P + W') (hD' : D' < P) (hv : 2147483648 ≤ v1)
    (hinv : dg * v1 + left = top) (hdg : dg < 4294967296) (htest : dg * v2 ≤ left * 4294967296 + w2) : dg * D < W + D := by
  have h2 : dg * (v1 * 4294967296 + v2) = (dg * v1) * 4294967296 + dg * v2 := by rw [Nat.mul_add, Nat.mul_assoc]
  have h3 : dg * (v1 * 4294967296 + v2) ≤ top * 4294967296 + w2 := by rw [h2]; omega
  have h4 := Nat.mul_le_mul_right P h3
  have h5 : dg * D = dg * (v1 * 4294967296 + v2) * P + dg * D' := by rw [hD, Nat.mul_add, Nat.mul_assoc]
  have h6 : dg * D' ≤ 4294967296 * D' := Nat.mul_le_mul_right _ (by omega)
  have h7 : 4294967296 * P ≤ v1 * 4294967296 * P := Nat.mul_le_mul_right _ (by omega)
  have h8 : D = v1 * 4294967296 * P + v2 * P + D' := by rw [hD, Nat.add_mul]
  omega
/-- The digit is below the base where the rest has grown past it. -/
theorem est_stop {D W P v1 v2 D' top w2 W' dg left : Nat} (hD : D = (v1 * 4294967296 + v2) * P + D') (hW : W = (top * 4294967296 + w2) * P + W') (hD' : D' < P) (hv2 : v2 < 4294967296)
    (hWD : W < 4294967296 * D) (hinv : dg * v1 + left = top) (hl : 4294967296 ≤ left) : dg < 4294967296 ∧ dg * v2 ≤ left * 4294967296 + w2 := by
  have h1 : top < 4294967296 * (v1 + 1) := by
    rcases Nat.lt_or_ge top (4294967296 * (v1 + 1)) with h | h
    · exact h
    · exfalso
      have h2 : 4294967296 * (v1 + 1) * (4294967296 * P) ≤ top * (4294967296 * P) := Nat.mul_le_mul_right _ h
      have h3 : D < (v1 + 1) * (4294967296 * P) := by
        have h4 : (v1 * 4294967296 + v2 + 1) * P ≤ ((v1 + 1) * 4294967296) * P := Nat.mul_le_mul_right _ (by omega)
        rw [Nat.add_mul _ 1, Nat.one_mul, Nat.mul_assoc (v1 + 1)] at h4
        omega
      have h5 : 4294967296 * D < 4294967296 * (v1 + 1) * (4294967296 * P) := by rw [Nat.mul_assoc]; omega
      have h6 : top * (4294967296 * P) ≤ W := by
        rw [hW, Nat.add_mul, Nat.mul_assoc]; omega
      omega
  have h2 : dg < 4294967296 := by
    rcases Nat.lt_or_ge dg 4294967296 with h | h
    · exact h
    · exfalso
      have := Nat.mul_le_mul_right v1 h
      omega
  refine ⟨h2, ?_⟩
  have h3 : dg * v2 ≤ 4294967296 * 4294967296 := Nat.mul_le_mul (by omega) (by omega)
  omega
theorem dig_ends {D W q dg : Nat} (hq : q = W / D) (hD : 0 < D) (h1 : q ≤ dg) (h2 : dg * D < W + D) : dg = q ∨ dg = q + 1 := by
  have h3 := Nat.div_add_mod W D
  have h4 := Nat.mod_lt W hD
  rcases Nat.lt_or_ge dg (q + 2) with h | h
  · omega
  · exfalso
    have h5 := Nat.mul_le_mul_right D h
    rw [Nat.add_mul] at h5
    rw [← hq, Nat.mul_comm] at h3
    omega
/-- One step of the subtraction of a multiple. -/
theorem subm_step {zs : List Nat} {o i x c b lo hi v b' base dg l t : Nat} (hk : o + i < zs.length) (hx : zs.getD (o + i) 0 = x) (h : nv zs + 4294967296 ^ o * (dg * t) = base + 4294967296 ^ (o + i) * (c + b))
    (hs : c + dg * l = lo + 4294967296 * hi) (hv : v + lo + b = x + 4294967296 * b') :
    nv (zs.set (o + i) v) + 4294967296 ^ o * (dg * (t + 4294967296 ^ i * l)) = base + 4294967296 ^ (o + (i + 1)) * (hi + b') := by
  have h1 := nv_set v hk
  rw [hx] at h1
  have h2 : 4294967296 ^ o * (dg * (t + 4294967296 ^ i * l)) = 4294967296 ^ o * (dg * t) + 4294967296 ^ (o + i) * (dg * l) := by
    rw [Nat.mul_add, Nat.mul_add, Nat.pow_add, Nat.mul_left_comm dg, Nat.mul_assoc]
  have h3 : 4294967296 ^ (o + (i + 1)) * (hi + b') = 4294967296 ^ (o + i) * (4294967296 * hi + 4294967296 * b') := by
    rw [show o + (i + 1) = (o + i) + 1 by omega, Nat.pow_succ, Nat.mul_assoc, Nat.mul_add 4294967296]
  have h4 : 4294967296 ^ (o + i) * v + 4294967296 ^ (o + i) * (c + dg * l) + 4294967296 ^ (o + i) * b = 4294967296 ^ (o + i) * x + 4294967296 ^ (o + i) * (4294967296 * hi + 4294967296 * b') := by
    rw [← Nat.mul_add, ← Nat.mul_add, ← Nat.mul_add]
    congr 1
    omega
  rw [h2, h3]
  rw [Nat.mul_add] at h h4
  omega
/-- One step of adding back. -/
theorem addb_step {zs : List Nat} {o i x c v c' base l t : Nat} (hk : o + i < zs.length) (hx : zs.getD (o + i) 0 = x) (h : nv zs + 4294967296 ^ (o + i) * c = base + 4294967296 ^ o * t)
    (hv : v + 4294967296 * c' = x + l + c) :
    nv (zs.set (o + i) v) + 4294967296 ^ (o + (i + 1)) * c' = base + 4294967296 ^ o * (t + 4294967296 ^ i * l) := by
  have h1 := nv_set v hk
  rw [hx] at h1
  have h2 : 4294967296 ^ o * (t + 4294967296 ^ i * l) = 4294967296 ^ o * t + 4294967296 ^ (o + i) * l := by rw [Nat.mul_add, Nat.pow_add, Nat.mul_assoc]
  have h3 : 4294967296 ^ (o + (i + 1)) * c' = 4294967296 ^ (o + i) * (4294967296 * c') := by
    rw [show o + (i + 1) = (o + i) + 1 by omega, Nat.pow_succ, Nat.mul_assoc]
  have h4 : 4294967296 ^ (o + i) * v + 4294967296 ^ (o + i) * (4294967296 * c') = 4294967296 ^ (o + i) * x + 4294967296 ^ (o + i) * l + 4294967296 ^ (o + i) * c := by
    rw [← Nat.mul_add, ← Nat.mul_add, ← Nat.mul_add, hv]
  rw [h2, h3]
  omega
end Go.Proofs.Ythfpcebcfjlkmab
namespace Go.Proofs.Ythfpcebcfjlkmab
open Go.RowKit
/-! ### growth that leaves one row free -/
theorem row_own {w0 w w' : World} {r : Option Nat} (h : w0.grownBy w r) (hg : w.grownBy w' r) : w0.grownBy w' r :=
  ⟨hg.os.trans h.os, hg.tape.trans h.tape, hg.output.trans h.output, Nat.le_trans h.size hg.size, fun k hk hne => (hg.block k (Nat.lt_of_lt_of_le hk h.size) hne).trans (h.block k hk hne)⟩
theorem row_none {w w' : World} {r : Option Nat} (hg : w.grownBy w' none) : w.grownBy w' r :=
  ⟨hg.os, hg.tape, hg.output, hg.size, fun k hk _ => hg.block k hk (by simp)⟩
theorem row_ext {w0 w w' : World} {r : Option Nat} (h : w0.grownBy w r) (hg : w.grownBy w' none) : w0.grownBy w' r := row_own h (row_none hg)
/-! ### a window of a row -/
section
variable {P : Program} {n : Nat} {N : Post} {L : Fr} {w : World} {ops : Array Oper} {rest : List Oper}
variable {d : Nat} {ty : TypeId} {pos : String} {af : Array Edge}
theorem WL.slMid {x y y2 : Operand} {t e : TypeId} {z by_ : Nat} {zero : Value} {A : Option Addr} {m c : Nat} {k k2 : IntKind} {J J2 : Int} (lo hi : Nat) (ht : P.underlying t = some (.slice e)) (he : Elem P e z by_ zero)
    (hx : ev L x = some (.slice A m c)) (hy : ev L y = some (.int k J)) (hy2 : ev L y2 = some (.int k2 J2)) (hJ : J = lo) (hJ2 : J2 = hi) (hlh : lo ≤ hi) (hhc : hi ≤ c) (hlc : lo < c) (hz : z = 1) (hn : Nat.blt d n = true)
    (h : WL P n ops rest N ((d, .slice (A.map (·.add lo)) (hi - lo) (c - lo)) :: L) w) : WL P n ops (⟨some d, .slice t x (some y) (some y2) none, ty, pos, af, none⟩ :: rest) N L w := by
  obtain ⟨inf, i1, i2, i3, i4⟩ := he.ex
  subst hJ; subst hJ2; subst hz
  refine WL.val rfl rfl hn (fun a ha => ?_) h
  have hne : ¬ c = lo := by omega
  simp [execOp, ha.ev hx, ha.ev hy, ha.ev hy2, Instr.sliceAt, Instr.slice, Instr.sliceBounds, Instr.sliceBound, asIntOf, run_underlying ht, sizeOf, typeInfo, i1, i3, hlh, hhc, hne]
/-- The address of an element of a window. -/
theorem WL.indexW {x i : Operand} {t e : TypeId} {by_ : Nat} {zero : Value} {A : Option Addr} {m c mr cr B : Nat} {cs : List Value} {k : IntKind} {J : Int} {wR : World} (o j : Nat)
    (ht : P.underlying t = some (.slice e)) (he : Elem P e 1 by_ zero) (hx : ev L x = some (.slice (A.map (·.add o)) m c)) (hi : ev L i = some (.int k J)) (hJ : J = j) (hj : j < m) (hR : Rd B wR 1 A mr cr cs) (hm : o + j < mr) (hn : Nat.blt d n = true)
    (h : WL P n ops rest N ((d, .pointer (some ((adOf A).add (o + j)))) :: L) w) : WL P n ops (⟨some d, .indexAddr t x i, ty, pos, af, none⟩ :: rest) N L w := by
  obtain ⟨inf, h1, h2, h3, h4⟩ := he.ex
  obtain ⟨ad, e1, _, _⟩ := hR.cells (by omega)
  subst e1; subst hJ
  refine WL.val rfl rfl hn (fun a ha => ?_) h
  have hc : (0 : Int) ≤ (j : Int) ∧ (j : Int) < (m : Int) := by omega
  have e : (ad.add o).add j = ad.add (o + j) := add_add _ _ _
  simp [execOp, ha.ev hx, ha.ev hi, Instr.indexAt, asIntOf, run_underlying ht, sizeOf, typeInfo, h1, h3, hj, adOf, e]
end
/-! ### shifts -/
theorem low_bits {x s : Nat} (hs : s ≤ 31) : (x * 2 ^ s) % 4294967296 = 2 ^ s * (x % 2 ^ (32 - s)) := by
  rw [show 4294967296 = 2 ^ (32 - s) * 2 ^ s by rw [← Nat.pow_add, show 32 - s + s = 32 by omega], Nat.mul_mod_mul_right, Nat.mul_comm]
theorem or_low {P : Program} {w : World} {p s x : Nat} (hs : s ≤ 31) (hp : p < 2 ^ s) : (Op.intBits .or .u32 ((p : Nat) : Int) (((x * 2 ^ s) % 4294967296 : Nat) : Int)).run P w = .ok (.int .u32 ((p + (x * 2 ^ s) % 4294967296 : Nat) : Int)) w := by
  have h2 : 2 ^ s ≤ 2 ^ 31 := Nat.pow_le_pow_right (by decide) hs
  rw [or32 rfl rfl (by omega) (Nat.mod_lt _ (by decide))]
  rw [low_bits hs, Nat.or_comm, ← Nat.two_pow_add_eq_or_of_lt hp, Nat.add_comm]
theorem hi_lt {x s : Nat} (hx : x < 4294967296) : x * 2 ^ s / 4294967296 < 2 ^ s := by
  rw [Nat.div_lt_iff_lt_mul (by decide), Nat.mul_comm (2 ^ s)]
  exact (Nat.mul_lt_mul_right (Nat.pow_pos (by decide))).2 hx
theorem shl_room {x s : Nat} (hx : x < 4294967296) (hs : s ≤ 31) : x * 2 ^ s < 9223372036854775808 := by
  have h2 : 2 ^ s ≤ 2147483648 := Nat.pow_le_pow_right (n := 2) (by decide) hs
  have := Nat.mul_le_mul (show x ≤ 4294967295 by omega) h2
  omega
theorem shl_step {zs xa : List Nat} {i s x p : Nat} (hlen : i + 1 < zs.length) (hp : zs.getD i 0 = p) (h0 : zs.getD (i + 1) 0 = 0) (h : nv zs = nv (xa.take i) * 2 ^ s) (hx : xa.getD i 0 = x) :
    nv ((zs.set i (p + (x * 2 ^ s) % 4294967296)).set (i + 1) (x * 2 ^ s / 4294967296)) = nv (xa.take (i + 1)) * 2 ^ s := by
  have h1 := nv_set (p + (x * 2 ^ s) % 4294967296) (show i < zs.length by omega)
  have h2 := nv_set (l := zs.set i (p + (x * 2 ^ s) % 4294967296)) (k := i + 1) (x * 2 ^ s / 4294967296) (by simpa using hlen)
  rw [getD_set_ne (by omega), h0, Nat.mul_zero, Nat.add_zero] at h2
  rw [hp, Nat.mul_add] at h1
  have h3 := Nat.div_add_mod (x * 2 ^ s) 4294967296
  have h4 : 4294967296 ^ i * (x * 2 ^ s % 4294967296) + 4294967296 ^ (i + 1) * (x * 2 ^ s / 4294967296) = 4294967296 ^ i * (x * 2 ^ s) := by
    rw [Nat.pow_succ, Nat.mul_assoc, ← Nat.mul_add, Nat.add_comm, h3]
  rw [h2, nv_take_succ, hx, Nat.add_mul, Nat.mul_assoc, ← h4, ← h]
  omega
theorem lowsum {x s p : Nat} (hs : s ≤ 31) (hp : p < 2 ^ s) : p + (x * 2 ^ s) % 4294967296 < 4294967296 := by
  rw [low_bits hs]
  have h1 := Nat.mod_lt x (show 0 < 2 ^ (32 - s) from Nat.pow_pos (by decide))
  have h2 : 2 ^ s * (x % 2 ^ (32 - s) + 1) ≤ 2 ^ s * 2 ^ (32 - s) := Nat.mul_le_mul_left _ h1
  rw [← Nat.pow_add, show s + (32 - s) = 32 by omega, Nat.mul_add] at h2
  omega
theorem getD_set_eq {l : List Nat} {k v : Nat} (h : k < l.length) : (l.set k v).getD k 0 = v := by simp [h]
theorem shr_step {zs xa : List Nat} {i s x y : Nat} (hs : s ≤ 31) (hi : i < zs.length) (h : nv (zs.take i) = (nv xa / 2 ^ s) % 4294967296 ^ i) (hx : xa.getD i 0 = x) (hy : xa.getD (i + 1) 0 = y) (hLa : Lim xa) :
    nv ((zs.set i ((x + 4294967296 * y) / 2 ^ s % 4294967296)).take (i + 1)) = (nv xa / 2 ^ s) % 4294967296 ^ (i + 1) := by
  have hset : (zs.set i ((x + 4294967296 * y) / 2 ^ s % 4294967296)).take i = zs.take i := by rw [List.take_set_of_le (by omega)]
  rw [nv_take_succ, hset, h, Nat.mod_pow_succ]
  congr 2
  have hg : (zs.set i ((x + 4294967296 * y) / 2 ^ s % 4294967296)).getD i 0 = (x + 4294967296 * y) / 2 ^ s % 4294967296 := by simp [hi]
  rw [hg, Nat.div_div_eq_div_mul, Nat.mul_comm (2 ^ s), ← Nat.div_div_eq_div_mul]
  have hv : nv xa / 4294967296 ^ i = x + 4294967296 * y + 2 ^ s * (2 ^ (32 - s) * (4294967296 * nv (xa.drop (i + 1 + 1)))) := by
    have h1 := nv_split xa i
    have h2 := hLa.take_lt i
    have e2 : 2 ^ s * (2 ^ (32 - s) * (4294967296 * nv (xa.drop (i + 1 + 1)))) = 4294967296 * (4294967296 * nv (xa.drop (i + 1 + 1))) := by
      rw [← Nat.mul_assoc, ← Nat.pow_add, show s + (32 - s) = 32 by omega]
    rw [h1, Nat.add_mul_div_left _ _ (Nat.pow_pos (by decide)), Nat.div_eq_of_lt h2, Nat.zero_add, nv_drop, hx, nv_drop, hy, e2]
    omega
  rw [hv, Nat.add_mul_div_left _ _ (Nat.pow_pos (by decide)), ← Nat.mul_assoc, Nat.mul_comm _ 4294967296, Nat.mul_assoc, Nat.add_mul_mod_self_left]
theorem split_two {l : List Nat} {n : Nat} (hn : 2 ≤ n) (hl : l.length ≤ n) : nv l = (l.getD (n - 1) 0 * 4294967296 + l.getD (n - 2) 0) * 4294967296 ^ (n - 2) + nv (l.take (n - 2)) := by
  obtain ⟨k, rfl⟩ : ∃ k, n = k + 2 := ⟨n - 2, by omega⟩
  rw [← nv_take_all hl, nv_take_succ, nv_take_succ, show k + 2 - 1 = k + 1 by omega, show k + 2 - 2 = k by omega, Nat.pow_succ, Nat.add_mul, Nat.mul_comm (l.getD (k + 1) 0), Nat.mul_assoc, Nat.mul_comm (4294967296 * _), Nat.mul_comm (l.getD k 0)]
  omega
theorem drop_getD (l : List Nat) (o k : Nat) : (l.drop o).getD k 0 = l.getD (o + k) 0 := by simp [List.getD_eq_getElem?_getD]
theorem split_win {l : List Nat} {o n : Nat} (hn : 2 ≤ n) : nv ((l.drop o).take (n + 1)) = ((l.getD (o + (n - 1)) 0 + 4294967296 * l.getD (o + n) 0) * 4294967296 + l.getD (o + (n - 2)) 0) * 4294967296 ^ (n - 2) + nv ((l.drop o).take (n - 2)) := by
  obtain ⟨k, rfl⟩ : ∃ k, n = k + 2 := ⟨n - 2, by omega⟩
  rw [nv_take_succ, nv_take_succ, nv_take_succ, drop_getD, drop_getD, drop_getD, show k + 2 - 1 = k + 1 by omega, show k + 2 - 2 = k by omega]
  simp only [Nat.add_mul, Nat.pow_succ]
  ac_rfl
theorem dec_mul {dg v l : Nat} (h : 0 < dg) : (dg - 1) * v + (l + v) = dg * v + l := by
  obtain ⟨k, rfl⟩ : ∃ k, dg = k + 1 := ⟨dg - 1, by omega⟩
  rw [Nat.add_mul, show k + 1 - 1 = k by omega]; omega
end Go.Proofs.Ythfpcebcfjlkmab
set_option linter.unusedSimpArgs false
set_option linter.unusedVariables false
namespace Go.Proofs.Ythfpcebcfjlkmab
open Go.RowKit
theorem LZ_c {w : World} (x : Nat) {X : Int} (hX : X = x) (hx : x < 4294967296) :
    Calls Try.prog 103 #[.int .u32 X] w fun e w2 => ∃ v, e = .returned v ∧ (fun v w2 => v = .int .i64 ((32 - bitn x : Nat) : Int) ∧ w.grownBy w2 none) v w2 := by
  have hb := bitn_32 hx
  have hB := ext_refl w
  refine calls_of_W (vs := [.int .u32 X]) [2] Try.func103 rfl rfl rfl rfl ?_
  refine W.seq ?_
  refine W.region ?_
  refine WL.assign rfl rfl ?_
  refine WL.done ?_
  refine W.seq ?_
  refine W.region ?_
  refine WL.move rfl rfl ?_
  refine WL.call Try.func95 rfl Try.nm95 rfl rfl (Len32_c x (by omega) (by omega)) ?_
  rintro _ w11 ⟨rfl, hGw11⟩
  have hB := ext_trans hB hGw11
  refine WL.sub (r := ((32 - (bitn x) : Nat) : Int)) rfl rfl (wi64 (by omega) (by omega) (by omega)) rfl ?_
  refine WL.assign rfl rfl ?_
  refine WL.done ?_
  refine W.ret ?_
  refine ⟨_, rfl, ?_⟩
  exact ⟨rfl, hB⟩

theorem shl_c {w : World} {Ba : Nat} {Aa : Option Addr} {ma ca : Nat} {xa : List Nat} (ha : Rd Ba w 1 Aa ma ca (us xa)) (hLa : Lim xa) (u : Nat) {X : Int} (hX : X = u) (hs : u ≤ 31) (hsz : ma ≤ 1099511627776) :
    Calls Try.prog 104 #[.slice Aa ma ca, .int .i64 X] w fun e w2 => ∃ v, e = .returned v ∧ (fun v w2 => ∃ A2 m2 c2 ys, v = .slice A2 m2 c2 ∧ w.grownBy w2 none ∧ Own w.heap.size w2 43 1 A2 m2 c2 (us ys) ∧ Lim ys ∧ m2 = ma + 1 ∧ nv ys = nv xa * 2 ^ u) v w2 := by
  have ha := ha.norm
  have ha_l := ha.ulen
  have ha_x := ha.max
  simp only [maxLen] at ha_x
  have ha_c := ha.cap
  have ha0 := ha
  have hps : 2 ^ u ≤ 2147483648 := Nat.pow_le_pow_right (n := 2) (by decide) hs
  have hp0 := Nat.pow_pos (n := u) (show 0 < 2 by decide)
  have hB := ext_refl w
  refine calls_of_W (vs := [.slice Aa ma ca, .int .i64 X]) [4] Try.func104 rfl rfl rfl rfl ?_
  refine W.seq ?_
  refine W.region ?_
  refine WL.assign rfl rfl ?_
  refine WL.done ?_
  refine W.seq ?_
  refine W.region ?_
  refine WL.move rfl rfl ?_
  refine WL.len Try.underlying23 rfl rfl ?_
  refine WL.add (r := ((ma + 1 : Nat) : Int)) rfl rfl (wi64 (by omega) (by omega) (by omega)) rfl ?_
  refine WL.make (w.heap.size) (ma + 1) Try.underlying23 Try.el43 rfl rfl (by omega) (by omega) (by simp only [maxLen]; omega) (Nat.le_of_eq rfl) rfl ?_
  rintro A11 w12 - hz hGw12
  rw [made_us] at hz
  have hz := hz.low (b' := w.heap.size) hB.size
  have hB := ext_trans hB hGw12
  have ha := ha0.ext hB
  refine WL.assign rfl rfl ?_
  refine WL.done ?_
  refine W.seq ?_
  refine W.seq ?_
  refine W.region ?_
  refine WL.move rfl rfl ?_
  refine WL.len Try.underlying23 rfl rfl ?_
  refine WL.move rfl rfl ?_
  refine WL.done ?_
  refine W.block ?_
  refine W.loop (σ := Nat × List Nat × Option Addr × Nat) (fun s w1 => match s with | (i, zs, Ao, co) => w.grownBy w1 none ∧ i ≤ ma ∧ Lim zs ∧ zs.length = ma + 1 ∧ (∀ t, i < t → zs.getD t 0 = 0) ∧ zs.getD i 0 < 2 ^ u ∧ nv zs = nv (xa.take i) * 2 ^ u ∧ Own w.heap.size w1 43 1 Ao (ma + 1) co (us (zs))) (fun s => match s with | (i, zs, Ao, co) => [(0, .slice Aa ma ca), (1, .int .i64 X), (5, .slice Ao (ma + 1) co), (13, .slice Aa ma ca), (14, .int .i64 ((ma : Nat) : Int)), (15, .int .i64 ((i : Nat) : Int))]) (fun s => match s with | (i, zs, Ao, co) => ma - i) (0, List.replicate (ma + 1) 0, A11, ma + 1) ?_ ?_ ?_
  · exact ⟨hB, by omega, Lim.zeros _, by simp, fun t _ => zeros_getD _ _, by rw [zeros_getD]; exact hp0, by simp [nv_zeros], hz⟩
  · exact ⟨rfl, iv (by omega), rfl, rfl, iv (by omega), iv (by omega), trivial⟩
  · rintro ⟨i, zs, Ao, co⟩ w13 ⟨hB, hi, hLz, hlz, h0z, hpz, heq, ho⟩
    have ha := ha0.ext hB
    have hx := hLa.getD i
    have hrm := shl_room hx hs
    have hhi := hi_lt (s := u) hx
    refine W.seq ?_
    refine W.region ?_
    refine WL.lss rfl rfl rfl (fun c14 => ?_) (fun c14 => ?_)
    · refine WL.done ?_
      refine W.seq ?_
      refine W.condT rfl ?_
      refine W.skip ?_
      refine W.seq ?_
      refine W.block ?_
      refine W.seq ?_
      refine W.region ?_
      refine WL.move rfl rfl ?_
      refine WL.index1 (i) Try.underlying23 Try.el43 rfl rfl (by omega) (by omega) ha rfl ?_
      refine WL.load Try.underlying43 rfl rfl (Rd.at_ ha (us_at (by omega))) rfl ?_
      refine WL.assign rfl rfl ?_
      refine WL.assign rfl rfl ?_
      refine WL.done ?_
      refine W.seq ?_
      refine W.region ?_
      refine WL.move rfl rfl ?_
      refine WL.conv (r := ((xa.getD i 0 : Nat) : Int)) Try.underlying43 Try.underlying72 rfl (wu64 (by omega) (by omega) (by omega)) rfl ?_
      refine WL.move rfl rfl ?_
      refine WL.shl (r := ((xa.getD i 0 * 2 ^ u : Nat) : Int)) rfl rfl (by omega) (by rw [show IntKind.u64.bits = 64 from rfl, shl_nat (a := xa.getD i 0) (s := u) (by omega) (by omega) 64 (by omega)]; exact wu64 (by omega) (by omega) (by omega)) rfl ?_
      refine WL.assign rfl rfl ?_
      refine WL.done ?_
      refine W.seq ?_
      refine W.region ?_
      refine WL.move rfl rfl ?_
      refine WL.move rfl rfl ?_
      refine WL.index1 (i) Try.underlying23 Try.el43 rfl rfl (by omega) (by omega) ho.rd rfl ?_
      refine WL.load Try.underlying43 rfl rfl (Rd.at_ ho.rd (us_at (by omega))) rfl ?_
      refine WL.move rfl rfl ?_
      refine WL.conv (r := (((xa.getD i 0 * 2 ^ u) % 4294967296 : Nat) : Int)) Try.underlying72 Try.underlying43 rfl (wu32m (by omega)) rfl ?_
      refine WL.bits (r := ((zs.getD i 0 + (xa.getD i 0 * 2 ^ u) % 4294967296 : Nat) : Int)) rfl rfl (.inr (.inl rfl)) (or_low hs hpz) rfl ?_
      refine WL.index1 (i) Try.underlying23 Try.el43 rfl rfl (by omega) (by omega) ho.rd rfl ?_
      refine WL.store Try.el43 rfl rfl rfl (by omega) ho ?_
      have hOld16 := ho
      intro w15 ho hGw15
      change Own _ _ _ _ _ _ _ ((us zs).set i (.int .u32 ((zs.getD i 0 + (xa.getD i 0 * 2 ^ u) % 4294967296 : Nat) : Int))) at ho
      rw [us_set] at ho
      have hB := ext_own hB hGw15 (fun g hg => (hOld16.bl_ge g hg).1)
      have := ho.rd.ulen
      refine WL.done ?_
      refine W.region ?_
      refine WL.move rfl rfl ?_
      refine WL.move rfl rfl ?_
      refine WL.add (r := ((i + 1 : Nat) : Int)) rfl rfl (wi64 (by omega) (by omega) (by omega)) rfl ?_
      refine WL.move rfl rfl ?_
      refine WL.shr (r := (((xa.getD i 0 * 2 ^ u) / 4294967296 : Nat) : Int)) rfl rfl (by omega) (shr_nat (a := xa.getD i 0 * 2 ^ u) (s := 32) (by omega) (by omega) 64 (by omega)) rfl ?_
      refine WL.conv (r := (((xa.getD i 0 * 2 ^ u) / 4294967296 : Nat) : Int)) Try.underlying72 Try.underlying43 rfl (wu32 (by omega) (by omega) (by omega)) rfl ?_
      refine WL.index1 (i + 1) Try.underlying23 Try.el43 rfl rfl (by omega) (by omega) ho.rd rfl ?_
      refine WL.store Try.el43 rfl rfl rfl (by omega) ho ?_
      have hOld18 := ho
      intro w17 ho hGw17
      change Own _ _ _ _ _ _ _ ((us (zs.set i (zs.getD i 0 + (xa.getD i 0 * 2 ^ u) % 4294967296))).set (i + 1) (.int .u32 (((xa.getD i 0 * 2 ^ u) / 4294967296 : Nat) : Int))) at ho
      rw [us_set] at ho
      have hB := ext_own hB hGw17 (fun g hg => (hOld18.bl_ge g hg).1)
      have := ho.rd.ulen
      refine WL.done ?_
      refine W.region ?_
      refine WL.add (r := ((i + 1 : Nat) : Int)) rfl rfl (wi64 (by omega) (by omega) (by omega)) rfl ?_
      refine WL.move rfl rfl ?_
      refine WL.done ?_
      refine ⟨(i + 1, (zs.set i (zs.getD i 0 + (xa.getD i 0 * 2 ^ u) % 4294967296)).set (i + 1) (xa.getD i 0 * 2 ^ u / 4294967296), Ao, co), ⟨rfl, iv (by omega), rfl, rfl, iv (by omega), iv (by omega), trivial⟩, by (dsimp only; omega), ?_⟩
      have hlt : zs.getD i 0 + (xa.getD i 0 * 2 ^ u) % 4294967296 < 4294967296 := lowsum hs hpz
      exact ⟨hB, by omega, (hLz.set _ hlt).set _ (by omega), by simp [hlz], fun t ht => by rw [getD_set_ne (by omega), getD_set_ne (by omega)]; exact h0z t (by omega), by rw [getD_set_eq (by simp; omega)]; exact hhi, shl_step (by omega) rfl (h0z _ (by omega)) heq rfl, ho⟩
    · refine WL.done ?_
      refine W.seq ?_
      refine W.condF rfl ?_
      refine W.exit ?_
      refine W.seq ?_
      refine W.region ?_
      refine WL.move rfl rfl ?_
      refine WL.assign rfl rfl ?_
      refine WL.done ?_
      refine W.ret ?_
      refine ⟨_, rfl, ?_⟩
      obtain rfl : i = ma := by omega
      rw [nv_take_all (by omega)] at heq
      exact ⟨_, _, _, _, rfl, hB, ho, hLz, rfl, heq⟩

theorem shr_c {w : World} {b0 : Nat} {Aa : Option Addr} {ma ca : Nat} {xa : List Nat} (ho : Own b0 w 43 1 Aa ma ca (us xa)) (hLa : Lim xa) (hsz : ma ≤ 1099511627776) (u : Nat) {X : Int} (hX : X = u) (hs : u ≤ 31) :
    Calls Try.prog 108 #[.slice Aa ma ca, .int .i64 X] w fun e w2 => ∃ v, e = .returned v ∧ (fun _ w2 => ∃ ys, w.grownBy w2 (bl Aa) ∧ Own b0 w2 43 1 Aa ma ca (us ys) ∧ Lim ys ∧ ys.length = ma ∧ nv ys = nv xa / 2 ^ u) v w2 := by
  have ho_l := ho.rd.ulen
  have ho_x := ho.rd.max
  simp only [maxLen] at ho_x
  have ho_c := ho.rd.cap
  have hB := World.grownBy.refl w (bl Aa)
  refine calls_of_W (vs := [.slice Aa ma ca, .int .i64 X]) [] Try.func108 rfl rfl rfl rfl ?_
  refine W.seq ?_
  refine W.region ?_
  refine WL.move rfl rfl ?_
  refine WL.len Try.underlying23 rfl rfl ?_
  refine WL.move rfl rfl ?_
  refine WL.done ?_
  refine W.block ?_
  refine W.loop (σ := Nat × List Nat) (fun s w1 => match s with | (i, zs) => w.grownBy w1 (bl Aa) ∧ i ≤ ma ∧ Lim zs ∧ zs.length = ma ∧ (∀ t, i ≤ t → zs.getD t 0 = xa.getD t 0) ∧ nv (zs.take i) = nv xa / 2 ^ u % 4294967296 ^ i ∧ Own b0 w1 43 1 Aa ma ca (us (zs))) (fun s => match s with | (i, zs) => [(0, .slice Aa ma ca), (1, .int .i64 X), (6, .slice Aa ma ca), (7, .int .i64 ((ma : Nat) : Int)), (8, .int .i64 ((i : Nat) : Int))]) (fun s => match s with | (i, zs) => ma - i) (0, xa) ?_ ?_ ?_
  · exact ⟨hB, by omega, hLa, by omega, fun _ _ => rfl, by simp [Nat.mod_one], ho⟩
  · exact ⟨rfl, iv (by omega), rfl, iv (by omega), iv (by omega), trivial⟩
  · rintro ⟨i, zs⟩ w11 ⟨hB, hi, hLz, hlz, hsame, heq, ho⟩
    have hx := hLz.getD i
    have hy := hLz.getD (i + 1)
    refine W.seq ?_
    refine W.region ?_
    refine WL.lss rfl rfl rfl (fun c12 => ?_) (fun c12 => ?_)
    · refine WL.done ?_
      refine W.seq ?_
      refine W.condT rfl ?_
      refine W.skip ?_
      refine W.seq ?_
      refine W.block ?_
      refine W.seq ?_
      refine W.region ?_
      refine WL.move rfl rfl ?_
      refine WL.assign rfl rfl ?_
      refine WL.done ?_
      refine W.seq ?_
      refine W.draw [⟨[], [0], true⟩, ⟨[], [4], true⟩, ⟨[1], [], true⟩, ⟨[0, 2], [], false⟩, ⟨[3], [], true⟩, ⟨[4], [], true⟩, ⟨[], [0], true⟩, ⟨[], [4], true⟩, ⟨[6, 7], [], true⟩, ⟨[8], [], false⟩, ⟨[9], [], true⟩, ⟨[5, 10], [], true⟩, ⟨[11], [], true⟩] [[(0, .slice Aa ma ca)], [(4, .int .i64 ((i : Nat) : Int))], [], [], [], [], [(0, .slice Aa ma ca)], [(4, .int .i64 ((i : Nat) : Int))], [], [], [], [], []] (fun iQ => [fun v _ => v = .slice Aa ma ca, fun v _ => v = .int .i64 ((i : Nat) : Int), fun v _ => v = .int .i64 ((i + 1 : Nat) : Int), fun v _ => v = .int .u32 ((zs.getD (i + 1) 0 : Nat) : Int), fun v _ => v = .int .u64 ((zs.getD (i + 1) 0 : Nat) : Int), fun v _ => v = .int .u64 ((zs.getD (i + 1) 0 * 4294967296 : Nat) : Int), fun v _ => v = .slice Aa ma ca, fun v _ => v = .int .i64 ((i : Nat) : Int), fun v _ => v = .pointer (some ((adOf Aa).add i)), fun v _ => v = .int .u32 ((zs.getD i 0 : Nat) : Int), fun v _ => v = .int .u64 ((zs.getD i 0 : Nat) : Int), fun v _ => v = .int .u64 ((zs.getD i 0 + 4294967296 * zs.getD (i + 1) 0 : Nat) : Int), fun v _ => v = .int .u64 ((zs.getD i 0 + 4294967296 * zs.getD (i + 1) 0 : Nat) : Int)].getD iQ (fun _ _ => True)) (fun _ => True) 13 Try.mixed (by kernel_rfl) ?_ ?_ ?_
      · refine Vs_mono _ ?_
        intro VQ hVQ vQ wQ1 wQ2 hQ1 hQ2
        simp only [List.mem_cons, List.not_mem_nil, or_false] at hVQ
        rcases hVQ with rfl | rfl | rfl | rfl | rfl | rfl | rfl | rfl | rfl | rfl | rfl | rfl | rfl <;> exact hQ1
      · refine ⟨⟨rfl, ⟨rfl, trivial⟩, ?_⟩, ⟨rfl, ⟨rfl, trivial⟩, ?_⟩, ⟨rfl, trivial, ?_⟩, ⟨rfl, trivial, ?_⟩, ⟨rfl, trivial, ?_⟩, ⟨rfl, trivial, ?_⟩, ⟨rfl, ⟨rfl, trivial⟩, ?_⟩, ⟨rfl, ⟨rfl, trivial⟩, ?_⟩, ⟨rfl, trivial, ?_⟩, ⟨rfl, trivial, ?_⟩, ⟨rfl, trivial, ?_⟩, ⟨rfl, trivial, ?_⟩, ⟨rfl, trivial, ?_⟩, trivial⟩
        · intro w13 hE
          intro R
          refine WL.move rfl rfl ?_
          exact WL.done ⟨_, rfl, rfl, rfl⟩
        · intro w14 hE
          intro R
          refine WL.move rfl rfl ?_
          exact WL.done ⟨_, rfl, rfl, rfl⟩
        · intro w15 hE
          rintro _ rfl
          intro R
          refine WL.add (r := ((i + 1 : Nat) : Int)) rfl rfl (wi64 (by omega) (by omega) (by omega)) rfl ?_
          exact WL.done ⟨_, rfl, rfl, rfl⟩
        · intro w16 hE
          have hE := hE rfl
          have hB := row_ext hB hE
          have ho := ho.ext hE
          rintro _ rfl
          rintro _ rfl
          intro R
          refine WL.call Try.func79 rfl Try.nm79 rfl rfl (limbAt_c ho.rd (i + 1) (by omega)) ?_
          rintro _ w17 ⟨rfl, hGw17⟩
          have hB := row_ext hB hGw17
          exact WL.done ⟨_, rfl, hGw17, rfl⟩
        · intro w18 hE
          rintro _ rfl
          intro R
          refine WL.conv (r := ((zs.getD (i + 1) 0 : Nat) : Int)) Try.underlying43 Try.underlying72 rfl (wu64 (by omega) (by omega) (by omega)) rfl ?_
          exact WL.done ⟨_, rfl, rfl, rfl⟩
        · intro w19 hE
          rintro _ rfl
          intro R
          refine WL.shl (r := ((zs.getD (i + 1) 0 * 4294967296 : Nat) : Int)) rfl rfl (by omega) (by rw [show IntKind.u64.bits = 64 from rfl, shl_nat (a := zs.getD (i + 1) 0) (s := 32) (by omega) (by omega) 64 (by omega)]; exact wu64 (by omega) (by omega) (by omega)) rfl ?_
          exact WL.done ⟨_, rfl, rfl, rfl⟩
        · intro w20 hE
          intro R
          refine WL.move rfl rfl ?_
          exact WL.done ⟨_, rfl, rfl, rfl⟩
        · intro w21 hE
          intro R
          refine WL.move rfl rfl ?_
          exact WL.done ⟨_, rfl, rfl, rfl⟩
        · intro w22 hE
          rintro _ rfl
          rintro _ rfl
          intro R
          refine WL.index1 (i) Try.underlying23 Try.el43 rfl rfl (by omega) (by omega) ho.rd rfl ?_
          exact WL.done ⟨_, rfl, rfl, rfl⟩
        · intro w23 hE
          have hE := hE rfl
          have hB := row_ext hB hE
          have ho := ho.ext hE
          rintro _ rfl
          intro R
          refine WL.load Try.underlying43 rfl rfl (Rd.at_ ho.rd (us_at (by omega))) rfl ?_
          exact WL.done ⟨_, rfl, ext_refl _, rfl⟩
        · intro w24 hE
          rintro _ rfl
          intro R
          refine WL.conv (r := ((zs.getD i 0 : Nat) : Int)) Try.underlying43 Try.underlying72 rfl (wu64 (by omega) (by omega) (by omega)) rfl ?_
          exact WL.done ⟨_, rfl, rfl, rfl⟩
        · intro w25 hE
          rintro _ rfl
          rintro _ rfl
          intro R
          refine WL.bits (r := ((zs.getD i 0 + 4294967296 * zs.getD (i + 1) 0 : Nat) : Int)) rfl rfl (.inr (.inl rfl)) (or64 rfl rfl hy hx) rfl ?_
          exact WL.done ⟨_, rfl, rfl, rfl⟩
        · intro w26 hE
          rintro _ rfl
          intro R
          refine WL.assign rfl rfl ?_
          exact WL.done ⟨_, rfl, rfl, rfl⟩
      · intro vals w27 hT hVs
        rw [if_neg (by decide)] at hT
        have hB := row_ext hB hT
        have ho := ho.ext hT
        have hv0 : vals 0 = _ := hVs 0 (by decide) (by decide)
        have hv1 : vals 1 = _ := hVs 1 (by decide) (by decide)
        have hv2 : vals 2 = _ := hVs 2 (by decide) (by decide)
        have hv3 : vals 3 = _ := hVs 3 (by decide) (by decide)
        have hv4 : vals 4 = _ := hVs 4 (by decide) (by decide)
        have hv5 : vals 5 = _ := hVs 5 (by decide) (by decide)
        have hv6 : vals 6 = _ := hVs 6 (by decide) (by decide)
        have hv7 : vals 7 = _ := hVs 7 (by decide) (by decide)
        have hv8 : vals 8 = _ := hVs 8 (by decide) (by decide)
        have hv9 : vals 9 = _ := hVs 9 (by decide) (by decide)
        have hv10 : vals 10 = _ := hVs 10 (by decide) (by decide)
        have hv11 : vals 11 = _ := hVs 11 (by decide) (by decide)
        have hv12 : vals 12 = _ := hVs 12 (by decide) (by decide)
        rw [show (List.filterMap (fun i => Option.map (fun t => (t, vals i)) (dstAt _ i)) (List.range _)) = [(11, .slice Aa ma ca), (12, .int .i64 ((i : Nat) : Int)), (13, .int .i64 ((i + 1 : Nat) : Int)), (14, .int .u32 ((zs.getD (i + 1) 0 : Nat) : Int)), (15, .int .u64 ((zs.getD (i + 1) 0 : Nat) : Int)), (16, .int .u64 ((zs.getD (i + 1) 0 * 4294967296 : Nat) : Int)), (17, .slice Aa ma ca), (18, .int .i64 ((i : Nat) : Int)), (19, .pointer (some ((adOf Aa).add i))), (20, .int .u32 ((zs.getD i 0 : Nat) : Int)), (21, .int .u64 ((zs.getD i 0 : Nat) : Int)), (22, .int .u64 ((zs.getD i 0 + 4294967296 * zs.getD (i + 1) 0 : Nat) : Int)), (5, .int .u64 ((zs.getD i 0 + 4294967296 * zs.getD (i + 1) 0 : Nat) : Int))] from by
          show [(11, vals 0), (12, vals 1), (13, vals 2), (14, vals 3), (15, vals 4), (16, vals 5), (17, vals 6), (18, vals 7), (19, vals 8), (20, vals 9), (21, vals 10), (22, vals 11), (5, vals 12)] = _
          rw [hv0, hv1, hv2, hv3, hv4, hv5, hv6, hv7, hv8, hv9, hv10, hv11, hv12]]
        refine W.region ?_
        refine WL.move rfl rfl ?_
        refine WL.move rfl rfl ?_
        refine WL.move rfl rfl ?_
        refine WL.move rfl rfl ?_
        refine WL.shr (r := (((zs.getD i 0 + 4294967296 * zs.getD (i + 1) 0) / 2 ^ u : Nat) : Int)) rfl rfl (by omega) (shr_nat (a := zs.getD i 0 + 4294967296 * zs.getD (i + 1) 0) (s := u) (by omega) (by omega) 64 (by omega)) rfl ?_
        refine WL.conv (r := (((zs.getD i 0 + 4294967296 * zs.getD (i + 1) 0) / 2 ^ u % 4294967296 : Nat) : Int)) Try.underlying72 Try.underlying43 rfl (wu32m (by omega)) rfl ?_
        refine WL.index1 (i) Try.underlying23 Try.el43 rfl rfl (by omega) (by omega) ho.rd rfl ?_
        refine WL.store Try.el43 rfl rfl rfl (by omega) ho ?_
        have hOld29 := ho
        intro w28 ho hGw28
        change Own _ _ _ _ _ _ _ ((us zs).set i (.int .u32 (((zs.getD i 0 + 4294967296 * zs.getD (i + 1) 0) / 2 ^ u % 4294967296 : Nat) : Int))) at ho
        rw [us_set] at ho
        have hB := row_own hB hGw28
        have := ho.rd.ulen
        refine WL.done ?_
        refine W.region ?_
        refine WL.add (r := ((i + 1 : Nat) : Int)) rfl rfl (wi64 (by omega) (by omega) (by omega)) rfl ?_
        refine WL.move rfl rfl ?_
        refine WL.done ?_
        refine ⟨(i + 1, zs.set i ((zs.getD i 0 + 4294967296 * zs.getD (i + 1) 0) / 2 ^ u % 4294967296)), ⟨rfl, iv (by omega), rfl, iv (by omega), iv (by omega), trivial⟩, by (dsimp only; omega), ?_⟩
        exact ⟨hB, by omega, hLz.set _ (Nat.mod_lt _ (by decide)), by simp [hlz], fun t ht => by rw [getD_set_ne (by omega)]; exact hsame t (by omega), shr_step hs (by omega) heq (hsame i (by omega)).symm (hsame (i + 1) (by omega)).symm hLa, ho⟩
    · refine WL.done ?_
      refine W.seq ?_
      refine W.condF rfl ?_
      refine W.exit ?_
      refine ⟨_, rfl, ?_⟩
      obtain rfl : i = ma := by omega
      rw [nv_take_all (by omega), Nat.mod_eq_of_lt (Nat.lt_of_le_of_lt (Nat.div_le_self _ _) (by have := nv_lt hLa; rwa [show xa.length = i by omega] at this))] at heq
      exact ⟨_, hB, ho, hLz, hlz, heq⟩

theorem subm_c {w : World} {b0 : Nat} {Ar : Option Addr} {mr cr : Nat} {xr : List Nat} (ho : Own b0 w 43 1 Ar mr cr (us xr)) (hLr : Lim xr) (o n : Nat) {cw : Nat} {Bb : Nat} {Ab : Option Addr} {cb : Nat} {xb : List Nat} (hb : Rd Bb w 1 Ab n cb (us xb)) (hLb : Lim xb) (hrow : ∀ g, bl Ar = some g → Bb ≤ g) (hon : o + n + 1 ≤ mr) (hsz : mr ≤ 1099511627776) (q : Nat) {Q : Int} (hQ : Q = q) (hq : q < 4294967296) :
    Calls Try.prog 106 #[.slice (Ar.map (·.add o)) (n + 1) cw, .slice Ab n cb, .int .u32 Q] w fun e w2 => ∃ v, e = .returned v ∧ (fun v w2 => ∃ ys b, v = .bool b ∧ w.grownBy w2 (bl Ar) ∧ Own b0 w2 43 1 Ar mr cr (us ys) ∧ Lim ys ∧ ys.length = mr ∧ (∀ t, (t < o ∨ o + n + 1 ≤ t) → ys.getD t 0 = xr.getD t 0) ∧ nv ys + 4294967296 ^ o * (q * nv xb) = nv xr + 4294967296 ^ (o + (n + 1)) * (if b = true then 1 else 0)) v w2 := by
  have ho_l := ho.rd.ulen
  have hb_l := hb.ulen
  have hb_x := hb.max
  simp only [maxLen] at hb_x
  have hb_c := hb.cap
  have hb0 := hb
  have hB := World.grownBy.refl w (bl Ar)
  refine calls_of_W (vs := [.slice (Ar.map (·.add o)) (n + 1) cw, .slice Ab n cb, .int .u32 Q]) [6] Try.func106 rfl rfl rfl rfl ?_
  refine W.seq ?_
  refine W.region ?_
  refine WL.assign rfl rfl ?_
  refine WL.done ?_
  refine W.seq ?_
  refine W.region ?_
  refine WL.assign rfl rfl ?_
  refine WL.assign rfl rfl ?_
  refine WL.done ?_
  refine W.seq ?_
  refine W.seq ?_
  refine W.region ?_
  refine WL.move rfl rfl ?_
  refine WL.len Try.underlying23 rfl rfl ?_
  refine WL.move rfl rfl ?_
  refine WL.done ?_
  refine W.block ?_
  refine W.loop (σ := Nat × Nat × Nat × List Nat) (fun s w1 => match s with | (i, c, e, zs) => w.grownBy w1 (bl Ar) ∧ i ≤ n ∧ c < 4294967296 ∧ e ≤ 1 ∧ Lim zs ∧ zs.length = mr ∧ (∀ t, (t < o ∨ o + i ≤ t) → zs.getD t 0 = xr.getD t 0) ∧ nv zs + 4294967296 ^ o * (q * nv (xb.take i)) = nv xr + 4294967296 ^ (o + i) * (c + e) ∧ Own b0 w1 43 1 Ar mr cr (us (zs))) (fun s => match s with | (i, c, e, zs) => [(0, .slice (Ar.map (·.add o)) (n + 1) cw), (1, .slice Ab n cb), (2, .int .u32 Q), (7, .int .u64 ((c : Nat) : Int)), (8, .int .u32 ((e : Nat) : Int)), (12, .slice Ab n cb), (13, .int .i64 ((n : Nat) : Int)), (14, .int .i64 ((i : Nat) : Int))]) (fun s => match s with | (i, c, e, zs) => n - i) (0, 0, 0, xr) ?_ ?_ ?_
  · exact ⟨hB, by omega, by omega, by omega, hLr, by omega, fun _ _ => rfl, by simp, ho⟩
  · exact ⟨rfl, rfl, iv (by omega), iv (by omega), iv (by omega), rfl, iv (by omega), iv (by omega), trivial⟩
  · rintro ⟨i, c, e, zs⟩ w11 ⟨hB, hi, hc, he, hLz, hlz, hsame, heq, ho⟩
    have hb := hb0.grown hB hrow
    have hz := hLz.getD (o + i)
    have hzn := hLz.getD (o + n)
    have hxb := hLb.getD i
    have hm0 := mul_lim0 hq hxb
    have hm1 := mul_lim hq hxb (show 0 < 4294967296 by decide) hc
    refine W.seq ?_
    refine W.region ?_
    refine WL.lss rfl rfl rfl (fun c12 => ?_) (fun c12 => ?_)
    · refine WL.done ?_
      refine W.seq ?_
      refine W.condT rfl ?_
      refine W.skip ?_
      refine W.seq ?_
      refine W.block ?_
      refine W.seq ?_
      refine W.region ?_
      refine WL.move rfl rfl ?_
      refine WL.index1 (i) Try.underlying23 Try.el43 rfl rfl (by omega) (by omega) hb rfl ?_
      refine WL.load Try.underlying43 rfl rfl (Rd.at_ hb (us_at (by omega))) rfl ?_
      refine WL.assign rfl rfl ?_
      refine WL.assign rfl rfl ?_
      refine WL.done ?_
      refine W.seq ?_
      refine W.region ?_
      refine WL.move rfl rfl ?_
      refine WL.move rfl rfl ?_
      refine WL.conv (r := Q) Try.underlying43 Try.underlying72 rfl (wu64 (by omega) (by omega) (by omega)) rfl ?_
      refine WL.move rfl rfl ?_
      refine WL.conv (r := ((xb.getD i 0 : Nat) : Int)) Try.underlying43 Try.underlying72 rfl (wu64 (by omega) (by omega) (by omega)) rfl ?_
      refine WL.mul (r := ((q * (xb.getD i 0) : Nat) : Int)) rfl rfl (by subst hQ; rw [← Int.natCast_mul]; exact wu64 (by omega) (by omega) rfl) rfl ?_
      refine WL.add (r := ((c + (q * (xb.getD i 0)) : Nat) : Int)) rfl rfl (wu64 (by omega) (by omega) (by omega)) rfl ?_
      refine WL.assign rfl rfl ?_
      refine WL.done ?_
      refine W.seq ?_
      refine W.region ?_
      refine WL.move rfl rfl ?_
      refine WL.move rfl rfl ?_
      refine WL.move rfl rfl ?_
      refine WL.move rfl rfl ?_
      refine WL.indexW (o) (i) Try.underlying23 Try.el43 rfl rfl (by omega) (by omega) ho.rd (by omega) rfl ?_
      refine WL.load Try.underlying43 rfl rfl (Rd.at_ ho.rd (us_at (by omega))) rfl ?_
      refine WL.move rfl rfl ?_
      refine WL.conv (r := (((c + q * xb.getD i 0) % 4294967296 : Nat) : Int)) Try.underlying72 Try.underlying43 rfl (wu32m (by omega)) rfl ?_
      refine WL.move rfl rfl ?_
      refine WL.call Try.func100 rfl Try.nm100 rfl rfl (Sub32_c (zs.getD (o + i) 0) ((c + q * xb.getD i 0) % 4294967296) e (by omega) (by omega) (by omega) (by omega) (by omega) (by omega)) ?_
      rintro _ w13 ⟨rfl, hGw13⟩
      have hB := row_ext hB hGw13
      have ho := ho.ext hGw13
      refine WL.move rfl rfl ?_
      refine WL.extract rfl rfl rfl ?_
      refine WL.extract rfl rfl rfl ?_
      refine WL.indexW (o) (i) Try.underlying23 Try.el43 rfl rfl (by omega) (by omega) ho.rd (by omega) rfl ?_
      refine WL.store Try.el43 rfl rfl rfl (by omega) ho ?_
      have hOld15 := ho
      intro w14 ho hGw14
      change Own _ _ _ _ _ _ _ ((us zs).set (o + i) (.int .u32 (((zs.getD (o + i) 0 + 8589934592 - (c + q * xb.getD i 0) % 4294967296 - e) % 4294967296 : Nat) : Int))) at ho
      rw [us_set] at ho
      have hB := row_own hB hGw14
      have := ho.rd.ulen
      refine WL.assign rfl rfl ?_
      refine WL.done ?_
      refine W.region ?_
      refine WL.move rfl rfl ?_
      refine WL.shr (r := (((c + (q * (xb.getD i 0))) / 4294967296 : Nat) : Int)) rfl rfl (by omega) (shr_nat (a := c + (q * (xb.getD i 0))) (s := 32) (by omega) (by omega) 64 (by omega)) rfl ?_
      refine WL.assign rfl rfl ?_
      refine WL.done ?_
      refine W.region ?_
      refine WL.add (r := ((i + 1 : Nat) : Int)) rfl rfl (wi64 (by omega) (by omega) (by omega)) rfl ?_
      refine WL.move rfl rfl ?_
      refine WL.done ?_
      refine ⟨(i + 1, (c + q * xb.getD i 0) / 4294967296, if zs.getD (o + i) 0 < (c + q * xb.getD i 0) % 4294967296 + e then 1 else 0, zs.set (o + i) ((zs.getD (o + i) 0 + 8589934592 - (c + q * xb.getD i 0) % 4294967296 - e) % 4294967296)), ⟨rfl, rfl, iv (by omega), iv (by omega), iv (by omega), rfl, iv (by omega), iv (by omega), trivial⟩, by (dsimp only; omega), ?_⟩
      have hv : (zs.getD (o + i) 0 + 8589934592 - (c + q * xb.getD i 0) % 4294967296 - e) % 4294967296 + (c + q * xb.getD i 0) % 4294967296 + e = zs.getD (o + i) 0 + 4294967296 * (if zs.getD (o + i) 0 < (c + q * xb.getD i 0) % 4294967296 + e then 1 else 0) := by split <;> omega
      exact ⟨hB, by omega, by omega, by split <;> omega, hLz.set _ (Nat.mod_lt _ (by decide)), by simp [hlz], fun t ht => by rw [getD_set_ne (by omega)]; exact hsame t (by omega), by rw [nv_take_succ]; exact subm_step (by omega) rfl heq (by omega) hv, ho⟩
    · refine WL.done ?_
      refine W.seq ?_
      refine W.condF rfl ?_
      refine W.exit ?_
      refine W.seq ?_
      refine W.region ?_
      refine WL.move rfl rfl ?_
      refine WL.len Try.underlying23 rfl rfl ?_
      refine WL.assign rfl rfl ?_
      refine WL.done ?_
      refine W.seq ?_
      refine W.region ?_
      refine WL.move rfl rfl ?_
      refine WL.move rfl rfl ?_
      refine WL.move rfl rfl ?_
      refine WL.move rfl rfl ?_
      refine WL.indexW (o) (n) Try.underlying23 Try.el43 rfl rfl (by omega) (by omega) ho.rd (by omega) rfl ?_
      refine WL.load Try.underlying43 rfl rfl (Rd.at_ ho.rd (us_at (by omega))) rfl ?_
      refine WL.move rfl rfl ?_
      refine WL.conv (r := ((c : Nat) : Int)) Try.underlying72 Try.underlying43 rfl (wu32 (by omega) (by omega) (by omega)) rfl ?_
      refine WL.move rfl rfl ?_
      refine WL.call Try.func100 rfl Try.nm100 rfl rfl (Sub32_c (zs.getD (o + n) 0) c e (by omega) (by omega) (by omega) (by omega) (by omega) (by omega)) ?_
      rintro _ w16 ⟨rfl, hGw16⟩
      have hB := row_ext hB hGw16
      have ho := ho.ext hGw16
      refine WL.move rfl rfl ?_
      refine WL.extract rfl rfl rfl ?_
      refine WL.extract rfl rfl rfl ?_
      refine WL.indexW (o) (n) Try.underlying23 Try.el43 rfl rfl (by omega) (by omega) ho.rd (by omega) rfl ?_
      refine WL.store Try.el43 rfl rfl rfl (by omega) ho ?_
      have hOld18 := ho
      intro w17 ho hGw17
      change Own _ _ _ _ _ _ _ ((us zs).set (o + n) (.int .u32 (((zs.getD (o + n) 0 + 8589934592 - c - e) % 4294967296 : Nat) : Int))) at ho
      rw [us_set] at ho
      have hB := row_own hB hGw17
      have := ho.rd.ulen
      refine WL.assign rfl rfl ?_
      refine WL.done ?_
      refine W.seq ?_
      refine W.region ?_
      refine WL.move rfl rfl ?_
      refine WL.neq rfl rfl rfl (fun c19 => ?_) (fun c19 => ?_)
      · refine WL.assign rfl rfl ?_
        refine WL.done ?_
        refine W.ret ?_
        refine ⟨_, rfl, ?_⟩
        obtain rfl : i = n := by omega
        rw [nv_take_all (by omega)] at heq
        have hv : (zs.getD (o + i) 0 + 8589934592 - c - e) % 4294967296 + c + e = zs.getD (o + i) 0 + 4294967296 * (if zs.getD (o + i) 0 < c + e then 1 else 0) := by split <;> omega
        have hst := subm_step (l := 0) (lo := c) (hi := 0) (by omega) rfl heq (by omega) hv
        rw [Nat.mul_zero, Nat.add_zero, Nat.zero_add] at hst
        have hS : ∀ t, (t < o ∨ o + i + 1 ≤ t) → (zs.set (o + i) ((zs.getD (o + i) 0 + 8589934592 - c - e) % 4294967296)).getD t 0 = xr.getD t 0 := fun t ht => by rw [getD_set_ne (by omega)]; exact hsame t (by omega)
        rw [if_pos (by omega)] at hst
        exact ⟨_, true, rfl, hB, ho, hLz.set _ (Nat.mod_lt _ (by decide)), by simp [hlz], hS, hst⟩
      · refine WL.assign rfl rfl ?_
        refine WL.done ?_
        refine W.ret ?_
        refine ⟨_, rfl, ?_⟩
        obtain rfl : i = n := by omega
        rw [nv_take_all (by omega)] at heq
        have hv : (zs.getD (o + i) 0 + 8589934592 - c - e) % 4294967296 + c + e = zs.getD (o + i) 0 + 4294967296 * (if zs.getD (o + i) 0 < c + e then 1 else 0) := by split <;> omega
        have hst := subm_step (l := 0) (lo := c) (hi := 0) (by omega) rfl heq (by omega) hv
        rw [Nat.mul_zero, Nat.add_zero, Nat.zero_add] at hst
        have hS : ∀ t, (t < o ∨ o + i + 1 ≤ t) → (zs.set (o + i) ((zs.getD (o + i) 0 + 8589934592 - c - e) % 4294967296)).getD t 0 = xr.getD t 0 := fun t ht => by rw [getD_set_ne (by omega)]; exact hsame t (by omega)
        rw [if_neg (by omega)] at hst
        exact ⟨_, false, rfl, hB, ho, hLz.set _ (Nat.mod_lt _ (by decide)), by simp [hlz], hS, hst⟩
end Go.Proofs.Ythfpcebcfjlkmab
