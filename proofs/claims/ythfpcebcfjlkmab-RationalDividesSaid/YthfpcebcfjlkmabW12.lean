/- Contracts of functions of the program, and what they lean on. -/
import Derived.Test.YthfpcebcfjlkmabW11
import Derived.Test.YthfpcebcfjlkmabWin
set_option linter.unusedSimpArgs false
set_option linter.unusedVariables false
namespace Go.Proofs.Ythfpcebcfjlkmab
open Go.RowKit
theorem LZ_c {w : World} (x : Nat) {X : Int} (hX : X = x) (hx : x < 4294967296) :
    Calls Try.prog 103 #[.int .u32 X] w fun e w2 => ∃ v, e = .returned v ∧ (fun v w2 => v = .int .i64 ((32 - bitn x : Nat) : Int) ∧ w.grownBy w2 none) v w2 := by
  have hb := bitn_32 hx
  have hB := ext_refl w
  refine calls_of_W (vs := [.int .u32 X]) [2] Try.func103 rfl rfl rfl rfl ?_
  refine W.seq ?_
  refine W.region ?_
  refine WL.assign rfl rfl ?_
  refine WL.done ?_
  refine W.seq ?_
  refine W.region ?_
  refine WL.move rfl rfl ?_
  refine WL.call Try.func95 rfl Try.nm95 rfl rfl (Len32_c x (by omega) (by omega)) ?_
  rintro _ w11 ⟨rfl, hGw11⟩
  have hB := ext_trans hB hGw11
  refine WL.sub (r := ((32 - (bitn x) : Nat) : Int)) rfl rfl (wi64 (by omega) (by omega) (by omega)) rfl ?_
  refine WL.assign rfl rfl ?_
  refine WL.done ?_
  refine W.ret ?_
  refine ⟨_, rfl, ?_⟩
  exact ⟨rfl, hB⟩

theorem shl_c {w : World} {Ba : Nat} {Aa : Option Addr} {ma ca : Nat} {xa : List Nat} (ha : Rd Ba w 1 Aa ma ca (us xa)) (hLa : Lim xa) (u : Nat) {X : Int} (hX : X = u) (hs : u ≤ 31) (hsz : ma ≤ 1099511627776) :
    Calls Try.prog 104 #[.slice Aa ma ca, .int .i64 X] w fun e w2 => ∃ v, e = .returned v ∧ (fun v w2 => ∃ A2 m2 c2 ys, v = .slice A2 m2 c2 ∧ w.grownBy w2 none ∧ Own w.heap.size w2 43 1 A2 m2 c2 (us ys) ∧ Lim ys ∧ m2 = ma + 1 ∧ nv ys = nv xa * 2 ^ u) v w2 := by
  have ha := ha.norm
  have ha_l := ha.ulen
  have ha_x := ha.max
  simp only [maxLen] at ha_x
  have ha_c := ha.cap
  have ha0 := ha
  have hps : 2 ^ u ≤ 2147483648 := Nat.pow_le_pow_right (n := 2) (by decide) hs
  have hp0 := Nat.pow_pos (n := u) (show 0 < 2 by decide)
  have hB := ext_refl w
  refine calls_of_W (vs := [.slice Aa ma ca, .int .i64 X]) [4] Try.func104 rfl rfl rfl rfl ?_
  refine W.seq ?_
  refine W.region ?_
  refine WL.assign rfl rfl ?_
  refine WL.done ?_
  refine W.seq ?_
  refine W.region ?_
  refine WL.move rfl rfl ?_
  refine WL.len Try.underlying23 rfl rfl ?_
  refine WL.add (r := ((ma + 1 : Nat) : Int)) rfl rfl (wi64 (by omega) (by omega) (by omega)) rfl ?_
  refine WL.make (w.heap.size) (ma + 1) Try.underlying23 Try.el43 rfl rfl (by omega) (by omega) (by simp only [maxLen]; omega) (Nat.le_of_eq rfl) rfl ?_
  rintro A11 w12 - hz hGw12
  rw [made_us] at hz
  have hz := hz.low (b' := w.heap.size) hB.size
  have hB := ext_trans hB hGw12
  have ha := ha0.ext hB
  refine WL.assign rfl rfl ?_
  refine WL.done ?_
  refine W.seq ?_
  refine W.seq ?_
  refine W.region ?_
  refine WL.move rfl rfl ?_
  refine WL.len Try.underlying23 rfl rfl ?_
  refine WL.move rfl rfl ?_
  refine WL.done ?_
  refine W.block ?_
  refine W.loop (σ := Nat × List Nat × Option Addr × Nat) (fun s w1 => match s with | (i, zs, Ao, co) => w.grownBy w1 none ∧ i ≤ ma ∧ Lim zs ∧ zs.length = ma + 1 ∧ (∀ t, i < t → zs.getD t 0 = 0) ∧ zs.getD i 0 < 2 ^ u ∧ nv zs = nv (xa.take i) * 2 ^ u ∧ Own w.heap.size w1 43 1 Ao (ma + 1) co (us (zs))) (fun s => match s with | (i, zs, Ao, co) => [(0, .slice Aa ma ca), (1, .int .i64 X), (5, .slice Ao (ma + 1) co), (13, .slice Aa ma ca), (14, .int .i64 ((ma : Nat) : Int)), (15, .int .i64 ((i : Nat) : Int))]) (fun s => match s with | (i, zs, Ao, co) => ma - i) (0, List.replicate (ma + 1) 0, A11, ma + 1) ?_ ?_ ?_
  · exact ⟨hB, by omega, Lim.zeros _, by simp, fun t _ => zeros_getD _ _, by rw [zeros_getD]; exact hp0, by simp [nv_zeros], hz⟩
  · exact ⟨rfl, iv (by omega), rfl, rfl, iv (by omega), iv (by omega), trivial⟩
  · rintro ⟨i, zs, Ao, co⟩ w13 ⟨hB, hi, hLz, hlz, h0z, hpz, heq, ho⟩
    have ha := ha0.ext hB
    have hx := hLa.getD i
    have hrm := shl_room hx hs
    have hhi := hi_lt (s := u) hx
    refine W.seq ?_
    refine W.region ?_
    refine WL.lss rfl rfl rfl (fun c14 => ?_) (fun c14 => ?_)
    · refine WL.done ?_
      refine W.seq ?_
      refine W.condT rfl ?_
      refine W.skip ?_
      refine W.seq ?_
      refine W.block ?_
      refine W.seq ?_
      refine W.region ?_
      refine WL.move rfl rfl ?_
      refine WL.index1 (i) Try.underlying23 Try.el43 rfl rfl (by omega) (by omega) ha rfl ?_
      refine WL.load Try.underlying43 rfl rfl (Rd.at_ ha (us_at (by omega))) rfl ?_
      refine WL.assign rfl rfl ?_
      refine WL.assign rfl rfl ?_
      refine WL.done ?_
      refine W.seq ?_
      refine W.region ?_
      refine WL.move rfl rfl ?_
      refine WL.conv (r := ((xa.getD i 0 : Nat) : Int)) Try.underlying43 Try.underlying72 rfl (wu64 (by omega) (by omega) (by omega)) rfl ?_
      refine WL.move rfl rfl ?_
      refine WL.shl (r := ((xa.getD i 0 * 2 ^ u : Nat) : Int)) rfl rfl (by omega) (by rw [show IntKind.u64.bits = 64 from rfl, shl_nat (a := xa.getD i 0) (s := u) (by omega) (by omega) 64 (by omega)]; exact wu64 (by omega) (by omega) (by omega)) rfl ?_
      refine WL.assign rfl rfl ?_
      refine WL.done ?_
      refine W.seq ?_
      refine W.region ?_
      refine WL.move rfl rfl ?_
      refine WL.move rfl rfl ?_
      refine WL.index1 (i) Try.underlying23 Try.el43 rfl rfl (by omega) (by omega) ho.rd rfl ?_
      refine WL.load Try.underlying43 rfl rfl (Rd.at_ ho.rd (us_at (by omega))) rfl ?_
      refine WL.move rfl rfl ?_
      refine WL.conv (r := (((xa.getD i 0 * 2 ^ u) % 4294967296 : Nat) : Int)) Try.underlying72 Try.underlying43 rfl (wu32m (by omega)) rfl ?_
      refine WL.bits (r := ((zs.getD i 0 + (xa.getD i 0 * 2 ^ u) % 4294967296 : Nat) : Int)) rfl rfl (.inr (.inl rfl)) (or_low hs hpz) rfl ?_
      refine WL.index1 (i) Try.underlying23 Try.el43 rfl rfl (by omega) (by omega) ho.rd rfl ?_
      refine WL.store Try.el43 rfl rfl rfl (by omega) ho ?_
      have hOld16 := ho
      intro w15 ho hGw15
      change Own _ _ _ _ _ _ _ ((us zs).set i (.int .u32 ((zs.getD i 0 + (xa.getD i 0 * 2 ^ u) % 4294967296 : Nat) : Int))) at ho
      rw [us_set] at ho
      have hB := ext_own hB hGw15 (fun g hg => (hOld16.bl_ge g hg).1)
      have := ho.rd.ulen
      refine WL.done ?_
      refine W.region ?_
      refine WL.move rfl rfl ?_
      refine WL.move rfl rfl ?_
      refine WL.add (r := ((i + 1 : Nat) : Int)) rfl rfl (wi64 (by omega) (by omega) (by omega)) rfl ?_
      refine WL.move rfl rfl ?_
      refine WL.shr (r := (((xa.getD i 0 * 2 ^ u) / 4294967296 : Nat) : Int)) rfl rfl (by omega) (shr_nat (a := xa.getD i 0 * 2 ^ u) (s := 32) (by omega) (by omega) 64 (by omega)) rfl ?_
      refine WL.conv (r := (((xa.getD i 0 * 2 ^ u) / 4294967296 : Nat) : Int)) Try.underlying72 Try.underlying43 rfl (wu32 (by omega) (by omega) (by omega)) rfl ?_
      refine WL.index1 (i + 1) Try.underlying23 Try.el43 rfl rfl (by omega) (by omega) ho.rd rfl ?_
      refine WL.store Try.el43 rfl rfl rfl (by omega) ho ?_
      have hOld18 := ho
      intro w17 ho hGw17
      change Own _ _ _ _ _ _ _ ((us (zs.set i (zs.getD i 0 + (xa.getD i 0 * 2 ^ u) % 4294967296))).set (i + 1) (.int .u32 (((xa.getD i 0 * 2 ^ u) / 4294967296 : Nat) : Int))) at ho
      rw [us_set] at ho
      have hB := ext_own hB hGw17 (fun g hg => (hOld18.bl_ge g hg).1)
      have := ho.rd.ulen
      refine WL.done ?_
      refine W.region ?_
      refine WL.add (r := ((i + 1 : Nat) : Int)) rfl rfl (wi64 (by omega) (by omega) (by omega)) rfl ?_
      refine WL.move rfl rfl ?_
      refine WL.done ?_
      refine ⟨(i + 1, (zs.set i (zs.getD i 0 + (xa.getD i 0 * 2 ^ u) % 4294967296)).set (i + 1) (xa.getD i 0 * 2 ^ u / 4294967296), Ao, co), ⟨rfl, iv (by omega), rfl, rfl, iv (by omega), iv (by omega), trivial⟩, by (dsimp only; omega), ?_⟩
      have hlt : zs.getD i 0 + (xa.getD i 0 * 2 ^ u) % 4294967296 < 4294967296 := lowsum hs hpz
      exact ⟨hB, by omega, (hLz.set _ hlt).set _ (by omega), by simp [hlz], fun t ht => by rw [getD_set_ne (by omega), getD_set_ne (by omega)]; exact h0z t (by omega), by rw [getD_set_eq (by simp; omega)]; exact hhi, shl_step (by omega) rfl (h0z _ (by omega)) heq rfl, ho⟩
    · refine WL.done ?_
      refine W.seq ?_
      refine W.condF rfl ?_
      refine W.exit ?_
      refine W.seq ?_
      refine W.region ?_
      refine WL.move rfl rfl ?_
      refine WL.assign rfl rfl ?_
      refine WL.done ?_
      refine W.ret ?_
      refine ⟨_, rfl, ?_⟩
      obtain rfl : i = ma := by omega
      rw [nv_take_all (by omega)] at heq
      exact ⟨_, _, _, _, rfl, hB, ho, hLz, rfl, heq⟩

theorem shr_c {w : World} {b0 : Nat} {Aa : Option Addr} {ma ca : Nat} {xa : List Nat} (ho : Own b0 w 43 1 Aa ma ca (us xa)) (hLa : Lim xa) (hsz : ma ≤ 1099511627776) (u : Nat) {X : Int} (hX : X = u) (hs : u ≤ 31) :
    Calls Try.prog 108 #[.slice Aa ma ca, .int .i64 X] w fun e w2 => ∃ v, e = .returned v ∧ (fun _ w2 => ∃ ys, w.grownBy w2 (bl Aa) ∧ Own b0 w2 43 1 Aa ma ca (us ys) ∧ Lim ys ∧ ys.length = ma ∧ nv ys = nv xa / 2 ^ u) v w2 := by
  have ho_l := ho.rd.ulen
  have ho_x := ho.rd.max
  simp only [maxLen] at ho_x
  have ho_c := ho.rd.cap
  have hB := World.grownBy.refl w (bl Aa)
  refine calls_of_W (vs := [.slice Aa ma ca, .int .i64 X]) [] Try.func108 rfl rfl rfl rfl ?_
  refine W.seq ?_
  refine W.region ?_
  refine WL.move rfl rfl ?_
  refine WL.len Try.underlying23 rfl rfl ?_
  refine WL.move rfl rfl ?_
  refine WL.done ?_
  refine W.block ?_
  refine W.loop (σ := Nat × List Nat) (fun s w1 => match s with | (i, zs) => w.grownBy w1 (bl Aa) ∧ i ≤ ma ∧ Lim zs ∧ zs.length = ma ∧ (∀ t, i ≤ t → zs.getD t 0 = xa.getD t 0) ∧ nv (zs.take i) = nv xa / 2 ^ u % 4294967296 ^ i ∧ Own b0 w1 43 1 Aa ma ca (us (zs))) (fun s => match s with | (i, zs) => [(0, .slice Aa ma ca), (1, .int .i64 X), (6, .slice Aa ma ca), (7, .int .i64 ((ma : Nat) : Int)), (8, .int .i64 ((i : Nat) : Int))]) (fun s => match s with | (i, zs) => ma - i) (0, xa) ?_ ?_ ?_
  · exact ⟨hB, by omega, hLa, by omega, fun _ _ => rfl, by simp [Nat.mod_one], ho⟩
  · exact ⟨rfl, iv (by omega), rfl, iv (by omega), iv (by omega), trivial⟩
  · rintro ⟨i, zs⟩ w11 ⟨hB, hi, hLz, hlz, hsame, heq, ho⟩
    have hx := hLz.getD i
    have hy := hLz.getD (i + 1)
    refine W.seq ?_
    refine W.region ?_
    refine WL.lss rfl rfl rfl (fun c12 => ?_) (fun c12 => ?_)
    · refine WL.done ?_
      refine W.seq ?_
      refine W.condT rfl ?_
      refine W.skip ?_
      refine W.seq ?_
      refine W.block ?_
      refine W.seq ?_
      refine W.region ?_
      refine WL.move rfl rfl ?_
      refine WL.assign rfl rfl ?_
      refine WL.done ?_
      refine W.seq ?_
      refine W.draw [⟨[], [0], true⟩, ⟨[], [4], true⟩, ⟨[1], [], true⟩, ⟨[0, 2], [], false⟩, ⟨[3], [], true⟩, ⟨[4], [], true⟩, ⟨[], [0], true⟩, ⟨[], [4], true⟩, ⟨[6, 7], [], true⟩, ⟨[8], [], false⟩, ⟨[9], [], true⟩, ⟨[5, 10], [], true⟩, ⟨[11], [], true⟩] [[(0, .slice Aa ma ca)], [(4, .int .i64 ((i : Nat) : Int))], [], [], [], [], [(0, .slice Aa ma ca)], [(4, .int .i64 ((i : Nat) : Int))], [], [], [], [], []] (fun iQ => [fun v _ => v = .slice Aa ma ca, fun v _ => v = .int .i64 ((i : Nat) : Int), fun v _ => v = .int .i64 ((i + 1 : Nat) : Int), fun v _ => v = .int .u32 ((zs.getD (i + 1) 0 : Nat) : Int), fun v _ => v = .int .u64 ((zs.getD (i + 1) 0 : Nat) : Int), fun v _ => v = .int .u64 ((zs.getD (i + 1) 0 * 4294967296 : Nat) : Int), fun v _ => v = .slice Aa ma ca, fun v _ => v = .int .i64 ((i : Nat) : Int), fun v _ => v = .pointer (some ((adOf Aa).add i)), fun v _ => v = .int .u32 ((zs.getD i 0 : Nat) : Int), fun v _ => v = .int .u64 ((zs.getD i 0 : Nat) : Int), fun v _ => v = .int .u64 ((zs.getD i 0 + 4294967296 * zs.getD (i + 1) 0 : Nat) : Int), fun v _ => v = .int .u64 ((zs.getD i 0 + 4294967296 * zs.getD (i + 1) 0 : Nat) : Int)].getD iQ (fun _ _ => True)) (fun _ => True) 13 Try.mixed (by kernel_rfl) ?_ ?_ ?_
      · refine Vs_mono _ ?_
        intro VQ hVQ vQ wQ1 wQ2 hQ1 hQ2
        simp only [List.mem_cons, List.not_mem_nil, or_false] at hVQ
        rcases hVQ with rfl | rfl | rfl | rfl | rfl | rfl | rfl | rfl | rfl | rfl | rfl | rfl | rfl <;> exact hQ1
      · refine ⟨⟨rfl, ⟨rfl, trivial⟩, ?_⟩, ⟨rfl, ⟨rfl, trivial⟩, ?_⟩, ⟨rfl, trivial, ?_⟩, ⟨rfl, trivial, ?_⟩, ⟨rfl, trivial, ?_⟩, ⟨rfl, trivial, ?_⟩, ⟨rfl, ⟨rfl, trivial⟩, ?_⟩, ⟨rfl, ⟨rfl, trivial⟩, ?_⟩, ⟨rfl, trivial, ?_⟩, ⟨rfl, trivial, ?_⟩, ⟨rfl, trivial, ?_⟩, ⟨rfl, trivial, ?_⟩, ⟨rfl, trivial, ?_⟩, trivial⟩
        · intro w13 hE
          intro R
          refine WL.move rfl rfl ?_
          exact WL.done ⟨_, rfl, rfl, rfl⟩
        · intro w14 hE
          intro R
          refine WL.move rfl rfl ?_
          exact WL.done ⟨_, rfl, rfl, rfl⟩
        · intro w15 hE
          rintro _ rfl
          intro R
          refine WL.add (r := ((i + 1 : Nat) : Int)) rfl rfl (wi64 (by omega) (by omega) (by omega)) rfl ?_
          exact WL.done ⟨_, rfl, rfl, rfl⟩
        · intro w16 hE
          have hE := hE rfl
          have hB := row_ext hB hE
          have ho := ho.ext hE
          rintro _ rfl
          rintro _ rfl
          intro R
          refine WL.call Try.func79 rfl Try.nm79 rfl rfl (limbAt_c ho.rd (i + 1) (by omega)) ?_
          rintro _ w17 ⟨rfl, hGw17⟩
          have hB := row_ext hB hGw17
          exact WL.done ⟨_, rfl, hGw17, rfl⟩
        · intro w18 hE
          rintro _ rfl
          intro R
          refine WL.conv (r := ((zs.getD (i + 1) 0 : Nat) : Int)) Try.underlying43 Try.underlying72 rfl (wu64 (by omega) (by omega) (by omega)) rfl ?_
          exact WL.done ⟨_, rfl, rfl, rfl⟩
        · intro w19 hE
          rintro _ rfl
          intro R
          refine WL.shl (r := ((zs.getD (i + 1) 0 * 4294967296 : Nat) : Int)) rfl rfl (by omega) (by rw [show IntKind.u64.bits = 64 from rfl, shl_nat (a := zs.getD (i + 1) 0) (s := 32) (by omega) (by omega) 64 (by omega)]; exact wu64 (by omega) (by omega) (by omega)) rfl ?_
          exact WL.done ⟨_, rfl, rfl, rfl⟩
        · intro w20 hE
          intro R
          refine WL.move rfl rfl ?_
          exact WL.done ⟨_, rfl, rfl, rfl⟩
        · intro w21 hE
          intro R
          refine WL.move rfl rfl ?_
          exact WL.done ⟨_, rfl, rfl, rfl⟩
        · intro w22 hE
          rintro _ rfl
          rintro _ rfl
          intro R
          refine WL.index1 (i) Try.underlying23 Try.el43 rfl rfl (by omega) (by omega) ho.rd rfl ?_
          exact WL.done ⟨_, rfl, rfl, rfl⟩
        · intro w23 hE
          have hE := hE rfl
          have hB := row_ext hB hE
          have ho := ho.ext hE
          rintro _ rfl
          intro R
          refine WL.load Try.underlying43 rfl rfl (Rd.at_ ho.rd (us_at (by omega))) rfl ?_
          exact WL.done ⟨_, rfl, ext_refl _, rfl⟩
        · intro w24 hE
          rintro _ rfl
          intro R
          refine WL.conv (r := ((zs.getD i 0 : Nat) : Int)) Try.underlying43 Try.underlying72 rfl (wu64 (by omega) (by omega) (by omega)) rfl ?_
          exact WL.done ⟨_, rfl, rfl, rfl⟩
        · intro w25 hE
          rintro _ rfl
          rintro _ rfl
          intro R
          refine WL.bits (r := ((zs.getD i 0 + 4294967296 * zs.getD (i + 1) 0 : Nat) : Int)) rfl rfl (.inr (.inl rfl)) (or64 rfl rfl hy hx) rfl ?_
          exact WL.done ⟨_, rfl, rfl, rfl⟩
        · intro w26 hE
          rintro _ rfl
          intro R
          refine WL.assign rfl rfl ?_
          exact WL.done ⟨_, rfl, rfl, rfl⟩
      · intro vals w27 hT hVs
        rw [if_neg (by decide)] at hT
        have hB := row_ext hB hT
        have ho := ho.ext hT
        have hv0 : vals 0 = _ := hVs 0 (by decide) (by decide)
        have hv1 : vals 1 = _ := hVs 1 (by decide) (by decide)
        have hv2 : vals 2 = _ := hVs 2 (by decide) (by decide)
        have hv3 : vals 3 = _ := hVs 3 (by decide) (by decide)
        have hv4 : vals 4 = _ := hVs 4 (by decide) (by decide)
        have hv5 : vals 5 = _ := hVs 5 (by decide) (by decide)
        have hv6 : vals 6 = _ := hVs 6 (by decide) (by decide)
        have hv7 : vals 7 = _ := hVs 7 (by decide) (by decide)
        have hv8 : vals 8 = _ := hVs 8 (by decide) (by decide)
        have hv9 : vals 9 = _ := hVs 9 (by decide) (by decide)
        have hv10 : vals 10 = _ := hVs 10 (by decide) (by decide)
        have hv11 : vals 11 = _ := hVs 11 (by decide) (by decide)
        have hv12 : vals 12 = _ := hVs 12 (by decide) (by decide)
        rw [show (List.filterMap (fun i => Option.map (fun t => (t, vals i)) (dstAt _ i)) (List.range _)) = [(11, .slice Aa ma ca), (12, .int .i64 ((i : Nat) : Int)), (13, .int .i64 ((i + 1 : Nat) : Int)), (14, .int .u32 ((zs.getD (i + 1) 0 : Nat) : Int)), (15, .int .u64 ((zs.getD (i + 1) 0 : Nat) : Int)), (16, .int .u64 ((zs.getD (i + 1) 0 * 4294967296 : Nat) : Int)), (17, .slice Aa ma ca), (18, .int .i64 ((i : Nat) : Int)), (19, .pointer (some ((adOf Aa).add i))), (20, .int .u32 ((zs.getD i 0 : Nat) : Int)), (21, .int .u64 ((zs.getD i 0 : Nat) : Int)), (22, .int .u64 ((zs.getD i 0 + 4294967296 * zs.getD (i + 1) 0 : Nat) : Int)), (5, .int .u64 ((zs.getD i 0 + 4294967296 * zs.getD (i + 1) 0 : Nat) : Int))] from by
          show [(11, vals 0), (12, vals 1), (13, vals 2), (14, vals 3), (15, vals 4), (16, vals 5), (17, vals 6), (18, vals 7), (19, vals 8), (20, vals 9), (21, vals 10), (22, vals 11), (5, vals 12)] = _
          rw [hv0, hv1, hv2, hv3, hv4, hv5, hv6, hv7, hv8, hv9, hv10, hv11, hv12]]
        refine W.region ?_
        refine WL.move rfl rfl ?_
        refine WL.move rfl rfl ?_
        refine WL.move rfl rfl ?_
        refine WL.move rfl rfl ?_
        refine WL.shr (r := (((zs.getD i 0 + 4294967296 * zs.getD (i + 1) 0) / 2 ^ u : Nat) : Int)) rfl rfl (by omega) (shr_nat (a := zs.getD i 0 + 4294967296 * zs.getD (i + 1) 0) (s := u) (by omega) (by omega) 64 (by omega)) rfl ?_
        refine WL.conv (r := (((zs.getD i 0 + 4294967296 * zs.getD (i + 1) 0) / 2 ^ u % 4294967296 : Nat) : Int)) Try.underlying72 Try.underlying43 rfl (wu32m (by omega)) rfl ?_
        refine WL.index1 (i) Try.underlying23 Try.el43 rfl rfl (by omega) (by omega) ho.rd rfl ?_
        refine WL.store Try.el43 rfl rfl rfl (by omega) ho ?_
        have hOld29 := ho
        intro w28 ho hGw28
        change Own _ _ _ _ _ _ _ ((us zs).set i (.int .u32 (((zs.getD i 0 + 4294967296 * zs.getD (i + 1) 0) / 2 ^ u % 4294967296 : Nat) : Int))) at ho
        rw [us_set] at ho
        have hB := row_own hB hGw28
        have := ho.rd.ulen
        refine WL.done ?_
        refine W.region ?_
        refine WL.add (r := ((i + 1 : Nat) : Int)) rfl rfl (wi64 (by omega) (by omega) (by omega)) rfl ?_
        refine WL.move rfl rfl ?_
        refine WL.done ?_
        refine ⟨(i + 1, zs.set i ((zs.getD i 0 + 4294967296 * zs.getD (i + 1) 0) / 2 ^ u % 4294967296)), ⟨rfl, iv (by omega), rfl, iv (by omega), iv (by omega), trivial⟩, by (dsimp only; omega), ?_⟩
        exact ⟨hB, by omega, hLz.set _ (Nat.mod_lt _ (by decide)), by simp [hlz], fun t ht => by rw [getD_set_ne (by omega)]; exact hsame t (by omega), shr_step hs (by omega) heq (hsame i (by omega)).symm (hsame (i + 1) (by omega)).symm hLa, ho⟩
    · refine WL.done ?_
      refine W.seq ?_
      refine W.condF rfl ?_
      refine W.exit ?_
      refine ⟨_, rfl, ?_⟩
      obtain rfl : i = ma := by omega
      rw [nv_take_all (by omega), Nat.mod_eq_of_lt (Nat.lt_of_le_of_lt (Nat.div_le_self _ _) (by have := nv_lt hLa; rwa [show xa.length = i by omega] at this))] at heq
      exact ⟨_, hB, ho, hLz, hlz, heq⟩

theorem subm_c {w : World} {b0 : Nat} {Ar : Option Addr} {mr cr : Nat} {xr : List Nat} (ho : Own b0 w 43 1 Ar mr cr (us xr)) (hLr : Lim xr) (o n : Nat) {cw : Nat} {Bb : Nat} {Ab : Option Addr} {cb : Nat} {xb : List Nat} (hb : Rd Bb w 1 Ab n cb (us xb)) (hLb : Lim xb) (hrow : ∀ g, bl Ar = some g → Bb ≤ g) (hon : o + n + 1 ≤ mr) (hsz : mr ≤ 1099511627776) (q : Nat) {Q : Int} (hQ : Q = q) (hq : q < 4294967296) :
    Calls Try.prog 106 #[.slice (Ar.map (·.add o)) (n + 1) cw, .slice Ab n cb, .int .u32 Q] w fun e w2 => ∃ v, e = .returned v ∧ (fun v w2 => ∃ ys b, v = .bool b ∧ w.grownBy w2 (bl Ar) ∧ Own b0 w2 43 1 Ar mr cr (us ys) ∧ Lim ys ∧ ys.length = mr ∧ (∀ t, (t < o ∨ o + n + 1 ≤ t) → ys.getD t 0 = xr.getD t 0) ∧ nv ys + 4294967296 ^ o * (q * nv xb) = nv xr + 4294967296 ^ (o + (n + 1)) * (if b = true then 1 else 0)) v w2 := by
  have ho_l := ho.rd.ulen
  have hb_l := hb.ulen
  have hb_x := hb.max
  simp only [maxLen] at hb_x
  have hb_c := hb.cap
  have hb0 := hb
  have hB := World.grownBy.refl w (bl Ar)
  refine calls_of_W (vs := [.slice (Ar.map (·.add o)) (n + 1) cw, .slice Ab n cb, .int .u32 Q]) [6] Try.func106 rfl rfl rfl rfl ?_
  refine W.seq ?_
  refine W.region ?_
  refine WL.assign rfl rfl ?_
  refine WL.done ?_
  refine W.seq ?_
  refine W.region ?_
  refine WL.assign rfl rfl ?_
  refine WL.assign rfl rfl ?_
  refine WL.done ?_
  refine W.seq ?_
  refine W.seq ?_
  refine W.region ?_
  refine WL.move rfl rfl ?_
  refine WL.len Try.underlying23 rfl rfl ?_
  refine WL.move rfl rfl ?_
  refine WL.done ?_
  refine W.block ?_
  refine W.loop (σ := Nat × Nat × Nat × List Nat) (fun s w1 => match s with | (i, c, e, zs) => w.grownBy w1 (bl Ar) ∧ i ≤ n ∧ c < 4294967296 ∧ e ≤ 1 ∧ Lim zs ∧ zs.length = mr ∧ (∀ t, (t < o ∨ o + i ≤ t) → zs.getD t 0 = xr.getD t 0) ∧ nv zs + 4294967296 ^ o * (q * nv (xb.take i)) = nv xr + 4294967296 ^ (o + i) * (c + e) ∧ Own b0 w1 43 1 Ar mr cr (us (zs))) (fun s => match s with | (i, c, e, zs) => [(0, .slice (Ar.map (·.add o)) (n + 1) cw), (1, .slice Ab n cb), (2, .int .u32 Q), (7, .int .u64 ((c : Nat) : Int)), (8, .int .u32 ((e : Nat) : Int)), (12, .slice Ab n cb), (13, .int .i64 ((n : Nat) : Int)), (14, .int .i64 ((i : Nat) : Int))]) (fun s => match s with | (i, c, e, zs) => n - i) (0, 0, 0, xr) ?_ ?_ ?_
  · exact ⟨hB, by omega, by omega, by omega, hLr, by omega, fun _ _ => rfl, by simp, ho⟩
  · exact ⟨rfl, rfl, iv (by omega), iv (by omega), iv (by omega), rfl, iv (by omega), iv (by omega), trivial⟩
  · rintro ⟨i, c, e, zs⟩ w11 ⟨hB, hi, hc, he, hLz, hlz, hsame, heq, ho⟩
    have hb := hb0.grown hB hrow
    have hz := hLz.getD (o + i)
    have hzn := hLz.getD (o + n)
    have hxb := hLb.getD i
    have hm0 := mul_lim0 hq hxb
    have hm1 := mul_lim hq hxb (show 0 < 4294967296 by decide) hc
    refine W.seq ?_
    refine W.region ?_
    refine WL.lss rfl rfl rfl (fun c12 => ?_) (fun c12 => ?_)
    · refine WL.done ?_
      refine W.seq ?_
      refine W.condT rfl ?_
      refine W.skip ?_
      refine W.seq ?_
      refine W.block ?_
      refine W.seq ?_
      refine W.region ?_
      refine WL.move rfl rfl ?_
      refine WL.index1 (i) Try.underlying23 Try.el43 rfl rfl (by omega) (by omega) hb rfl ?_
      refine WL.load Try.underlying43 rfl rfl (Rd.at_ hb (us_at (by omega))) rfl ?_
      refine WL.assign rfl rfl ?_
      refine WL.assign rfl rfl ?_
      refine WL.done ?_
      refine W.seq ?_
      refine W.region ?_
      refine WL.move rfl rfl ?_
      refine WL.move rfl rfl ?_
      refine WL.conv (r := Q) Try.underlying43 Try.underlying72 rfl (wu64 (by omega) (by omega) (by omega)) rfl ?_
      refine WL.move rfl rfl ?_
      refine WL.conv (r := ((xb.getD i 0 : Nat) : Int)) Try.underlying43 Try.underlying72 rfl (wu64 (by omega) (by omega) (by omega)) rfl ?_
      refine WL.mul (r := ((q * (xb.getD i 0) : Nat) : Int)) rfl rfl (by subst hQ; rw [← Int.natCast_mul]; exact wu64 (by omega) (by omega) rfl) rfl ?_
      refine WL.add (r := ((c + (q * (xb.getD i 0)) : Nat) : Int)) rfl rfl (wu64 (by omega) (by omega) (by omega)) rfl ?_
      refine WL.assign rfl rfl ?_
      refine WL.done ?_
      refine W.seq ?_
      refine W.region ?_
      refine WL.move rfl rfl ?_
      refine WL.move rfl rfl ?_
      refine WL.move rfl rfl ?_
      refine WL.move rfl rfl ?_
      refine WL.indexW (o) (i) Try.underlying23 Try.el43 rfl rfl (by omega) (by omega) ho.rd (by omega) rfl ?_
      refine WL.load Try.underlying43 rfl rfl (Rd.at_ ho.rd (us_at (by omega))) rfl ?_
      refine WL.move rfl rfl ?_
      refine WL.conv (r := (((c + q * xb.getD i 0) % 4294967296 : Nat) : Int)) Try.underlying72 Try.underlying43 rfl (wu32m (by omega)) rfl ?_
      refine WL.move rfl rfl ?_
      refine WL.call Try.func100 rfl Try.nm100 rfl rfl (Sub32_c (zs.getD (o + i) 0) ((c + q * xb.getD i 0) % 4294967296) e (by omega) (by omega) (by omega) (by omega) (by omega) (by omega)) ?_
      rintro _ w13 ⟨rfl, hGw13⟩
      have hB := row_ext hB hGw13
      have ho := ho.ext hGw13
      refine WL.move rfl rfl ?_
      refine WL.extract rfl rfl rfl ?_
      refine WL.extract rfl rfl rfl ?_
      refine WL.indexW (o) (i) Try.underlying23 Try.el43 rfl rfl (by omega) (by omega) ho.rd (by omega) rfl ?_
      refine WL.store Try.el43 rfl rfl rfl (by omega) ho ?_
      have hOld15 := ho
      intro w14 ho hGw14
      change Own _ _ _ _ _ _ _ ((us zs).set (o + i) (.int .u32 (((zs.getD (o + i) 0 + 8589934592 - (c + q * xb.getD i 0) % 4294967296 - e) % 4294967296 : Nat) : Int))) at ho
      rw [us_set] at ho
      have hB := row_own hB hGw14
      have := ho.rd.ulen
      refine WL.assign rfl rfl ?_
      refine WL.done ?_
      refine W.region ?_
      refine WL.move rfl rfl ?_
      refine WL.shr (r := (((c + (q * (xb.getD i 0))) / 4294967296 : Nat) : Int)) rfl rfl (by omega) (shr_nat (a := c + (q * (xb.getD i 0))) (s := 32) (by omega) (by omega) 64 (by omega)) rfl ?_
      refine WL.assign rfl rfl ?_
      refine WL.done ?_
      refine W.region ?_
      refine WL.add (r := ((i + 1 : Nat) : Int)) rfl rfl (wi64 (by omega) (by omega) (by omega)) rfl ?_
      refine WL.move rfl rfl ?_
      refine WL.done ?_
      refine ⟨(i + 1, (c + q * xb.getD i 0) / 4294967296, if zs.getD (o + i) 0 < (c + q * xb.getD i 0) % 4294967296 + e then 1 else 0, zs.set (o + i) ((zs.getD (o + i) 0 + 8589934592 - (c + q * xb.getD i 0) % 4294967296 - e) % 4294967296)), ⟨rfl, rfl, iv (by omega), iv (by omega), iv (by omega), rfl, iv (by omega), iv (by omega), trivial⟩, by (dsimp only; omega), ?_⟩
      have hv : (zs.getD (o + i) 0 + 8589934592 - (c + q * xb.getD i 0) % 4294967296 - e) % 4294967296 + (c + q * xb.getD i 0) % 4294967296 + e = zs.getD (o + i) 0 + 4294967296 * (if zs.getD (o + i) 0 < (c + q * xb.getD i 0) % 4294967296 + e then 1 else 0) := by split <;> omega
      exact ⟨hB, by omega, by omega, by split <;> omega, hLz.set _ (Nat.mod_lt _ (by decide)), by simp [hlz], fun t ht => by rw [getD_set_ne (by omega)]; exact hsame t (by omega), by rw [nv_take_succ]; exact subm_step (by omega) rfl heq (by omega) hv, ho⟩
    · refine WL.done ?_
      refine W.seq ?_
      refine W.condF rfl ?_
      refine W.exit ?_
      refine W.seq ?_
      refine W.region ?_
      refine WL.move rfl rfl ?_
      refine WL.len Try.underlying23 rfl rfl ?_
      refine WL.assign rfl rfl ?_
      refine WL.done ?_
      refine W.seq ?_
      refine W.region ?_
      refine WL.move rfl rfl ?_
      refine WL.move rfl rfl ?_
      refine WL.move rfl rfl ?_
      refine WL.move rfl rfl ?_
      refine WL.indexW (o) (n) Try.underlying23 Try.el43 rfl rfl (by omega) (by omega) ho.rd (by omega) rfl ?_
      refine WL.load Try.underlying43 rfl rfl (Rd.at_ ho.rd (us_at (by omega))) rfl ?_
      refine WL.move rfl rfl ?_
      refine WL.conv (r := ((c : Nat) : Int)) Try.underlying72 Try.underlying43 rfl (wu32 (by omega) (by omega) (by omega)) rfl ?_
      refine WL.move rfl rfl ?_
      refine WL.call Try.func100 rfl Try.nm100 rfl rfl (Sub32_c (zs.getD (o + n) 0) c e (by omega) (by omega) (by omega) (by omega) (by omega) (by omega)) ?_
      rintro _ w16 ⟨rfl, hGw16⟩
      have hB := row_ext hB hGw16
      have ho := ho.ext hGw16
      refine WL.move rfl rfl ?_
      refine WL.extract rfl rfl rfl ?_
      refine WL.extract rfl rfl rfl ?_
      refine WL.indexW (o) (n) Try.underlying23 Try.el43 rfl rfl (by omega) (by omega) ho.rd (by omega) rfl ?_
      refine WL.store Try.el43 rfl rfl rfl (by omega) ho ?_
      have hOld18 := ho
      intro w17 ho hGw17
      change Own _ _ _ _ _ _ _ ((us zs).set (o + n) (.int .u32 (((zs.getD (o + n) 0 + 8589934592 - c - e) % 4294967296 : Nat) : Int))) at ho
      rw [us_set] at ho
      have hB := row_own hB hGw17
      have := ho.rd.ulen
      refine WL.assign rfl rfl ?_
      refine WL.done ?_
      refine W.seq ?_
      refine W.region ?_
      refine WL.move rfl rfl ?_
      refine WL.neq rfl rfl rfl (fun c19 => ?_) (fun c19 => ?_)
      · refine WL.assign rfl rfl ?_
        refine WL.done ?_
        refine W.ret ?_
        refine ⟨_, rfl, ?_⟩
        obtain rfl : i = n := by omega
        rw [nv_take_all (by omega)] at heq
        have hv : (zs.getD (o + i) 0 + 8589934592 - c - e) % 4294967296 + c + e = zs.getD (o + i) 0 + 4294967296 * (if zs.getD (o + i) 0 < c + e then 1 else 0) := by split <;> omega
        have hst := subm_step (l := 0) (lo := c) (hi := 0) (by omega) rfl heq (by omega) hv
        rw [Nat.mul_zero, Nat.add_zero, Nat.zero_add] at hst
        have hS : ∀ t, (t < o ∨ o + i + 1 ≤ t) → (zs.set (o + i) ((zs.getD (o + i) 0 + 8589934592 - c - e) % 4294967296)).getD t 0 = xr.getD t 0 := fun t ht => by rw [getD_set_ne (by omega)]; exact hsame t (by omega)
        rw [if_pos (by omega)] at hst
        exact ⟨_, true, rfl, hB, ho, hLz.set _ (Nat.mod_lt _ (by decide)), by simp [hlz], hS, hst⟩
      · refine WL.assign rfl rfl ?_
        refine WL.done ?_
        refine W.ret ?_
        refine ⟨_, rfl, ?_⟩
        obtain rfl : i = n := by omega
        rw [nv_take_all (by omega)] at heq
        have hv : (zs.getD (o + i) 0 + 8589934592 - c - e) % 4294967296 + c + e = zs.getD (o + i) 0 + 4294967296 * (if zs.getD (o + i) 0 < c + e then 1 else 0) := by split <;> omega
        have hst := subm_step (l := 0) (lo := c) (hi := 0) (by omega) rfl heq (by omega) hv
        rw [Nat.mul_zero, Nat.add_zero, Nat.zero_add] at hst
        have hS : ∀ t, (t < o ∨ o + i + 1 ≤ t) → (zs.set (o + i) ((zs.getD (o + i) 0 + 8589934592 - c - e) % 4294967296)).getD t 0 = xr.getD t 0 := fun t ht => by rw [getD_set_ne (by omega)]; exact hsame t (by omega)
        rw [if_neg (by omega)] at hst
        exact ⟨_, false, rfl, hB, ho, hLz.set _ (Nat.mod_lt _ (by decide)), by simp [hlz], hS, hst⟩
end Go.Proofs.Ythfpcebcfjlkmab
