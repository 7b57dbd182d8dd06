/- Contracts of functions of the program, and what they lean on. -/
import Derived.Test.YthfpcebcfjlkmabW2
import Derived.Test.YthfpcebcfjlkmabPL4
set_option linter.unusedSimpArgs false
set_option linter.unusedVariables false
namespace Go.Proofs.Ythfpcebcfjlkmab
open Go.RowKit
theorem rSub_c {w : World} {Ba : Nat} {Aa : Option Addr} {ma ca : Nat} {xa : List Nat} (ha : Rd Ba w 1 Aa ma ca (us xa)) {Bb : Nat} {Ab : Option Addr} {mb cb : Nat} {xb : List Nat} (hb : Rd Bb w 1 Ab mb cb (us xb)) (hLa : Lim xa) (hLb : Lim xb) (hsa : ma ≤ 1099511627776) (hle : nv xb ≤ nv xa) :
    Calls Try.prog 71 #[.slice Aa ma ca, .slice Ab mb cb] w fun e w2 => ∃ v, e = .returned v ∧ (fun v w2 => ∃ A2 m2 c2, v = .slice A2 m2 c2 ∧ w.grownBy w2 none ∧ Own w.heap.size w2 43 1 A2 m2 c2 (us (digs (nv xa - nv xb))) ∧ m2 ≤ ma) v w2 := by
  have ha := ha.norm
  have ha_l := ha.ulen
  have ha_x := ha.max
  simp only [maxLen] at ha_x
  have ha_c := ha.cap
  have hb := hb.norm
  have hb_l := hb.ulen
  have hb_x := hb.max
  simp only [maxLen] at hb_x
  have hb_c := hb.cap
  have ha0 := ha
  have hb0 := hb
  have hB := ext_refl w
  refine calls_of_W (vs := [.slice Aa ma ca, .slice Ab mb cb]) [4] Try.func71 rfl rfl rfl rfl ?_
  refine W.seq ?_
  refine W.region ?_
  refine WL.assign rfl rfl ?_
  refine WL.done ?_
  refine W.seq ?_
  refine W.region ?_
  refine WL.assign rfl rfl ?_
  refine WL.done ?_
  refine W.seq ?_
  refine W.region ?_
  refine WL.assign rfl rfl ?_
  refine WL.done ?_
  refine W.seq ?_
  refine W.seq ?_
  refine W.region ?_
  refine WL.assign rfl rfl ?_
  refine WL.done ?_
  refine W.block ?_
  refine W.loop (σ := Nat × Nat × List Nat × Option Addr × Nat) (fun s w1 => match s with | (i, c, ys, Ao, co) => w.grownBy w1 none ∧ c ≤ 1 ∧ i ≤ ma ∧ Lim ys ∧ ys.length = i ∧ nv ys + nv (xb.take i) = nv (xa.take i) + 4294967296 ^ i * c ∧ Own w.heap.size w1 43 1 Ao i co (us ys)) (fun s => match s with | (i, c, ys, Ao, co) => [(0, .slice Aa ma ca), (1, .slice Ab mb cb), (5, .slice Ao i co), (6, .int .u64 ((c : Nat) : Int)), (7, .int .i64 ((i : Nat) : Int))]) (fun s => match s with | (i, c, ys, Ao, co) => ma - i) (0, 0, [], none, 0) ?_ ?_ ?_
  · exact ⟨ext_refl _, by omega, by omega, Lim.nil, rfl, by simp [nv], World.ownsRow_nil _ _ _ _⟩
  · exact ⟨rfl, rfl, rfl, iv (by omega), iv (by omega), trivial⟩
  · rintro ⟨i, c, ys, Ao, co⟩ w11 ⟨hB, hc, hi, hLy, hly, heq, ho⟩
    have ha := ha0.ext hB
    have hb := hb0.ext hB
    have hxa := hLa.getD i
    have hxb := hLb.getD i
    refine W.seq ?_
    refine W.seq ?_
    refine W.region ?_
    refine WL.move rfl rfl ?_
    refine WL.move rfl rfl ?_
    refine WL.len Try.underlying23 rfl rfl ?_
    refine WL.lss rfl rfl rfl (fun c12 => ?_) (fun c12 => ?_)
    · refine WL.done ?_
      refine W.condT rfl ?_
      refine W.skip ?_
      refine W.seq ?_
      refine W.block ?_
      refine W.seq ?_
      refine W.region ?_
      refine WL.move rfl rfl ?_
      refine WL.move rfl rfl ?_
      refine WL.call Try.func92 rfl Try.nm92 rfl rfl (limb_c ha hLa (i) (by omega)) ?_
      rintro _ w13 ⟨rfl, hGw13⟩
      have hB := ext_trans hB hGw13
      have hb := hb0.ext hB
      have ho := ho.ext hGw13
      refine WL.add (r := (((xa.getD i 0) + 4294967296 : Nat) : Int)) rfl rfl (wu64 (by omega) (by omega) (by omega)) rfl ?_
      refine WL.move rfl rfl ?_
      refine WL.move rfl rfl ?_
      refine WL.call Try.func92 rfl Try.nm92 rfl rfl (limb_c hb hLb (i) (by omega)) ?_
      rintro _ w14 ⟨rfl, hGw14⟩
      have hB := ext_trans hB hGw14
      have ho := ho.ext hGw14
      refine WL.sub (r := ((((xa.getD i 0) + 4294967296) - (xb.getD i 0) : Nat) : Int)) rfl rfl (wu64 (by omega) (by omega) (by omega)) rfl ?_
      refine WL.move rfl rfl ?_
      refine WL.sub (r := (((((xa.getD i 0) + 4294967296) - (xb.getD i 0)) - c : Nat) : Int)) rfl rfl (wu64 (by omega) (by omega) (by omega)) rfl ?_
      refine WL.assign rfl rfl ?_
      refine WL.done ?_
      refine W.seq ?_
      refine W.region ?_
      refine WL.move rfl rfl ?_
      refine WL.move rfl rfl ?_
      refine WL.rem (r := ((((((xa.getD i 0) + 4294967296) - (xb.getD i 0)) - c) % 4294967296 : Nat) : Int)) rfl rfl (by omega) (tmod_nat (by omega) (by omega)) rfl ?_
      refine WL.conv (r := ((((((xa.getD i 0) + 4294967296) - (xb.getD i 0)) - c) % 4294967296 : Nat) : Int)) Try.underlying72 Try.underlying43 rfl (wu32 (by omega) (by omega) (by omega)) rfl ?_
      refine WL.lit1 (b := w14.heap.size) Try.underlying23 Try.el43 rfl rfl rfl rfl (by intro v hv; simp only [List.mem_cons, List.not_mem_nil, or_false] at hv; rcases hv with rfl <;> rfl) (Nat.le_refl _) rfl ?_
      rintro A15 w16 - hO17 hGw16
      have hO17 := hO17.low (b' := w.heap.size) hB.size
      have hB := ext_trans hB hGw16
      have ho := ho.ext hGw16
      change Own _ _ _ _ _ _ _ (us [((((xa.getD i 0) + 4294967296) - (xb.getD i 0)) - c) % 4294967296]) at hO17
      refine WL.append (i + 1) ((us (ys ++ ([((((xa.getD i 0) + 4294967296) - (xb.getD i 0)) - c) % 4294967296])))) Try.underlying23 Try.el43 rfl rfl ho hO17.rd (us_one _) (by simp only [maxLen]; omega) (by omega) hB.size (by omega) (us_app rfl) rfl ?_
      have hOld21 := ho
      intro A18 cp19 w20 ho hGw20 hblw20
      have hB := ext_own hB hGw20 (fun g hg => (hOld21.bl_ge g hg).1)
      refine WL.assign rfl rfl ?_
      refine WL.done ?_
      refine W.region ?_
      refine WL.move rfl rfl ?_
      refine WL.quo (r := ((((((xa.getD i 0) + 4294967296) - (xb.getD i 0)) - c) / 4294967296 : Nat) : Int)) rfl rfl (by omega) (qu64 (by omega) (by omega) (by omega)) rfl ?_
      refine WL.sub (r := ((1 - (((((xa.getD i 0) + 4294967296) - (xb.getD i 0)) - c) / 4294967296) : Nat) : Int)) rfl rfl (wu64 (by omega) (by omega) (by omega)) rfl ?_
      refine WL.assign rfl rfl ?_
      refine WL.done ?_
      refine W.region ?_
      refine WL.move rfl rfl ?_
      refine WL.add (r := ((i + 1 : Nat) : Int)) rfl rfl (wi64 (by omega) (by omega) (by omega)) rfl ?_
      refine WL.assign rfl rfl ?_
      refine WL.done ?_
      refine ⟨(i + 1, 1 - (xa.getD i 0 + 4294967296 - xb.getD i 0 - c) / 4294967296, ys ++ [(xa.getD i 0 + 4294967296 - xb.getD i 0 - c) % 4294967296], _, _), ⟨rfl, rfl, rfl, iv (by omega), iv (by omega), trivial⟩, by (dsimp only; omega), ?_⟩
      have hst := sub_step (by rw [hly]) heq hc hxb rfl hxa
      exact ⟨hB, hst.2, by omega, hLy.append (Lim.one (by omega)), by simp [hly], by rw [nv_take_succ, nv_take_succ, Nat.pow_succ]; exact hst.1, ho⟩
    · refine WL.done ?_
      refine W.condF rfl ?_
      refine W.exit ?_
      refine W.seq ?_
      refine W.region ?_
      refine WL.move rfl rfl ?_
      refine WL.call Try.func88 rfl Try.nm88 rfl rfl (rTrim_c ho.rd (by omega)) ?_
      rintro _ w22 ⟨A23, m24, cp25, rfl, hGw22, hO26, hm27⟩
      have hO26 := hO26.low (b' := w.heap.size) hB.size
      have hB := ext_trans hB hGw22
      have hO26_l := hO26.rd.ulen
      refine WL.assign rfl rfl ?_
      refine WL.done ?_
      refine W.ret ?_
      refine ⟨_, rfl, ?_⟩
      have hO := hO26
      have hi2 : i = ma := by omega
      subst hi2
      rw [nv_take_all (l := xa) (by omega)] at heq
      rw [digs_trim hLy, sub_end hLy hLb (by rw [hly]; exact heq) hle (by rw [hly, ← ha_l]; exact nv_lt hLa)] at hO
      exact ⟨_, _, _, rfl, hB, hO, by omega⟩

theorem Add32_c {w : World} (x y c : Nat) {X Y Z : Int} (hX : X = x) (hY : Y = y) (hZ : Z = c) (hx : x < 4294967296) (hy : y < 4294967296) (hc : c < 4294967296) :
    Calls Try.prog 78 #[.int .u32 X, .int .u32 Y, .int .u32 Z] w fun e w2 => ∃ v, e = .returned v ∧ (fun v w2 => v = .tuple #[.int .u32 (((x + y + c) % 4294967296 : Nat) : Int), .int .u32 (((x + y + c) / 4294967296 : Nat) : Int)] ∧ w.grownBy w2 none) v w2 := by
  have hB := ext_refl w
  refine calls_of_W (vs := [.int .u32 X, .int .u32 Y, .int .u32 Z]) [6, 7] Try.func78 rfl rfl rfl rfl ?_
  refine W.seq ?_
  refine W.region ?_
  refine WL.assign rfl rfl ?_
  refine WL.assign rfl rfl ?_
  refine WL.done ?_
  refine W.seq ?_
  refine W.region ?_
  refine WL.move rfl rfl ?_
  refine WL.conv (r := X) Try.underlying43 Try.underlying72 rfl (wu64 (by omega) (by omega) (by omega)) rfl ?_
  refine WL.move rfl rfl ?_
  refine WL.conv (r := Y) Try.underlying43 Try.underlying72 rfl (wu64 (by omega) (by omega) (by omega)) rfl ?_
  refine WL.add (r := ((x + y : Nat) : Int)) rfl rfl (wu64 (by omega) (by omega) (by omega)) rfl ?_
  refine WL.move rfl rfl ?_
  refine WL.conv (r := Z) Try.underlying43 Try.underlying72 rfl (wu64 (by omega) (by omega) (by omega)) rfl ?_
  refine WL.add (r := (((x + y) + c : Nat) : Int)) rfl rfl (wu64 (by omega) (by omega) (by omega)) rfl ?_
  refine WL.assign rfl rfl ?_
  refine WL.done ?_
  refine W.seq ?_
  refine W.region ?_
  refine WL.move rfl rfl ?_
  refine WL.conv (r := (((x + y + c) % 4294967296 : Nat) : Int)) Try.underlying72 Try.underlying43 rfl (wu32m (by omega)) rfl ?_
  refine WL.assign rfl rfl ?_
  refine WL.done ?_
  refine W.seq ?_
  refine W.region ?_
  refine WL.move rfl rfl ?_
  refine WL.shr (r := ((((x + y) + c) / 4294967296 : Nat) : Int)) rfl rfl (by omega) (shr_nat (a := (x + y) + c) (s := 32) (by omega) (by omega) 64 (by omega)) rfl ?_
  refine WL.conv (r := ((((x + y) + c) / 4294967296 : Nat) : Int)) Try.underlying72 Try.underlying43 rfl (wu32 (by omega) (by omega) (by omega)) rfl ?_
  refine WL.assign rfl rfl ?_
  refine WL.done ?_
  refine W.ret ?_
  refine ⟨_, rfl, ?_⟩
  exact ⟨rfl, hB⟩

theorem Cmp_c {w : World} {Ba : Nat} {Aa : Option Addr} {ma ca : Nat} {xa : List Nat} (ha : Rd Ba w 1 Aa ma ca (us xa)) {Bb : Nat} {Ab : Option Addr} {mb cb : Nat} {xb : List Nat} (hb : Rd Bb w 1 Ab mb cb (us xb)) (hLa : Lim xa) (hLb : Lim xb) :
    Calls Try.prog 72 #[.slice Aa ma ca, .slice Ab mb cb] w fun e w2 => ∃ v, e = .returned v ∧ (fun v w2 => v = .int .i64 (cmpI (nv xa) (nv xb)) ∧ w.grownBy w2 none) v w2 := by
  have ha := ha.norm
  have ha_l := ha.ulen
  have ha_x := ha.max
  simp only [maxLen] at ha_x
  have ha_c := ha.cap
  have hb := hb.norm
  have hb_l := hb.ulen
  have hb_x := hb.max
  simp only [maxLen] at hb_x
  have hb_c := hb.cap
  have ha0 := ha
  have hb0 := hb
  have hsa := sigL_le xa
  have hsb := sigL_le xb
  have hB := ext_refl w
  refine calls_of_W (vs := [.slice Aa ma ca, .slice Ab mb cb]) [4] Try.func72 rfl rfl rfl rfl ?_
  refine W.seq ?_
  refine W.region ?_
  refine WL.assign rfl rfl ?_
  refine WL.done ?_
  refine W.seq ?_
  refine W.region ?_
  refine WL.move rfl rfl ?_
  refine WL.call Try.func44 rfl Try.nm44 rfl rfl (sig_c ha) ?_
  rintro _ w11 ⟨rfl, hGw11⟩
  have hB := ext_trans hB hGw11
  have ha := ha0.ext hB
  have hb := hb0.ext hB
  refine WL.move rfl rfl ?_
  refine WL.call Try.func44 rfl Try.nm44 rfl rfl (sig_c hb) ?_
  rintro _ w12 ⟨rfl, hGw12⟩
  have hB := ext_trans hB hGw12
  have ha := ha0.ext hB
  have hb := hb0.ext hB
  refine WL.assign rfl rfl ?_
  refine WL.assign rfl rfl ?_
  refine WL.done ?_
  refine W.seq ?_
  refine W.seq ?_
  refine W.region ?_
  refine WL.move rfl rfl ?_
  refine WL.len Try.underlying23 rfl rfl ?_
  refine WL.move rfl rfl ?_
  refine WL.len Try.underlying23 rfl rfl ?_
  refine WL.neq rfl rfl rfl (fun c13 => ?_) (fun c13 => ?_)
  · refine WL.done ?_
    refine W.condT rfl ?_
    refine W.seq ?_
    refine W.region ?_
    refine WL.move rfl rfl ?_
    refine WL.len Try.underlying23 rfl rfl ?_
    refine WL.move rfl rfl ?_
    refine WL.len Try.underlying23 rfl rfl ?_
    refine WL.lss rfl rfl rfl (fun c14 => ?_) (fun c14 => ?_)
    · refine WL.call Try.func93 rfl Try.nm93 rfl rfl (order_c _) ?_
      rintro _ w15 ⟨rfl, hGw15⟩
      have hB := ext_trans hB hGw15
      refine WL.assign rfl rfl ?_
      refine WL.done ?_
      refine W.ret ?_
      refine ⟨_, rfl, ?_⟩
      rw [cmpI_lt (sigL_lt hLa (by omega))]; exact ⟨rfl, hB⟩
    · refine WL.call Try.func93 rfl Try.nm93 rfl rfl (order_c _) ?_
      rintro _ w16 ⟨rfl, hGw16⟩
      have hB := ext_trans hB hGw16
      refine WL.assign rfl rfl ?_
      refine WL.done ?_
      refine W.ret ?_
      refine ⟨_, rfl, ?_⟩
      rw [cmpI_gt (sigL_lt hLb (by omega))]; exact ⟨rfl, hB⟩
  · refine WL.done ?_
    refine W.condF rfl ?_
    refine W.skip ?_
    refine W.seq ?_
    refine W.seq ?_
    refine W.region ?_
    refine WL.move rfl rfl ?_
    refine WL.len Try.underlying23 rfl rfl ?_
    refine WL.sub (r := (((sigL xa : Nat) : Int) - (1 : Int))) rfl rfl (wi64 (by omega) (by omega) (by omega)) rfl ?_
    refine WL.assign rfl rfl ?_
    refine WL.done ?_
    refine W.block ?_
    refine W.loop (σ := Nat) (fun k w1 => w.grownBy w1 none ∧ k ≤ sigL xa ∧ nv (xa.drop k) = nv (xb.drop k)) (fun k => [(0, .slice Aa (sigL xa) ca), (1, .slice Ab (sigL xb) cb), (5, .int .i64 ((k : Int) - 1))]) (fun k => k) (sigL xa) ?_ ?_ ?_
    · exact ⟨hB, Nat.le_refl _, by rw [nv_drop_sig xa (Nat.le_refl _), nv_drop_sig xb (by omega)]⟩
    · exact ⟨rfl, rfl, iv (by omega), trivial⟩
    · rintro k w17 ⟨hB, hk, heq⟩
      have ha := ha0.ext hB
      have hb := hb0.ext hB
      have hta : 0 < k → (trimL xa).getD (k - 1) 0 = xa.getD (k - 1) 0 := fun _ => trimL_getD (by omega)
      have htb : 0 < k → (trimL xb).getD (k - 1) 0 = xb.getD (k - 1) 0 := fun _ => trimL_getD (by omega)
      have hla : (trimL xa).length = sigL xa := rfl
      have hlb : (trimL xb).length = sigL xb := rfl
      refine W.seq ?_
      refine W.seq ?_
      refine W.region ?_
      refine WL.move rfl rfl ?_
      refine WL.geq rfl rfl rfl (fun c18 => ?_) (fun c18 => ?_)
      · refine WL.done ?_
        refine W.condT rfl ?_
        refine W.skip ?_
        refine W.seq ?_
        refine W.block ?_
        refine W.seq ?_
        refine W.draw [⟨[], [0], true⟩, ⟨[], [5], true⟩, ⟨[0, 1], [], true⟩, ⟨[2], [], false⟩, ⟨[], [1], true⟩, ⟨[], [5], true⟩, ⟨[4, 5], [], true⟩, ⟨[6], [], false⟩, ⟨[3, 7], [], true⟩] [[(0, .slice Aa (sigL xa) ca)], [(5, .int .i64 ((k : Int) - 1))], [], [], [(1, .slice Ab (sigL xb) cb)], [(5, .int .i64 ((k : Int) - 1))], [], [], []] (fun iQ => [fun v _ => v = .slice Aa (sigL xa) ca, fun v _ => v = .int .i64 ((k : Int) - 1), fun v _ => v = .pointer (some ((adOf Aa).add (k - 1))), fun v _ => v = .int .u32 (((trimL xa).getD (k - 1) 0 : Nat) : Int), fun v _ => v = .slice Ab (sigL xb) cb, fun v _ => v = .int .i64 ((k : Int) - 1), fun v _ => v = .pointer (some ((adOf Ab).add (k - 1))), fun v _ => v = .int .u32 (((trimL xb).getD (k - 1) 0 : Nat) : Int), fun v _ => v = .bool (decide ((((trimL xa).getD (k - 1) 0 : Nat) : Int) ≠ (((trimL xb).getD (k - 1) 0 : Nat) : Int)))].getD iQ (fun _ _ => True)) (fun _ => True) 9 Try.mixed (by kernel_rfl) ?_ ?_ ?_
        · refine Vs_mono _ ?_
          intro VQ hVQ vQ wQ1 wQ2 hQ1 hQ2
          simp only [List.mem_cons, List.not_mem_nil, or_false] at hVQ
          rcases hVQ with rfl | rfl | rfl | rfl | rfl | rfl | rfl | rfl | rfl <;> exact hQ1
        · refine ⟨⟨rfl, ⟨rfl, trivial⟩, ?_⟩, ⟨rfl, ⟨rfl, trivial⟩, ?_⟩, ⟨rfl, trivial, ?_⟩, ⟨rfl, trivial, ?_⟩, ⟨rfl, ⟨rfl, trivial⟩, ?_⟩, ⟨rfl, ⟨rfl, trivial⟩, ?_⟩, ⟨rfl, trivial, ?_⟩, ⟨rfl, trivial, ?_⟩, ⟨rfl, trivial, ?_⟩, trivial⟩
          · intro w19 hE
            intro R
            refine WL.move rfl rfl ?_
            exact WL.done ⟨_, rfl, rfl, rfl⟩
          · intro w20 hE
            intro R
            refine WL.move rfl rfl ?_
            exact WL.done ⟨_, rfl, rfl, rfl⟩
          · intro w21 hE
            rintro _ rfl
            rintro _ rfl
            intro R
            refine WL.index1 (k - 1) Try.underlying23 Try.el43 rfl rfl (by omega) (by omega) ha.sig rfl ?_
            exact WL.done ⟨_, rfl, rfl, rfl⟩
          · intro w22 hE
            have hE := hE rfl
            have hB := ext_trans hB hE
            have ha := ha0.ext hB
            rintro _ rfl
            intro R
            refine WL.load Try.underlying43 rfl rfl (Rd.at_ ha.sig (us_at (by omega))) rfl ?_
            exact WL.done ⟨_, rfl, ext_refl _, rfl⟩
          · intro w23 hE
            intro R
            refine WL.move rfl rfl ?_
            exact WL.done ⟨_, rfl, rfl, rfl⟩
          · intro w24 hE
            intro R
            refine WL.move rfl rfl ?_
            exact WL.done ⟨_, rfl, rfl, rfl⟩
          · intro w25 hE
            rintro _ rfl
            rintro _ rfl
            intro R
            refine WL.index1 (k - 1) Try.underlying23 Try.el43 rfl rfl (by omega) (by omega) hb.sig rfl ?_
            exact WL.done ⟨_, rfl, rfl, rfl⟩
          · intro w26 hE
            have hE := hE rfl
            have hB := ext_trans hB hE
            have hb := hb0.ext hB
            rintro _ rfl
            intro R
            refine WL.load Try.underlying43 rfl rfl (Rd.at_ hb.sig (us_at (by omega))) rfl ?_
            exact WL.done ⟨_, rfl, ext_refl _, rfl⟩
          · intro w27 hE
            rintro _ rfl
            rintro _ rfl
            intro R
            refine WL.neqD rfl rfl rfl ?_
            exact WL.done ⟨_, rfl, rfl, rfl⟩
        · intro vals w28 hT hVs
          rw [if_neg (by decide)] at hT
          have hB := ext_trans hB hT
          have ha := ha0.ext hB
          have hb := hb0.ext hB
          have hv0 : vals 0 = _ := hVs 0 (by decide) (by decide)
          have hv1 : vals 1 = _ := hVs 1 (by decide) (by decide)
          have hv2 : vals 2 = _ := hVs 2 (by decide) (by decide)
          have hv3 : vals 3 = _ := hVs 3 (by decide) (by decide)
          have hv4 : vals 4 = _ := hVs 4 (by decide) (by decide)
          have hv5 : vals 5 = _ := hVs 5 (by decide) (by decide)
          have hv6 : vals 6 = _ := hVs 6 (by decide) (by decide)
          have hv7 : vals 7 = _ := hVs 7 (by decide) (by decide)
          have hv8 : vals 8 = _ := hVs 8 (by decide) (by decide)
          rw [show (List.filterMap (fun i => Option.map (fun t => (t, vals i)) (dstAt _ i)) (List.range _)) = [(28, .slice Aa (sigL xa) ca), (29, .int .i64 ((k : Int) - 1)), (30, .pointer (some ((adOf Aa).add (k - 1)))), (31, .int .u32 (((trimL xa).getD (k - 1) 0 : Nat) : Int)), (32, .slice Ab (sigL xb) cb), (33, .int .i64 ((k : Int) - 1)), (34, .pointer (some ((adOf Ab).add (k - 1)))), (35, .int .u32 (((trimL xb).getD (k - 1) 0 : Nat) : Int)), (36, .bool (decide ((((trimL xa).getD (k - 1) 0 : Nat) : Int) ≠ (((trimL xb).getD (k - 1) 0 : Nat) : Int))))] from by
            show [(28, vals 0), (29, vals 1), (30, vals 2), (31, vals 3), (32, vals 4), (33, vals 5), (34, vals 6), (35, vals 7), (36, vals 8)] = _
            rw [hv0, hv1, hv2, hv3, hv4, hv5, hv6, hv7, hv8]]
          refine W.cond2 rfl (fun c29 => ?_) (fun c29 => ?_)
          · have c29 := of_decide_eq_true c29
            refine W.seq ?_
            refine W.draw [⟨[], [0], true⟩, ⟨[], [5], true⟩, ⟨[0, 1], [], true⟩, ⟨[2], [], false⟩, ⟨[], [1], true⟩, ⟨[], [5], true⟩, ⟨[4, 5], [], true⟩, ⟨[6], [], false⟩, ⟨[3, 7], [], true⟩, ⟨[8], [], false⟩, ⟨[9], [], true⟩] [[(0, .slice Aa (sigL xa) ca)], [(5, .int .i64 ((k : Int) - 1))], [], [], [(1, .slice Ab (sigL xb) cb)], [(5, .int .i64 ((k : Int) - 1))], [], [], [], [], []] (fun iQ => [fun v _ => v = .slice Aa (sigL xa) ca, fun v _ => v = .int .i64 ((k : Int) - 1), fun v _ => v = .pointer (some ((adOf Aa).add (k - 1))), fun v _ => v = .int .u32 (((trimL xa).getD (k - 1) 0 : Nat) : Int), fun v _ => v = .slice Ab (sigL xb) cb, fun v _ => v = .int .i64 ((k : Int) - 1), fun v _ => v = .pointer (some ((adOf Ab).add (k - 1))), fun v _ => v = .int .u32 (((trimL xb).getD (k - 1) 0 : Nat) : Int), fun v _ => v = .bool (decide ((((trimL xa).getD (k - 1) 0 : Nat) : Int) < (((trimL xb).getD (k - 1) 0 : Nat) : Int))), fun v _ => v = .int .i64 (if (decide ((((trimL xa).getD (k - 1) 0 : Nat) : Int) < (((trimL xb).getD (k - 1) 0 : Nat) : Int))) then -1 else 1), fun v _ => v = .int .i64 (if (decide ((((trimL xa).getD (k - 1) 0 : Nat) : Int) < (((trimL xb).getD (k - 1) 0 : Nat) : Int))) then -1 else 1)].getD iQ (fun _ _ => True)) (fun _ => True) 11 Try.mixed (by kernel_rfl) ?_ ?_ ?_
            · refine Vs_mono _ ?_
              intro VQ hVQ vQ wQ1 wQ2 hQ1 hQ2
              simp only [List.mem_cons, List.not_mem_nil, or_false] at hVQ
              rcases hVQ with rfl | rfl | rfl | rfl | rfl | rfl | rfl | rfl | rfl | rfl | rfl <;> exact hQ1
            · refine ⟨⟨rfl, ⟨rfl, trivial⟩, ?_⟩, ⟨rfl, ⟨rfl, trivial⟩, ?_⟩, ⟨rfl, trivial, ?_⟩, ⟨rfl, trivial, ?_⟩, ⟨rfl, ⟨rfl, trivial⟩, ?_⟩, ⟨rfl, ⟨rfl, trivial⟩, ?_⟩, ⟨rfl, trivial, ?_⟩, ⟨rfl, trivial, ?_⟩, ⟨rfl, trivial, ?_⟩, ⟨rfl, trivial, ?_⟩, ⟨rfl, trivial, ?_⟩, trivial⟩
              · intro w30 hE
                intro R
                refine WL.move rfl rfl ?_
                exact WL.done ⟨_, rfl, rfl, rfl⟩
              · intro w31 hE
                intro R
                refine WL.move rfl rfl ?_
                exact WL.done ⟨_, rfl, rfl, rfl⟩
              · intro w32 hE
                rintro _ rfl
                rintro _ rfl
                intro R
                refine WL.index1 (k - 1) Try.underlying23 Try.el43 rfl rfl (by omega) (by omega) ha.sig rfl ?_
                exact WL.done ⟨_, rfl, rfl, rfl⟩
              · intro w33 hE
                have hE := hE rfl
                have hB := ext_trans hB hE
                have ha := ha0.ext hB
                rintro _ rfl
                intro R
                refine WL.load Try.underlying43 rfl rfl (Rd.at_ ha.sig (us_at (by omega))) rfl ?_
                exact WL.done ⟨_, rfl, ext_refl _, rfl⟩
              · intro w34 hE
                intro R
                refine WL.move rfl rfl ?_
                exact WL.done ⟨_, rfl, rfl, rfl⟩
              · intro w35 hE
                intro R
                refine WL.move rfl rfl ?_
                exact WL.done ⟨_, rfl, rfl, rfl⟩
              · intro w36 hE
                rintro _ rfl
                rintro _ rfl
                intro R
                refine WL.index1 (k - 1) Try.underlying23 Try.el43 rfl rfl (by omega) (by omega) hb.sig rfl ?_
                exact WL.done ⟨_, rfl, rfl, rfl⟩
              · intro w37 hE
                have hE := hE rfl
                have hB := ext_trans hB hE
                have hb := hb0.ext hB
                rintro _ rfl
                intro R
                refine WL.load Try.underlying43 rfl rfl (Rd.at_ hb.sig (us_at (by omega))) rfl ?_
                exact WL.done ⟨_, rfl, ext_refl _, rfl⟩
              · intro w38 hE
                rintro _ rfl
                rintro _ rfl
                intro R
                refine WL.lssD rfl rfl rfl ?_
                exact WL.done ⟨_, rfl, rfl, rfl⟩
              · intro w39 hE
                have hE := hE rfl
                have hB := ext_trans hB hE
                rintro _ rfl
                intro R
                refine WL.call Try.func93 rfl Try.nm93 rfl rfl (order_c _) ?_
                rintro _ w40 ⟨rfl, hGw40⟩
                have hB := ext_trans hB hGw40
                exact WL.done ⟨_, rfl, hGw40, rfl⟩
              · intro w41 hE
                rintro _ rfl
                intro R
                refine WL.assign rfl rfl ?_
                exact WL.done ⟨_, rfl, rfl, rfl⟩
            · intro vals w42 hT hVs
              rw [if_neg (by decide)] at hT
              have hB := ext_trans hB hT
              have hv0 : vals 0 = _ := hVs 0 (by decide) (by decide)
              have hv1 : vals 1 = _ := hVs 1 (by decide) (by decide)
              have hv2 : vals 2 = _ := hVs 2 (by decide) (by decide)
              have hv3 : vals 3 = _ := hVs 3 (by decide) (by decide)
              have hv4 : vals 4 = _ := hVs 4 (by decide) (by decide)
              have hv5 : vals 5 = _ := hVs 5 (by decide) (by decide)
              have hv6 : vals 6 = _ := hVs 6 (by decide) (by decide)
              have hv7 : vals 7 = _ := hVs 7 (by decide) (by decide)
              have hv8 : vals 8 = _ := hVs 8 (by decide) (by decide)
              have hv9 : vals 9 = _ := hVs 9 (by decide) (by decide)
              have hv10 : vals 10 = _ := hVs 10 (by decide) (by decide)
              rw [show (List.filterMap (fun i => Option.map (fun t => (t, vals i)) (dstAt _ i)) (List.range _)) = [(37, .slice Aa (sigL xa) ca), (38, .int .i64 ((k : Int) - 1)), (39, .pointer (some ((adOf Aa).add (k - 1)))), (40, .int .u32 (((trimL xa).getD (k - 1) 0 : Nat) : Int)), (41, .slice Ab (sigL xb) cb), (42, .int .i64 ((k : Int) - 1)), (43, .pointer (some ((adOf Ab).add (k - 1)))), (44, .int .u32 (((trimL xb).getD (k - 1) 0 : Nat) : Int)), (45, .bool (decide ((((trimL xa).getD (k - 1) 0 : Nat) : Int) < (((trimL xb).getD (k - 1) 0 : Nat) : Int)))), (46, .int .i64 (if (decide ((((trimL xa).getD (k - 1) 0 : Nat) : Int) < (((trimL xb).getD (k - 1) 0 : Nat) : Int))) then -1 else 1)), (4, .int .i64 (if (decide ((((trimL xa).getD (k - 1) 0 : Nat) : Int) < (((trimL xb).getD (k - 1) 0 : Nat) : Int))) then -1 else 1))] from by
                show [(37, vals 0), (38, vals 1), (39, vals 2), (40, vals 3), (41, vals 4), (42, vals 5), (43, vals 6), (44, vals 7), (45, vals 8), (46, vals 9), (4, vals 10)] = _
                rw [hv0, hv1, hv2, hv3, hv4, hv5, hv6, hv7, hv8, hv9, hv10]]
              refine W.ret ?_
              refine ⟨_, rfl, ?_⟩
              refine ⟨?_, hB⟩
              have h1 := hta (by omega)
              have h2 := htb (by omega)
              rcases Nat.lt_or_ge (xa.getD (k - 1) 0) (xb.getD (k - 1) 0) with h3 | h3
              · rw [cmpI_lt (nv_lt_at hLa (i := k - 1) (by rw [Nat.sub_add_cancel (by omega)]; exact heq) h3), decide_eq_true (by omega)]; rfl
              · rw [cmpI_gt (nv_lt_at hLb (i := k - 1) (by rw [Nat.sub_add_cancel (by omega)]; exact heq.symm) (by omega)), decide_eq_false (by omega)]; rfl
          · have c29 := of_decide_eq_false c29
            refine W.skip ?_
            refine W.region ?_
            refine WL.move rfl rfl ?_
            refine WL.sub (r := ((k : Int) - 1 - 1)) rfl rfl (wi64 (by omega) (by omega) (by omega)) rfl ?_
            refine WL.assign rfl rfl ?_
            refine WL.done ?_
            refine ⟨k - 1, ⟨rfl, rfl, iv (by omega), trivial⟩, by omega, ?_⟩
            exact ⟨hB, by omega, drop_step (by rw [Nat.sub_add_cancel (by omega)]; exact heq) (by omega)⟩
      · refine WL.done ?_
        refine W.condF rfl ?_
        refine W.exit ?_
        refine W.seq ?_
        refine W.region ?_
        refine WL.assign rfl rfl ?_
        refine WL.done ?_
        refine W.ret ?_
        refine ⟨_, rfl, ?_⟩
        have : k = 0 := by omega
        subst this
        simp only [List.drop_zero] at heq
        rw [cmpI_eq heq]; exact ⟨rfl, hB⟩

theorem rMul_c {w : World} {Ba : Nat} {Aa : Option Addr} {ma ca : Nat} {xa : List Nat} (ha : Rd Ba w 1 Aa ma ca (us xa)) {Bb : Nat} {Ab : Option Addr} {mb cb : Nat} {xb : List Nat} (hb : Rd Bb w 1 Ab mb cb (us xb)) (hLa : Lim xa) (hLb : Lim xb) (hsa : ma ≤ 1099511627776) (hsb : mb ≤ 1099511627776) :
    Calls Try.prog 68 #[.slice Aa ma ca, .slice Ab mb cb] w fun e w2 => ∃ v, e = .returned v ∧ (fun v w2 => ∃ A2 m2 c2, v = .slice A2 m2 c2 ∧ w.grownBy w2 none ∧ Own w.heap.size w2 43 1 A2 m2 c2 (us (digs (nv xa * nv xb))) ∧ m2 ≤ ma + mb) v w2 := by
  have ha := ha.norm
  have ha_l := ha.ulen
  have ha_x := ha.max
  simp only [maxLen] at ha_x
  have ha_c := ha.cap
  have hb := hb.norm
  have hb_l := hb.ulen
  have hb_x := hb.max
  simp only [maxLen] at hb_x
  have hb_c := hb.cap
  have ha0 := ha
  have hb0 := hb
  have hB := ext_refl w
  refine calls_of_W (vs := [.slice Aa ma ca, .slice Ab mb cb]) [4] Try.func68 rfl rfl rfl rfl ?_
  refine W.seq ?_
  refine W.region ?_
  refine WL.assign rfl rfl ?_
  refine WL.done ?_
  refine W.seq ?_
  refine W.region ?_
  refine WL.move rfl rfl ?_
  refine WL.len Try.underlying23 rfl rfl ?_
  refine WL.move rfl rfl ?_
  refine WL.len Try.underlying23 rfl rfl ?_
  refine WL.add (r := ((ma + mb : Nat) : Int)) rfl rfl (wi64 (by omega) (by omega) (by omega)) rfl ?_
  refine WL.make (w.heap.size) (ma + mb) Try.underlying23 Try.el43 rfl rfl (by omega) (by omega) (by simp only [maxLen]; omega) (Nat.le_of_eq rfl) rfl ?_
  rintro A11 w12 - ho hGw12
  rw [made_us] at ho
  have ho := ho.low (b' := w.heap.size) hB.size
  have hB := ext_trans hB hGw12
  have ha := ha0.ext hB
  have hb := hb0.ext hB
  refine WL.assign rfl rfl ?_
  refine WL.done ?_
  refine W.seq ?_
  refine W.seq ?_
  refine W.region ?_
  refine WL.assign rfl rfl ?_
  refine WL.done ?_
  refine W.block ?_
  refine W.loop (σ := Nat × Nat × List Nat × Option Addr × Nat) (fun s w1 => match s with | (i, n, zs, Ao, co) => w.grownBy w1 none ∧ i ≤ ma ∧ n = ma + mb ∧ Lim zs ∧ zs.length = n ∧ (∀ t, i + mb ≤ t → zs.getD t 0 = 0) ∧ nv zs = nv (xa.take i) * nv xb ∧ Own w.heap.size w1 43 1 Ao n co (us zs)) (fun s => match s with | (i, n, zs, Ao, co) => [(0, .slice Aa ma ca), (1, .slice Ab mb cb), (5, .slice Ao n co), (6, .int .i64 ((i : Nat) : Int))]) (fun s => match s with | (i, n, zs, Ao, co) => ma - i) (0, ma + mb, List.replicate (ma + mb) 0, A11, ma + mb) ?_ ?_ ?_
  · exact ⟨hB, by omega, rfl, Lim.zeros _, by simp, fun t _ => zeros_getD _ _, by simp [nv_zeros], ho⟩
  · exact ⟨rfl, rfl, rfl, iv (by omega), trivial⟩
  · rintro ⟨i, n, zs, Ao, co⟩ w13 ⟨hB, hi, hn, hLz, hlz, h0z, heq, ho⟩
    have ha := ha0.ext hB
    have hb := hb0.ext hB
    refine W.seq ?_
    refine W.seq ?_
    refine W.region ?_
    refine WL.move rfl rfl ?_
    refine WL.move rfl rfl ?_
    refine WL.len Try.underlying23 rfl rfl ?_
    refine WL.lss rfl rfl rfl (fun c14 => ?_) (fun c14 => ?_)
    · refine WL.done ?_
      refine W.condT rfl ?_
      refine W.skip ?_
      refine W.seq ?_
      refine W.block ?_
      refine W.seq ?_
      refine W.region ?_
      refine WL.assign rfl rfl ?_
      refine WL.done ?_
      refine W.seq ?_
      refine W.seq ?_
      refine W.region ?_
      refine WL.assign rfl rfl ?_
      refine WL.done ?_
      refine W.block ?_
      refine W.loop (σ := Nat × Nat × List Nat × Option Addr × Nat) (fun s w1 => match s with | (j, c, zs, Ao, co) => w.grownBy w1 none ∧ j ≤ mb ∧ c < 4294967296 ∧ Lim zs ∧ zs.length = n ∧ (∀ t, i + mb ≤ t → zs.getD t 0 = 0) ∧ nv zs + 4294967296 ^ (i + j) * c = nv (xa.take i) * nv xb + 4294967296 ^ i * (xa.getD i 0 * nv (xb.take j)) ∧ Own w.heap.size w1 43 1 Ao n co (us zs)) (fun s => match s with | (j, c, zs, Ao, co) => [(0, .slice Aa ma ca), (1, .slice Ab mb cb), (5, .slice Ao n co), (6, .int .i64 ((i : Nat) : Int)), (7, .int .u64 ((c : Nat) : Int)), (8, .int .i64 ((j : Nat) : Int))]) (fun s => match s with | (j, c, zs, Ao, co) => mb - j) (0, 0, zs, Ao, co) ?_ ?_ ?_
      · exact ⟨hB, by omega, by omega, hLz, hlz, h0z, by simpa [nv] using heq, ho⟩
      · exact ⟨rfl, rfl, rfl, iv (by omega), iv (by omega), iv (by omega), trivial⟩
      · rintro ⟨j, c, zs, Ao, co⟩ w15 ⟨hB, hj, hc, hLz, hlz, h0z, heq, ho⟩
        have ha := ha0.ext hB
        have hb := hb0.ext hB
        have hxa := hLa.getD i
        have hxb := hLb.getD j
        have hz := hLz.getD (i + j)
        have hm1 := mul_lim hxa hxb hz hc
        have hm0 := mul_lim0 hxa hxb
        refine W.seq ?_
        refine W.seq ?_
        refine W.region ?_
        refine WL.move rfl rfl ?_
        refine WL.move rfl rfl ?_
        refine WL.len Try.underlying23 rfl rfl ?_
        refine WL.lss rfl rfl rfl (fun c16 => ?_) (fun c16 => ?_)
        · refine WL.done ?_
          refine W.condT rfl ?_
          refine W.skip ?_
          refine W.seq ?_
          refine W.block ?_
          refine W.seq ?_
          refine W.draw [⟨[], [0], true⟩, ⟨[], [6], true⟩, ⟨[0, 1], [], true⟩, ⟨[2], [], false⟩, ⟨[3], [], true⟩, ⟨[], [1], true⟩, ⟨[], [8], true⟩, ⟨[5, 6], [], true⟩, ⟨[7], [], false⟩, ⟨[8], [], true⟩, ⟨[4, 9], [], true⟩, ⟨[], [5], true⟩, ⟨[], [6], true⟩, ⟨[], [8], true⟩, ⟨[12, 13], [], true⟩, ⟨[11, 14], [], true⟩, ⟨[15], [], false⟩, ⟨[16], [], true⟩, ⟨[10, 17], [], true⟩, ⟨[], [7], true⟩, ⟨[18, 19], [], true⟩, ⟨[20], [], true⟩] [[(0, .slice Aa ma ca)], [(6, .int .i64 ((i : Nat) : Int))], [], [], [], [(1, .slice Ab mb cb)], [(8, .int .i64 ((j : Nat) : Int))], [], [], [], [], [(5, .slice Ao n co)], [(6, .int .i64 ((i : Nat) : Int))], [(8, .int .i64 ((j : Nat) : Int))], [], [], [], [], [], [(7, .int .u64 ((c : Nat) : Int))], [], []] (fun iQ => [fun v _ => v = .slice Aa ma ca, fun v _ => v = .int .i64 ((i : Nat) : Int), fun v _ => v = .pointer (some ((adOf Aa).add i)), fun v _ => v = .int .u32 ((xa.getD i 0 : Nat) : Int), fun v _ => v = .int .u64 ((xa.getD i 0 : Nat) : Int), fun v _ => v = .slice Ab mb cb, fun v _ => v = .int .i64 ((j : Nat) : Int), fun v _ => v = .pointer (some ((adOf Ab).add j)), fun v _ => v = .int .u32 ((xb.getD j 0 : Nat) : Int), fun v _ => v = .int .u64 ((xb.getD j 0 : Nat) : Int), fun v _ => v = .int .u64 (((xa.getD i 0) * (xb.getD j 0) : Nat) : Int), fun v _ => v = .slice Ao n co, fun v _ => v = .int .i64 ((i : Nat) : Int), fun v _ => v = .int .i64 ((j : Nat) : Int), fun v _ => v = .int .i64 ((i + j : Nat) : Int), fun v _ => v = .pointer (some ((adOf Ao).add (i + j))), fun v _ => v = .int .u32 ((zs.getD (i + j) 0 : Nat) : Int), fun v _ => v = .int .u64 ((zs.getD (i + j) 0 : Nat) : Int), fun v _ => v = .int .u64 ((((xa.getD i 0) * (xb.getD j 0)) + (zs.getD (i + j) 0) : Nat) : Int), fun v _ => v = .int .u64 ((c : Nat) : Int), fun v _ => v = .int .u64 (((((xa.getD i 0) * (xb.getD j 0)) + (zs.getD (i + j) 0)) + c : Nat) : Int), fun v _ => v = .int .u64 (((((xa.getD i 0) * (xb.getD j 0)) + (zs.getD (i + j) 0)) + c : Nat) : Int)].getD iQ (fun _ _ => True)) (fun _ => True) 22 Try.mixed (by kernel_rfl) ?_ ?_ ?_
          · refine Vs_mono _ ?_
            intro VQ hVQ vQ wQ1 wQ2 hQ1 hQ2
            simp only [List.mem_cons, List.not_mem_nil, or_false] at hVQ
            rcases hVQ with rfl | rfl | rfl | rfl | rfl | rfl | rfl | rfl | rfl | rfl | rfl | rfl | rfl | rfl | rfl | rfl | rfl | rfl | rfl | rfl | rfl | rfl <;> exact hQ1
          · refine ⟨⟨rfl, ⟨rfl, trivial⟩, ?_⟩, ⟨rfl, ⟨rfl, trivial⟩, ?_⟩, ⟨rfl, trivial, ?_⟩, ⟨rfl, trivial, ?_⟩, ⟨rfl, trivial, ?_⟩, ⟨rfl, ⟨rfl, trivial⟩, ?_⟩, ⟨rfl, ⟨rfl, trivial⟩, ?_⟩, ⟨rfl, trivial, ?_⟩, ⟨rfl, trivial, ?_⟩, ⟨rfl, trivial, ?_⟩, ⟨rfl, trivial, ?_⟩, ⟨rfl, ⟨rfl, trivial⟩, ?_⟩, ⟨rfl, ⟨rfl, trivial⟩, ?_⟩, ⟨rfl, ⟨rfl, trivial⟩, ?_⟩, ⟨rfl, trivial, ?_⟩, ⟨rfl, trivial, ?_⟩, ⟨rfl, trivial, ?_⟩, ⟨rfl, trivial, ?_⟩, ⟨rfl, trivial, ?_⟩, ⟨rfl, ⟨rfl, trivial⟩, ?_⟩, ⟨rfl, trivial, ?_⟩, ⟨rfl, trivial, ?_⟩, trivial⟩
            · intro w17 hE
              intro R
              refine WL.move rfl rfl ?_
              exact WL.done ⟨_, rfl, rfl, rfl⟩
            · intro w18 hE
              intro R
              refine WL.move rfl rfl ?_
              exact WL.done ⟨_, rfl, rfl, rfl⟩
            · intro w19 hE
              rintro _ rfl
              rintro _ rfl
              intro R
              refine WL.index1 (i) Try.underlying23 Try.el43 rfl rfl (by omega) (by omega) ha rfl ?_
              exact WL.done ⟨_, rfl, rfl, rfl⟩
            · intro w20 hE
              have hE := hE rfl
              have hB := ext_trans hB hE
              have ha := ha0.ext hB
              rintro _ rfl
              intro R
              refine WL.load Try.underlying43 rfl rfl (Rd.at_ ha (us_at (by omega))) rfl ?_
              exact WL.done ⟨_, rfl, ext_refl _, rfl⟩
            · intro w21 hE
              rintro _ rfl
              intro R
              refine WL.conv (r := ((xa.getD i 0 : Nat) : Int)) Try.underlying43 Try.underlying72 rfl (wu64 (by omega) (by omega) (by omega)) rfl ?_
              exact WL.done ⟨_, rfl, rfl, rfl⟩
            · intro w22 hE
              intro R
              refine WL.move rfl rfl ?_
              exact WL.done ⟨_, rfl, rfl, rfl⟩
            · intro w23 hE
              intro R
              refine WL.move rfl rfl ?_
              exact WL.done ⟨_, rfl, rfl, rfl⟩
            · intro w24 hE
              rintro _ rfl
              rintro _ rfl
              intro R
              refine WL.index1 (j) Try.underlying23 Try.el43 rfl rfl (by omega) (by omega) hb rfl ?_
              exact WL.done ⟨_, rfl, rfl, rfl⟩
            · intro w25 hE
              have hE := hE rfl
              have hB := ext_trans hB hE
              have hb := hb0.ext hB
              rintro _ rfl
              intro R
              refine WL.load Try.underlying43 rfl rfl (Rd.at_ hb (us_at (by omega))) rfl ?_
              exact WL.done ⟨_, rfl, ext_refl _, rfl⟩
            · intro w26 hE
              rintro _ rfl
              intro R
              refine WL.conv (r := ((xb.getD j 0 : Nat) : Int)) Try.underlying43 Try.underlying72 rfl (wu64 (by omega) (by omega) (by omega)) rfl ?_
              exact WL.done ⟨_, rfl, rfl, rfl⟩
            · intro w27 hE
              rintro _ rfl
              rintro _ rfl
              intro R
              refine WL.mul (r := (((xa.getD i 0) * (xb.getD j 0) : Nat) : Int)) rfl rfl (by rw [← Int.natCast_mul]; exact wu64 (by omega) (by omega) rfl) rfl ?_
              exact WL.done ⟨_, rfl, rfl, rfl⟩
            · intro w28 hE
              intro R
              refine WL.move rfl rfl ?_
              exact WL.done ⟨_, rfl, rfl, rfl⟩
            · intro w29 hE
              intro R
              refine WL.move rfl rfl ?_
              exact WL.done ⟨_, rfl, rfl, rfl⟩
            · intro w30 hE
              intro R
              refine WL.move rfl rfl ?_
              exact WL.done ⟨_, rfl, rfl, rfl⟩
            · intro w31 hE
              rintro _ rfl
              rintro _ rfl
              intro R
              refine WL.add (r := ((i + j : Nat) : Int)) rfl rfl (wi64 (by omega) (by omega) (by omega)) rfl ?_
              exact WL.done ⟨_, rfl, rfl, rfl⟩
            · intro w32 hE
              rintro _ rfl
              rintro _ rfl
              intro R
              refine WL.index1 (i + j) Try.underlying23 Try.el43 rfl rfl (by omega) (by omega) ho.rd rfl ?_
              exact WL.done ⟨_, rfl, rfl, rfl⟩
            · intro w33 hE
              have hE := hE rfl
              have hB := ext_trans hB hE
              have ho := ho.ext hE
              rintro _ rfl
              intro R
              refine WL.load Try.underlying43 rfl rfl (Rd.at_ ho.rd (us_at (by omega))) rfl ?_
              exact WL.done ⟨_, rfl, ext_refl _, rfl⟩
            · intro w34 hE
              rintro _ rfl
              intro R
              refine WL.conv (r := ((zs.getD (i + j) 0 : Nat) : Int)) Try.underlying43 Try.underlying72 rfl (wu64 (by omega) (by omega) (by omega)) rfl ?_
              exact WL.done ⟨_, rfl, rfl, rfl⟩
            · intro w35 hE
              rintro _ rfl
              rintro _ rfl
              intro R
              refine WL.add (r := ((((xa.getD i 0) * (xb.getD j 0)) + (zs.getD (i + j) 0) : Nat) : Int)) rfl rfl (wu64 (by omega) (by omega) (by omega)) rfl ?_
              exact WL.done ⟨_, rfl, rfl, rfl⟩
            · intro w36 hE
              intro R
              refine WL.move rfl rfl ?_
              exact WL.done ⟨_, rfl, rfl, rfl⟩
            · intro w37 hE
              rintro _ rfl
              rintro _ rfl
              intro R
              refine WL.add (r := (((((xa.getD i 0) * (xb.getD j 0)) + (zs.getD (i + j) 0)) + c : Nat) : Int)) rfl rfl (wu64 (by omega) (by omega) (by omega)) rfl ?_
              exact WL.done ⟨_, rfl, rfl, rfl⟩
            · intro w38 hE
              rintro _ rfl
              intro R
              refine WL.assign rfl rfl ?_
              exact WL.done ⟨_, rfl, rfl, rfl⟩
          · intro vals w39 hT hVs
            rw [if_neg (by decide)] at hT
            have hB := ext_trans hB hT
            have ho := ho.ext hT
            have hv0 : vals 0 = _ := hVs 0 (by decide) (by decide)
            have hv1 : vals 1 = _ := hVs 1 (by decide) (by decide)
            have hv2 : vals 2 = _ := hVs 2 (by decide) (by decide)
            have hv3 : vals 3 = _ := hVs 3 (by decide) (by decide)
            have hv4 : vals 4 = _ := hVs 4 (by decide) (by decide)
            have hv5 : vals 5 = _ := hVs 5 (by decide) (by decide)
            have hv6 : vals 6 = _ := hVs 6 (by decide) (by decide)
            have hv7 : vals 7 = _ := hVs 7 (by decide) (by decide)
            have hv8 : vals 8 = _ := hVs 8 (by decide) (by decide)
            have hv9 : vals 9 = _ := hVs 9 (by decide) (by decide)
            have hv10 : vals 10 = _ := hVs 10 (by decide) (by decide)
            have hv11 : vals 11 = _ := hVs 11 (by decide) (by decide)
            have hv12 : vals 12 = _ := hVs 12 (by decide) (by decide)
            have hv13 : vals 13 = _ := hVs 13 (by decide) (by decide)
            have hv14 : vals 14 = _ := hVs 14 (by decide) (by decide)
            have hv15 : vals 15 = _ := hVs 15 (by decide) (by decide)
            have hv16 : vals 16 = _ := hVs 16 (by decide) (by decide)
            have hv17 : vals 17 = _ := hVs 17 (by decide) (by decide)
            have hv18 : vals 18 = _ := hVs 18 (by decide) (by decide)
            have hv19 : vals 19 = _ := hVs 19 (by decide) (by decide)
            have hv20 : vals 20 = _ := hVs 20 (by decide) (by decide)
            have hv21 : vals 21 = _ := hVs 21 (by decide) (by decide)
            rw [show (List.filterMap (fun i => Option.map (fun t => (t, vals i)) (dstAt _ i)) (List.range _)) = [(28, .slice Aa ma ca), (29, .int .i64 ((i : Nat) : Int)), (30, .pointer (some ((adOf Aa).add i))), (31, .int .u32 ((xa.getD i 0 : Nat) : Int)), (32, .int .u64 ((xa.getD i 0 : Nat) : Int)), (33, .slice Ab mb cb), (34, .int .i64 ((j : Nat) : Int)), (35, .pointer (some ((adOf Ab).add j))), (36, .int .u32 ((xb.getD j 0 : Nat) : Int)), (37, .int .u64 ((xb.getD j 0 : Nat) : Int)), (38, .int .u64 (((xa.getD i 0) * (xb.getD j 0) : Nat) : Int)), (39, .slice Ao n co), (40, .int .i64 ((i : Nat) : Int)), (41, .int .i64 ((j : Nat) : Int)), (42, .int .i64 ((i + j : Nat) : Int)), (43, .pointer (some ((adOf Ao).add (i + j)))), (44, .int .u32 ((zs.getD (i + j) 0 : Nat) : Int)), (45, .int .u64 ((zs.getD (i + j) 0 : Nat) : Int)), (46, .int .u64 ((((xa.getD i 0) * (xb.getD j 0)) + (zs.getD (i + j) 0) : Nat) : Int)), (47, .int .u64 ((c : Nat) : Int)), (48, .int .u64 (((((xa.getD i 0) * (xb.getD j 0)) + (zs.getD (i + j) 0)) + c : Nat) : Int)), (9, .int .u64 (((((xa.getD i 0) * (xb.getD j 0)) + (zs.getD (i + j) 0)) + c : Nat) : Int))] from by
              show [(28, vals 0), (29, vals 1), (30, vals 2), (31, vals 3), (32, vals 4), (33, vals 5), (34, vals 6), (35, vals 7), (36, vals 8), (37, vals 9), (38, vals 10), (39, vals 11), (40, vals 12), (41, vals 13), (42, vals 14), (43, vals 15), (44, vals 16), (45, vals 17), (46, vals 18), (47, vals 19), (48, vals 20), (9, vals 21)] = _
              rw [hv0, hv1, hv2, hv3, hv4, hv5, hv6, hv7, hv8, hv9, hv10, hv11, hv12, hv13, hv14, hv15, hv16, hv17, hv18, hv19, hv20, hv21]]
            refine W.seq ?_
            refine W.region ?_
            refine WL.move rfl rfl ?_
            refine WL.move rfl rfl ?_
            refine WL.move rfl rfl ?_
            refine WL.add (r := ((i + j : Nat) : Int)) rfl rfl (wi64 (by omega) (by omega) (by omega)) rfl ?_
            refine WL.move rfl rfl ?_
            refine WL.rem (r := ((((((xa.getD i 0) * (xb.getD j 0)) + (zs.getD (i + j) 0)) + c) % 4294967296 : Nat) : Int)) rfl rfl (by omega) (tmod_nat (by omega) (by omega)) rfl ?_
            refine WL.conv (r := ((((((xa.getD i 0) * (xb.getD j 0)) + (zs.getD (i + j) 0)) + c) % 4294967296 : Nat) : Int)) Try.underlying72 Try.underlying43 rfl (wu32 (by omega) (by omega) (by omega)) rfl ?_
            refine WL.index1 (i + j) Try.underlying23 Try.el43 rfl rfl (by omega) (by omega) ho.rd rfl ?_
            refine WL.store Try.el43 rfl rfl rfl (by omega) ho ?_
            have hOld41 := ho
            intro w40 ho hGw40
            change Own _ _ _ _ _ _ _ ((us zs).set (i + j) (.int .u32 ((((((xa.getD i 0) * (xb.getD j 0)) + (zs.getD (i + j) 0)) + c) % 4294967296 : Nat) : Int))) at ho
            rw [us_set] at ho
            have hB := ext_own hB hGw40 (fun g hg => (hOld41.bl_ge g hg).1)
            have := ho.rd.ulen
            refine WL.done ?_
            refine W.region ?_
            refine WL.move rfl rfl ?_
            refine WL.quo (r := ((((((xa.getD i 0) * (xb.getD j 0)) + (zs.getD (i + j) 0)) + c) / 4294967296 : Nat) : Int)) rfl rfl (by omega) (qu64 (by omega) (by omega) (by omega)) rfl ?_
            refine WL.assign rfl rfl ?_
            refine WL.done ?_
            refine W.region ?_
            refine WL.move rfl rfl ?_
            refine WL.add (r := ((j + 1 : Nat) : Int)) rfl rfl (wi64 (by omega) (by omega) (by omega)) rfl ?_
            refine WL.assign rfl rfl ?_
            refine WL.done ?_
            refine ⟨(j + 1, (xa.getD i 0 * xb.getD j 0 + zs.getD (i + j) 0 + c) / 4294967296, zs.set (i + j) ((xa.getD i 0 * xb.getD j 0 + zs.getD (i + j) 0 + c) % 4294967296), _, _), ⟨rfl, rfl, rfl, iv (by omega), iv (by omega), iv (by omega), trivial⟩, by (dsimp only; omega), ?_⟩
            exact ⟨hB, by omega, by omega, hLz.set _ (by omega), by simp [hlz], fun t ht => by rw [getD_set_ne (by omega)]; exact h0z t (by omega), by rw [nv_take_succ]; exact mul_inner (by omega) heq rfl, ho⟩
        · refine WL.done ?_
          refine W.condF rfl ?_
          refine W.exit ?_
          refine W.region ?_
          refine WL.move rfl rfl ?_
          refine WL.move rfl rfl ?_
          refine WL.move rfl rfl ?_
          refine WL.len Try.underlying23 rfl rfl ?_
          refine WL.add (r := ((i + mb : Nat) : Int)) rfl rfl (wi64 (by omega) (by omega) (by omega)) rfl ?_
          refine WL.move rfl rfl ?_
          refine WL.conv (r := ((c : Nat) : Int)) Try.underlying72 Try.underlying43 rfl (wu32 (by omega) (by omega) (by omega)) rfl ?_
          refine WL.index1 (i + mb) Try.underlying23 Try.el43 rfl rfl (by omega) (by omega) ho.rd rfl ?_
          refine WL.store Try.el43 rfl rfl rfl (by omega) ho ?_
          have hOld43 := ho
          intro w42 ho hGw42
          change Own _ _ _ _ _ _ _ ((us zs).set (i + mb) (.int .u32 ((c : Nat) : Int))) at ho
          rw [us_set] at ho
          have hB := ext_own hB hGw42 (fun g hg => (hOld43.bl_ge g hg).1)
          have := ho.rd.ulen
          refine WL.done ?_
          refine W.region ?_
          refine WL.move rfl rfl ?_
          refine WL.add (r := ((i + 1 : Nat) : Int)) rfl rfl (wi64 (by omega) (by omega) (by omega)) rfl ?_
          refine WL.assign rfl rfl ?_
          refine WL.done ?_
          refine ⟨(i + 1, n, zs.set (i + mb) c, _, _), ⟨rfl, rfl, rfl, iv (by omega), trivial⟩, by (dsimp only; omega), ?_⟩
          exact ⟨hB, by omega, hn, hLz.set _ hc, by simp [hlz], fun t ht => by rw [getD_set_ne (by omega)]; exact h0z t (by omega), by rw [mul_outer (u := nv xb) (base := nv (xa.take i) * nv xb) (x := xa.getD i 0) (by omega) (h0z _ (Nat.le_refl _)) (by rw [← nv_take_all (l := xb) (i := j) (by omega), show i + mb = i + j by omega, nv_take_all (l := xb) (i := j) (by omega)]; rw [nv_take_all (l := xb) (i := j) (by omega)] at heq; exact heq)]; exact take_mul, ho⟩
    · refine WL.done ?_
      refine W.condF rfl ?_
      refine W.exit ?_
      refine W.seq ?_
      refine W.region ?_
      refine WL.move rfl rfl ?_
      refine WL.call Try.func88 rfl Try.nm88 rfl rfl (rTrim_c ho.rd (by omega)) ?_
      rintro _ w44 ⟨A45, m46, cp47, rfl, hGw44, hO48, hm49⟩
      have hO48 := hO48.low (b' := w.heap.size) hB.size
      have hB := ext_trans hB hGw44
      have hO48_l := hO48.rd.ulen
      refine WL.assign rfl rfl ?_
      refine WL.done ?_
      refine W.ret ?_
      refine ⟨_, rfl, ?_⟩
      have hO := hO48
      obtain rfl : i = ma := by omega
      rw [nv_take_all (by omega)] at heq
      rw [digs_trim hLz, heq] at hO
      exact ⟨_, _, _, rfl, hB, hO, by omega⟩
end Go.Proofs.Ythfpcebcfjlkmab
