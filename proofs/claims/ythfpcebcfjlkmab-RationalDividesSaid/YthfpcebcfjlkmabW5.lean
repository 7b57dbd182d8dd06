/- Contracts of functions of the program, and what they lean on. -/
import Derived.Test.YthfpcebcfjlkmabW4
set_option linter.unusedSimpArgs false
set_option linter.unusedVariables false
namespace Go.Proofs.Ythfpcebcfjlkmab
open Go.RowKit
theorem Sub_lt {w : World} {Ba : Nat} {Aa : Option Addr} {ma ca : Nat} {xa : List Nat} (ha : Rd Ba w 1 Aa ma ca (us xa)) {Bb : Nat} {Ab : Option Addr} {mb cb : Nat} {xb : List Nat} (hb : Rd Bb w 1 Ab mb cb (us xb)) (hLa : Lim xa) (hLb : Lim xb) (hlt : nv xa < nv xb) :
    Calls Try.prog 91 #[.slice Aa ma ca, .slice Ab mb cb] w fun e w2 => ∃ v, e = .returned v ∧ (fun v w2 => v = .tuple #[.slice none 0 0, .int .i64 6] ∧ w.grownBy w2 none) v w2 := by
  have ha := ha.norm
  have ha_l := ha.ulen
  have ha_x := ha.max
  simp only [maxLen] at ha_x
  have ha_c := ha.cap
  have hb := hb.norm
  have hb_l := hb.ulen
  have hb_x := hb.max
  simp only [maxLen] at hb_x
  have hb_c := hb.cap
  have ha0 := ha
  have hb0 := hb
  have hcm := cmpI_lt hlt
  have hB := ext_refl w
  refine calls_of_W (vs := [.slice Aa ma ca, .slice Ab mb cb]) [4, 5] Try.func91 rfl rfl rfl rfl ?_
  refine W.seq ?_
  refine W.region ?_
  refine WL.assign rfl rfl ?_
  refine WL.assign rfl rfl ?_
  refine WL.done ?_
  refine W.seq ?_
  refine W.seq ?_
  refine W.region ?_
  refine WL.move rfl rfl ?_
  refine WL.move rfl rfl ?_
  refine WL.call Try.func72 rfl Try.nm72 rfl rfl (Cmp_c ha hb hLa hLb) ?_
  rintro _ w11 ⟨rfl, hGw11⟩
  have hB := ext_trans hB hGw11
  refine WL.lss rfl rfl rfl (fun c12 => ?_) (fun c12 => ?_)
  · refine WL.done ?_
    refine W.condT rfl ?_
    refine W.seq ?_
    refine W.region ?_
    refine WL.assign rfl rfl ?_
    refine WL.assign rfl rfl ?_
    refine WL.done ?_
    refine W.ret ?_
    refine ⟨_, rfl, ?_⟩
    exact ⟨rfl, hB⟩
  · exfalso
    omega

theorem Sub_ge {w : World} {Ba : Nat} {Aa : Option Addr} {ma ca : Nat} {xa : List Nat} (ha : Rd Ba w 1 Aa ma ca (us xa)) {Bb : Nat} {Ab : Option Addr} {mb cb : Nat} {xb : List Nat} (hb : Rd Bb w 1 Ab mb cb (us xb)) (hLa : Lim xa) (hLb : Lim xb) (hsa : ma ≤ 1099511627776) (hge : nv xb ≤ nv xa) :
    Calls Try.prog 91 #[.slice Aa ma ca, .slice Ab mb cb] w fun e w2 => ∃ v, e = .returned v ∧ (fun v w2 => ∃ A2 m2 c2, v = .tuple #[.slice A2 m2 c2, .int .i64 0] ∧ w.grownBy w2 none ∧ Own w.heap.size w2 43 1 A2 m2 c2 (us (digs (nv xa - nv xb))) ∧ m2 ≤ ma) v w2 := by
  have ha := ha.norm
  have ha_l := ha.ulen
  have ha_x := ha.max
  simp only [maxLen] at ha_x
  have ha_c := ha.cap
  have hb := hb.norm
  have hb_l := hb.ulen
  have hb_x := hb.max
  simp only [maxLen] at hb_x
  have hb_c := hb.cap
  have ha0 := ha
  have hb0 := hb
  have hcm := cmpI_ge hge
  have hsg := sigL_mono hLa hLb hge
  have hsa2 := sigL_le xa
  have hB := ext_refl w
  refine calls_of_W (vs := [.slice Aa ma ca, .slice Ab mb cb]) [4, 5] Try.func91 rfl rfl rfl rfl ?_
  refine W.seq ?_
  refine W.region ?_
  refine WL.assign rfl rfl ?_
  refine WL.assign rfl rfl ?_
  refine WL.done ?_
  refine W.seq ?_
  refine W.seq ?_
  refine W.region ?_
  refine WL.move rfl rfl ?_
  refine WL.move rfl rfl ?_
  refine WL.call Try.func72 rfl Try.nm72 rfl rfl (Cmp_c ha hb hLa hLb) ?_
  rintro _ w11 ⟨rfl, hGw11⟩
  have hB := ext_trans hB hGw11
  have ha := ha0.ext hB
  have hb := hb0.ext hB
  refine WL.lss rfl rfl rfl (fun c12 => ?_) (fun c12 => ?_)
  · exfalso
    omega
  · refine WL.done ?_
    refine W.condF rfl ?_
    refine W.skip ?_
    refine W.seq ?_
    refine W.region ?_
    refine WL.move rfl rfl ?_
    refine WL.call Try.func46 rfl Try.nm46 rfl rfl (Trim_c ha (by omega)) ?_
    rintro _ w13 ⟨A14, m15, cp16, rfl, hGw13, ho, hm17⟩
    have ho := ho.low (b' := w.heap.size) hB.size
    have hB := ext_trans hB hGw13
    have hb := hb0.ext hB
    have ho_l := ho.rd.ulen
    have ho_e : (trimL xa).length = sigL xa := rfl
    refine WL.move rfl rfl ?_
    refine WL.call Try.func44 rfl Try.nm44 rfl rfl (sig_c hb) ?_
    rintro _ w18 ⟨rfl, hGw18⟩
    have hB := ext_trans hB hGw18
    have hb := hb0.ext hB
    have ho := ho.ext hGw18
    refine WL.assign rfl rfl ?_
    refine WL.assign rfl rfl ?_
    refine WL.done ?_
    refine W.seq ?_
    refine W.region ?_
    refine WL.assign rfl rfl ?_
    refine WL.done ?_
    refine W.seq ?_
    refine W.seq ?_
    refine W.region ?_
    refine WL.assign rfl rfl ?_
    refine WL.done ?_
    refine W.block ?_
    refine W.loop (σ := Nat × Nat × Nat × List Nat × Option Addr × Nat) (fun s w1 => match s with | (i, c, n, ys, Ao, co) => w.grownBy w1 none ∧ c ≤ 1 ∧ i ≤ n ∧ n = sigL xa ∧ Lim ys ∧ ys.length = n ∧ nv ys + nv (xb.take i) = nv xa + 4294967296 ^ i * c ∧ Own w.heap.size w1 43 1 Ao n co (us ys)) (fun s => match s with | (i, c, n, ys, Ao, co) => [(1, .slice Ab (sigL xb) cb), (6, .slice Ao n co), (7, .int .u32 ((c : Nat) : Int)), (8, .int .i64 ((i : Nat) : Int))]) (fun s => match s with | (i, c, n, ys, Ao, co) => sigL xa - i) (0, 0, m15, trimL xa, A14, cp16) ?_ ?_ ?_
    · exact ⟨hB, by omega, by omega, by omega, hLa.trim, by omega, by simp, ho⟩
    · exact ⟨rfl, rfl, iv (by omega), iv (by omega), trivial⟩
    · rintro ⟨i, c, n, ys, Ao, co⟩ w19 ⟨hB, hc, hi, hn, hLy, hly, heq, ho⟩
      have hb := hb0.ext hB
      have ho_x := ho.rd.max
      simp only [maxLen] at ho_x
      have ho_c := ho.rd.cap
      have hlb : (trimL xb).length = sigL xb := rfl
      refine W.cut (σ := Unit) (fun _u w1 => i < n ∧ w19 = w1) (fun _u => [(1, .slice Ab (sigL xb) cb), (6, .slice Ao n co), (7, .int .u32 ((c : Nat) : Int)), (8, .int .i64 ((i : Nat) : Int))]) ?_ ?_
      · refine W.seq ?_
        refine W.region ?_
        refine WL.move rfl rfl ?_
        refine WL.move rfl rfl ?_
        refine WL.len Try.underlying23 rfl rfl ?_
        refine WL.lss rfl rfl rfl (fun c20 => ?_) (fun c20 => ?_)
        · refine WL.move rfl rfl ?_
          refine WL.pass rfl rfl rfl ?_
          refine WL.pass rfl rfl rfl ?_
          refine WL.pick rfl rfl rfl ?_
          refine WL.done ?_
          refine W.condT rfl ?_
          refine W.skip ?_
          refine ⟨(), ⟨rfl, rfl, iv (by omega), iv (by omega), trivial⟩, ?_⟩
          exact ⟨sub_room hly hLy hLb hge heq (by omega) hn hi (by omega), rfl⟩
        · refine WL.move rfl rfl ?_
          refine WL.take rfl ?_
          refine WL.move rfl rfl ?_
          refine WL.take rfl ?_
          refine WL.neq rfl rfl rfl (fun c21 => ?_) (fun c21 => ?_)
          · refine WL.pick rfl rfl rfl ?_
            refine WL.done ?_
            refine W.condT rfl ?_
            refine W.skip ?_
            refine ⟨(), ⟨rfl, rfl, iv (by omega), iv (by omega), trivial⟩, ?_⟩
            exact ⟨sub_room hly hLy hLb hge heq (by omega) hn hi (by omega), rfl⟩
          · refine WL.pick rfl rfl rfl ?_
            refine WL.done ?_
            refine W.condF rfl ?_
            refine W.exit ?_
            refine W.seq ?_
            refine W.region ?_
            refine WL.move rfl rfl ?_
            refine WL.call Try.func44 rfl Try.nm44 rfl rfl (sig_c ho.rd) ?_
            rintro _ w22 ⟨rfl, hGw22⟩
            have hB := ext_trans hB hGw22
            have ho := ho.ext hGw22
            refine WL.assign rfl rfl ?_
            refine WL.assign rfl rfl ?_
            refine WL.done ?_
            refine W.ret ?_
            refine ⟨_, rfl, ?_⟩
            have hO := ho.sig
            have hsl := sigL_le ys
            have hc2 : c = 0 := by omega
            subst hc2
            rw [Nat.mul_zero, Nat.add_zero, nv_take_sig (by omega)] at heq
            rw [digs_trim hLy, show nv ys = nv xa - nv xb by omega] at hO
            exact ⟨_, _, _, rfl, hB, hO, by omega⟩
      · rintro _u w23 ⟨hin, rfl⟩
        have hyi := hLy.getD i
        have hxb := hLb.getD i
        have htb := hLb.trim.getD i
        refine W.seq ?_
        refine W.block ?_
        refine W.draw [⟨[], [6], true⟩, ⟨[], [8], true⟩, ⟨[], [6], true⟩, ⟨[], [8], true⟩, ⟨[2, 3], [], true⟩, ⟨[4], [], false⟩, ⟨[], [1], true⟩, ⟨[], [8], true⟩, ⟨[6, 7], [], false⟩, ⟨[], [7], true⟩, ⟨[5, 8, 9], [], false⟩, ⟨[10], [], true⟩, ⟨[11], [], true⟩, ⟨[11], [], true⟩, ⟨[0, 1], [], true⟩, ⟨[14, 12], [], false⟩, ⟨[13], [], true⟩] [[(6, .slice Ao n co)], [(8, .int .i64 ((i : Nat) : Int))], [(6, .slice Ao n co)], [(8, .int .i64 ((i : Nat) : Int))], [], [], [(1, .slice Ab (sigL xb) cb)], [(8, .int .i64 ((i : Nat) : Int))], [], [(7, .int .u32 ((c : Nat) : Int))], [], [], [], [], [], [], []] (fun iQ => [fun v _ => v = .slice Ao n co, fun v _ => v = .int .i64 ((i : Nat) : Int), fun v _ => v = .slice Ao n co, fun v _ => v = .int .i64 ((i : Nat) : Int), fun v _ => v = .pointer (some ((adOf Ao).add i)), fun v _ => v = .int .u32 ((ys.getD i 0 : Nat) : Int), fun v _ => v = .slice Ab (sigL xb) cb, fun v _ => v = .int .i64 ((i : Nat) : Int), fun v _ => v = .int .u32 (((trimL xb).getD i 0 : Nat) : Int), fun v _ => v = .int .u32 ((c : Nat) : Int), fun v _ => v = .tuple #[.int .u32 (((ys.getD i 0 + 8589934592 - (trimL xb).getD i 0 - c) % 4294967296 : Nat) : Int), .int .u32 ((if ys.getD i 0 < (trimL xb).getD i 0 + c then 1 else 0 : Nat) : Int)], fun v _ => v = .tuple #[.int .u32 (((ys.getD i 0 + 8589934592 - (trimL xb).getD i 0 - c) % 4294967296 : Nat) : Int), .int .u32 ((if ys.getD i 0 < (trimL xb).getD i 0 + c then 1 else 0 : Nat) : Int)], fun v _ => v = .int .u32 (((ys.getD i 0 + 8589934592 - (trimL xb).getD i 0 - c) % 4294967296 : Nat) : Int), fun v _ => v = .int .u32 ((if ys.getD i 0 < (trimL xb).getD i 0 + c then 1 else 0 : Nat) : Int), fun v _ => v = .pointer (some ((adOf Ao).add i)), fun _ _ => True, fun v _ => v = .int .u32 ((if ys.getD i 0 < (trimL xb).getD i 0 + c then 1 else 0 : Nat) : Int)].getD iQ (fun _ _ => True)) (fun w1 => w.grownBy w1 none ∧ Own w.heap.size w1 43 1 Ao n co (us (ys.set i ((ys.getD i 0 + 8589934592 - (trimL xb).getD i 0 - c) % 4294967296)))) 15 Try.mixed (by kernel_rfl) ?_ ?_ ?_
        · refine Vs_mono _ ?_
          intro VQ hVQ vQ wQ1 wQ2 hQ1 hQ2
          simp only [List.mem_cons, List.not_mem_nil, or_false] at hVQ
          rcases hVQ with rfl | rfl | rfl | rfl | rfl | rfl | rfl | rfl | rfl | rfl | rfl | rfl | rfl | rfl | rfl | rfl | rfl <;> exact hQ1
        · refine ⟨⟨rfl, ⟨rfl, trivial⟩, ?_⟩, ⟨rfl, ⟨rfl, trivial⟩, ?_⟩, ⟨rfl, ⟨rfl, trivial⟩, ?_⟩, ⟨rfl, ⟨rfl, trivial⟩, ?_⟩, ⟨rfl, trivial, ?_⟩, ⟨rfl, trivial, ?_⟩, ⟨rfl, ⟨rfl, trivial⟩, ?_⟩, ⟨rfl, ⟨rfl, trivial⟩, ?_⟩, ⟨rfl, trivial, ?_⟩, ⟨rfl, ⟨rfl, trivial⟩, ?_⟩, ⟨rfl, trivial, ?_⟩, ⟨rfl, trivial, ?_⟩, ⟨rfl, trivial, ?_⟩, ⟨rfl, trivial, ?_⟩, ⟨rfl, trivial, ?_⟩, ⟨rfl, trivial, ?_⟩, ⟨rfl, trivial, ?_⟩, trivial⟩
          · intro w24 hE
            intro R
            refine WL.move rfl rfl ?_
            exact WL.done ⟨_, rfl, rfl, rfl⟩
          · intro w25 hE
            intro R
            refine WL.move rfl rfl ?_
            exact WL.done ⟨_, rfl, rfl, rfl⟩
          · intro w26 hE
            intro R
            refine WL.move rfl rfl ?_
            exact WL.done ⟨_, rfl, rfl, rfl⟩
          · intro w27 hE
            intro R
            refine WL.move rfl rfl ?_
            exact WL.done ⟨_, rfl, rfl, rfl⟩
          · intro w28 hE
            rintro _ rfl
            rintro _ rfl
            intro R
            refine WL.index1 (i) Try.underlying23 Try.el43 rfl rfl (by omega) (by omega) ho.rd rfl ?_
            exact WL.done ⟨_, rfl, rfl, rfl⟩
          · intro w29 hE
            have hE := hE rfl
            have hB := ext_trans hB hE
            have ho := ho.ext hE
            rintro _ rfl
            intro R
            refine WL.load Try.underlying43 rfl rfl (Rd.at_ ho.rd (us_at (by omega))) rfl ?_
            exact WL.done ⟨_, rfl, ext_refl _, rfl⟩
          · intro w30 hE
            intro R
            refine WL.move rfl rfl ?_
            exact WL.done ⟨_, rfl, rfl, rfl⟩
          · intro w31 hE
            intro R
            refine WL.move rfl rfl ?_
            exact WL.done ⟨_, rfl, rfl, rfl⟩
          · intro w32 hE
            have hE := hE rfl
            have hB := ext_trans hB hE
            have hb := hb0.ext hB
            rintro _ rfl
            rintro _ rfl
            intro R
            refine WL.call Try.func79 rfl Try.nm79 rfl rfl (limbAt_c hb.sig (i) (by omega)) ?_
            rintro _ w33 ⟨rfl, hGw33⟩
            have hB := ext_trans hB hGw33
            exact WL.done ⟨_, rfl, hGw33, rfl⟩
          · intro w34 hE
            intro R
            refine WL.move rfl rfl ?_
            exact WL.done ⟨_, rfl, rfl, rfl⟩
          · intro w35 hE
            have hE := hE rfl
            have hB := ext_trans hB hE
            rintro _ rfl
            rintro _ rfl
            rintro _ rfl
            intro R
            refine WL.call Try.func100 rfl Try.nm100 rfl rfl (Sub32_c (ys.getD i 0) ((trimL xb).getD i 0) c (by omega) (by omega) (by omega) (by omega) (by omega) (by omega)) ?_
            rintro _ w36 ⟨rfl, hGw36⟩
            have hB := ext_trans hB hGw36
            exact WL.done ⟨_, rfl, hGw36, rfl⟩
          · intro w37 hE
            rintro _ rfl
            intro R
            refine WL.move rfl rfl ?_
            exact WL.done ⟨_, rfl, rfl, rfl⟩
          · intro w38 hE
            rintro _ rfl
            intro R
            refine WL.extract rfl rfl rfl ?_
            exact WL.done ⟨_, rfl, rfl, rfl⟩
          · intro w39 hE
            rintro _ rfl
            intro R
            refine WL.extract rfl rfl rfl ?_
            exact WL.done ⟨_, rfl, rfl, rfl⟩
          · intro w40 hE
            rintro _ rfl
            rintro _ rfl
            intro R
            refine WL.index1 (i) Try.underlying23 Try.el43 rfl rfl (by omega) (by omega) ho.rd rfl ?_
            exact WL.done ⟨_, rfl, rfl, rfl⟩
          · intro w41 hE
            have hE := hE rfl
            have hB := ext_trans hB hE
            have ho := ho.ext hE
            rintro _ rfl
            rintro _ rfl
            intro R
            refine WL.store Try.el43 rfl rfl rfl (by omega) ho ?_
            have hOld43 := ho
            intro w42 ho hGw42
            change Own _ _ _ _ _ _ _ ((us ys).set i (.int .u32 (((ys.getD i 0 + 8589934592 - (trimL xb).getD i 0 - c) % 4294967296 : Nat) : Int))) at ho
            rw [us_set] at ho
            have hB := ext_own hB hGw42 (fun g hg => (hOld43.bl_ge g hg).1)
            have := ho.rd.ulen
            exact WL.done ⟨rfl, ⟨hB, ho⟩⟩
          · intro w44 hE
            rintro _ rfl
            intro R
            refine WL.assign rfl rfl ?_
            exact WL.done ⟨_, rfl, rfl, rfl⟩
        · intro vals w45 hT hVs
          rw [if_pos (by decide)] at hT
          obtain ⟨hB, ho⟩ := hT
          have hv0 : vals 0 = _ := hVs 0 (by decide) (by decide)
          have hv1 : vals 1 = _ := hVs 1 (by decide) (by decide)
          have hv2 : vals 2 = _ := hVs 2 (by decide) (by decide)
          have hv3 : vals 3 = _ := hVs 3 (by decide) (by decide)
          have hv4 : vals 4 = _ := hVs 4 (by decide) (by decide)
          have hv5 : vals 5 = _ := hVs 5 (by decide) (by decide)
          have hv6 : vals 6 = _ := hVs 6 (by decide) (by decide)
          have hv7 : vals 7 = _ := hVs 7 (by decide) (by decide)
          have hv8 : vals 8 = _ := hVs 8 (by decide) (by decide)
          have hv9 : vals 9 = _ := hVs 9 (by decide) (by decide)
          have hv10 : vals 10 = _ := hVs 10 (by decide) (by decide)
          have hv11 : vals 11 = _ := hVs 11 (by decide) (by decide)
          have hv12 : vals 12 = _ := hVs 12 (by decide) (by decide)
          have hv13 : vals 13 = _ := hVs 13 (by decide) (by decide)
          have hv14 : vals 14 = _ := hVs 14 (by decide) (by decide)
          have hv16 : vals 16 = _ := hVs 16 (by decide) (by decide)
          rw [show (List.filterMap (fun i => Option.map (fun t => (t, vals i)) (dstAt _ i)) (List.range _)) = [(28, .slice Ao n co), (29, .int .i64 ((i : Nat) : Int)), (30, .slice Ao n co), (31, .int .i64 ((i : Nat) : Int)), (32, .pointer (some ((adOf Ao).add i))), (33, .int .u32 ((ys.getD i 0 : Nat) : Int)), (34, .slice Ab (sigL xb) cb), (35, .int .i64 ((i : Nat) : Int)), (36, .int .u32 (((trimL xb).getD i 0 : Nat) : Int)), (37, .int .u32 ((c : Nat) : Int)), (38, .tuple #[.int .u32 (((ys.getD i 0 + 8589934592 - (trimL xb).getD i 0 - c) % 4294967296 : Nat) : Int), .int .u32 ((if ys.getD i 0 < (trimL xb).getD i 0 + c then 1 else 0 : Nat) : Int)]), (27, .tuple #[.int .u32 (((ys.getD i 0 + 8589934592 - (trimL xb).getD i 0 - c) % 4294967296 : Nat) : Int), .int .u32 ((if ys.getD i 0 < (trimL xb).getD i 0 + c then 1 else 0 : Nat) : Int)]), (39, .int .u32 (((ys.getD i 0 + 8589934592 - (trimL xb).getD i 0 - c) % 4294967296 : Nat) : Int)), (40, .int .u32 ((if ys.getD i 0 < (trimL xb).getD i 0 + c then 1 else 0 : Nat) : Int)), (41, .pointer (some ((adOf Ao).add i))), (7, .int .u32 ((if ys.getD i 0 < (trimL xb).getD i 0 + c then 1 else 0 : Nat) : Int))] from by
            show [(28, vals 0), (29, vals 1), (30, vals 2), (31, vals 3), (32, vals 4), (33, vals 5), (34, vals 6), (35, vals 7), (36, vals 8), (37, vals 9), (38, vals 10), (27, vals 11), (39, vals 12), (40, vals 13), (41, vals 14), (7, vals 16)] = _
            rw [hv0, hv1, hv2, hv3, hv4, hv5, hv6, hv7, hv8, hv9, hv10, hv11, hv12, hv13, hv14, hv16]]
          refine W.region ?_
          refine WL.move rfl rfl ?_
          refine WL.add (r := ((i + 1 : Nat) : Int)) rfl rfl (wi64 (by omega) (by omega) (by omega)) rfl ?_
          refine WL.assign rfl rfl ?_
          refine WL.done ?_
          refine ⟨(i + 1, if ys.getD i 0 < (trimL xb).getD i 0 + c then 1 else 0, n, ys.set i ((ys.getD i 0 + 8589934592 - (trimL xb).getD i 0 - c) % 4294967296), Ao, co), ⟨rfl, rfl, iv (by omega), iv (by omega), trivial⟩, by (dsimp only; omega), ?_⟩
          rw [trimL_getD0] at ho ⊢
          have hst := subin_step (x := xb.getD i 0) (by omega) heq hc hyi hxb
          exact ⟨hB, by split <;> omega, by omega, hn, hLy.set _ (Nat.mod_lt _ (by decide)), by simp [hly], by rw [nv_take_succ]; exact hst, ho⟩
end Go.Proofs.Ythfpcebcfjlkmab
