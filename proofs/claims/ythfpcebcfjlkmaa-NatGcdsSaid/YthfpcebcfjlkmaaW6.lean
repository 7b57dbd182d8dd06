/- Contracts of functions of the program, and what they lean on. -/
import Derived.Test.YthfpcebcfjlkmaaW5
set_option linter.unusedSimpArgs false
set_option linter.unusedVariables false
namespace Go.Proofs.Ythfpcebcfjlkmaa
open Go.RowKit
theorem same_t {w : World} {Ba : Nat} {Aa : Option Addr} {ma ca : Nat} {xa : List Nat} (ha : Rd Ba w 1 Aa ma ca (us xa)) {Bb : Nat} {Ab : Option Addr} {mb cb : Nat} {xb : List Nat} (hb : Rd Bb w 1 Ab mb cb (us xb)) (heq : xa = xb) : Calls Try.prog 18 #[.slice Aa ma ca, .slice Ab mb cb] w fun e w2 => ∃ v, e = .returned v ∧ (fun v w2 => v = .bool true ∧ w.grownBy w2 none) v w2 :=
  (same_c ha hb).mono fun e w2 ⟨v, he, hv, hw⟩ => ⟨v, he, by rw [hv, decide_eq_true heq], hw⟩

theorem NatAdds_lt {w : World} {Ba : Nat} {Aa : Option Addr} {ma ca : Nat} {xa : List Nat} (ha : Rd Ba w 1 Aa ma ca (us xa)) {Bb : Nat} {Ab : Option Addr} {mb cb : Nat} {xb : List Nat} (hb : Rd Bb w 1 Ab mb cb (us xb)) (hLa : Lim xa) (hLb : Lim xb) (hlt : nv xa < nv xb) :
    Calls Try.prog 4 #[.slice Aa ma ca, .slice Ab mb cb] w fun e w2 => ∃ v, e = .returned v ∧ (fun v w2 => v = .bool true ∧ w.grownBy w2 none) v w2 := by
  have ha := ha.norm
  have ha_l := ha.ulen
  have ha_x := ha.max
  simp only [maxLen] at ha_x
  have ha_c := ha.cap
  have hb := hb.norm
  have hb_l := hb.ulen
  have hb_x := hb.max
  simp only [maxLen] at hb_x
  have hb_c := hb.cap
  have ha0 := ha
  have hb0 := hb
  have hcm := cmpI_lt hlt
  have hB := ext_refl w
  refine calls_of_W (vs := [.slice Aa ma ca, .slice Ab mb cb]) [4] Try.func4 rfl rfl rfl rfl ?_
  refine W.seq ?_
  refine W.region ?_
  refine WL.assign rfl rfl ?_
  refine WL.done ?_
  refine W.seq ?_
  refine W.seq ?_
  refine W.region ?_
  refine WL.move rfl rfl ?_
  refine WL.move rfl rfl ?_
  refine WL.lit1 (b := w.heap.size) Try.underlying39 Try.el23 rfl rfl rfl rfl (by intro v hv; simp only [List.mem_cons, List.not_mem_nil, or_false] at hv; rcases hv with rfl | rfl <;> rfl) (Nat.le_refl _) rfl ?_
  rintro A11 w12 - hO13 hGw12
  have hO13 := hO13.low (b' := w.heap.size) hB.size
  have hB := ext_trans hB hGw12
  have ha := ha0.ext hB
  have hb := hb0.ext hB
  have hN14 : NatsR w12.heap.size w12 [.slice Aa ma ca, .slice Ab mb cb] [xa, xb] := (NatsR.cons ha.norm (NatsR.cons hb.norm (NatsR.nil _ _)))
  refine WL.call Try.func15 rfl Try.nm15 rfl rfl (long_c hO13.rd hN14 (200) (by omega)) ?_
  rintro _ w15 ⟨b16, rfl, hGw15, hlong⟩
  have hB := ext_trans hB hGw15
  have ha := ha0.ext hB
  have hb := hb0.ext hB
  have hO13 := hO13.ext hGw15
  refine WL.done ?_
  refine W.cond2 rfl (fun c17 => ?_) (fun c17 => ?_)
  · skip
    refine W.seq ?_
    refine W.region ?_
    refine WL.assign rfl rfl ?_
    refine WL.done ?_
    refine W.ret ?_
    refine ⟨_, rfl, ?_⟩
    exact ⟨rfl, hB⟩
  · skip
    have hla : xa.length ≤ 200 := hlong c17 0 (by simp)
    have hlb : xb.length ≤ 200 := hlong c17 1 (by simp)
    refine W.skip ?_
    refine W.seq ?_
    refine W.region ?_
    refine WL.move rfl rfl ?_
    refine WL.move rfl rfl ?_
    refine WL.call Try.func25 rfl Try.nm25 rfl rfl (rCmp_c ha hb hLa hLb) ?_
    rintro _ w18 ⟨rfl, hGw18⟩
    have hB := ext_trans hB hGw18
    have ha := ha0.ext hB
    have hb := hb0.ext hB
    have hO13 := hO13.ext hGw18
    refine WL.assign rfl rfl ?_
    refine WL.done ?_
    refine W.seq ?_
    refine W.region ?_
    refine WL.move rfl rfl ?_
    refine WL.move rfl rfl ?_
    refine WL.call Try.func26 rfl Try.nm26 rfl rfl (Sub_lt ha hb hLa hLb (by omega)) ?_
    rintro _ w19 ⟨rfl, hGw19⟩
    have hB := ext_trans hB hGw19
    have ha := ha0.ext hB
    have hb := hb0.ext hB
    have hO13 := hO13.ext hGw19
    refine WL.move rfl rfl ?_
    refine WL.extract rfl rfl rfl ?_
    refine WL.extract rfl rfl rfl ?_
    refine WL.assign rfl rfl ?_
    refine WL.assign rfl rfl ?_
    refine WL.done ?_
    refine W.seq ?_
    refine W.seq ?_
    refine W.region ?_
    refine WL.move rfl rfl ?_
    refine WL.lss rfl rfl rfl (fun c20 => ?_) (fun c20 => ?_)
    · refine WL.move rfl rfl ?_
      refine WL.take rfl ?_
      refine WL.move rfl rfl ?_
      refine WL.take rfl ?_
      refine WL.neq rfl rfl rfl (fun c21 => ?_) (fun c21 => ?_)
      · exfalso
        omega
      · refine WL.take rfl ?_
        refine WL.move rfl rfl ?_
        refine WL.take rfl ?_
        refine WL.move rfl rfl ?_
        refine WL.take rfl ?_
        refine WL.len Try.underlying23 rfl rfl ?_
        refine WL.take rfl ?_
        refine WL.neq rfl rfl rfl (fun c22 => ?_) (fun c22 => ?_)
        · exfalso
          omega
        · refine WL.take rfl ?_
          refine WL.pick rfl rfl rfl ?_
          refine WL.pick rfl rfl rfl ?_
          refine WL.done ?_
          refine W.condF rfl ?_
          refine W.skip ?_
          refine W.seq ?_
          refine W.seq ?_
          refine W.region ?_
          refine WL.move rfl rfl ?_
          refine WL.geq rfl rfl rfl (fun c23 => ?_) (fun c23 => ?_)
          · exfalso
            omega
          · refine WL.move rfl rfl ?_
            refine WL.pass rfl rfl rfl ?_
            refine WL.pass rfl rfl rfl ?_
            refine WL.pass rfl rfl rfl ?_
            refine WL.passU rfl rfl ?_
            refine WL.passU rfl rfl ?_
            refine WL.passU rfl rfl ?_
            refine WL.passU rfl rfl ?_
            refine WL.passU rfl rfl ?_
            refine WL.passU rfl rfl ?_
            refine WL.pass rfl rfl rfl ?_
            refine WL.pick rfl rfl rfl ?_
            refine WL.done ?_
            refine W.condF rfl ?_
            refine W.skip ?_
            refine W.seq ?_
            refine W.region ?_
            refine WL.move rfl rfl ?_
            refine WL.move rfl rfl ?_
            refine WL.call Try.func28 rfl Try.nm28 rfl rfl (Cmp_c ha hb hLa hLb) ?_
            rintro _ w24 ⟨rfl, hGw24⟩
            have hB := ext_trans hB hGw24
            have ha := ha0.ext hB
            have hb := hb0.ext hB
            have hO13 := hO13.ext hGw24
            refine WL.move rfl rfl ?_
            refine WL.eql rfl rfl rfl (fun c25 => ?_) (fun c25 => ?_)
            · refine WL.move rfl rfl ?_
              refine WL.take rfl ?_
              refine WL.move rfl rfl ?_
              refine WL.take rfl ?_
              refine WL.move rfl rfl ?_
              refine WL.take rfl ?_
              refine WL.lit1 (b := w24.heap.size) Try.underlying39 Try.el23 rfl rfl rfl rfl (by intro v hv; simp only [List.mem_cons, List.not_mem_nil, or_false] at hv; rcases hv with rfl | rfl <;> rfl) (Nat.le_refl _) rfl ?_
              rintro A26 w27 - hO28 hGw27
              have hO28 := hO28.low (b' := w.heap.size) hB.size
              have hB := ext_trans hB hGw27
              have ha := ha0.ext hB
              have hb := hb0.ext hB
              have hO13 := hO13.ext hGw27
              have hN29 : NatsR w27.heap.size w27 [.slice Aa ma ca, .slice Ab mb cb] [xa, xb] := (NatsR.cons ha.norm (NatsR.cons hb.norm (NatsR.nil _ _)))
              refine WL.take rfl ?_
              refine WL.call Try.func29 rfl Try.nm29 rfl rfl (Add_c hO28.rd hN29 (LimAll.cons hLa (LimAll.cons hLb LimAll.nil)) 1048576 (LenAll.cons (by first | omega | (simp; done) | (simp; omega)) (LenAll.cons (by first | omega | (simp; done) | (simp; omega)) (LenAll.nil _))) (by omega) (by simp)) ?_
              rintro _ w30 ⟨A31, m32, cp33, rfl, hGw30, hO34, hm35⟩
              have hO34 := hO34.low (b' := w.heap.size) hB.size
              have hB := ext_trans hB hGw30
              have ha := ha0.ext hB
              have hb := hb0.ext hB
              have hO13 := hO13.ext hGw30
              have hO28 := hO28.ext hGw30
              have hO34_l := hO34.rd.ulen
              refine WL.take rfl ?_
              refine WL.move rfl rfl ?_
              refine WL.take rfl ?_
              refine WL.move rfl rfl ?_
              refine WL.take rfl ?_
              refine WL.call Try.func30 rfl Try.nm30 rfl rfl (rAdd_c ha hb hLa hLb (by omega) (by omega)) ?_
              rintro _ w36 ⟨A37, m38, cp39, rfl, hGw36, hO40, hm41⟩
              have hO40 := hO40.low (b' := w.heap.size) hB.size
              have hB := ext_trans hB hGw36
              have ha := ha0.ext hB
              have hb := hb0.ext hB
              have hO13 := hO13.ext hGw36
              have hO28 := hO28.ext hGw36
              have hO34 := hO34.ext hGw36
              have hO40_l := hO40.rd.ulen
              refine WL.take rfl ?_
              refine WL.call Try.func18 rfl Try.nm18 rfl rfl (same_t hO34.rd hO40.rd (by first | rfl | (congr 1; simp; done) | (congr 1; simp; omega) | (congr 1; simp; grind))) ?_
              rintro _ w42 ⟨rfl, hGw42⟩
              have hB := ext_trans hB hGw42
              have ha := ha0.ext hB
              have hb := hb0.ext hB
              have hO13 := hO13.ext hGw42
              have hO28 := hO28.ext hGw42
              have hO34 := hO34.ext hGw42
              have hO40 := hO40.ext hGw42
              refine WL.pick rfl rfl rfl ?_
              refine WL.move rfl rfl ?_
              refine WL.take rfl ?_
              refine WL.move rfl rfl ?_
              refine WL.take rfl ?_
              refine WL.move rfl rfl ?_
              refine WL.take rfl ?_
              refine WL.lit1 (b := w42.heap.size) Try.underlying39 Try.el23 rfl rfl rfl rfl (by intro v hv; simp only [List.mem_cons, List.not_mem_nil, or_false] at hv; rcases hv with rfl | rfl <;> rfl) (Nat.le_refl _) rfl ?_
              rintro A43 w44 - hO45 hGw44
              have hO45 := hO45.low (b' := w.heap.size) hB.size
              have hB := ext_trans hB hGw44
              have ha := ha0.ext hB
              have hb := hb0.ext hB
              have hO13 := hO13.ext hGw44
              have hO28 := hO28.ext hGw44
              have hO34 := hO34.ext hGw44
              have hO40 := hO40.ext hGw44
              have hN46 : NatsR w44.heap.size w44 [.slice Aa ma ca, .slice Ab mb cb] [xa, xb] := (NatsR.cons ha.norm (NatsR.cons hb.norm (NatsR.nil _ _)))
              refine WL.take rfl ?_
              refine WL.call Try.func31 rfl Try.nm31 rfl rfl (Mul_c hO45.rd hN46 (LimAll.cons hLa (LimAll.cons hLb LimAll.nil)) 1048576 (LenAll.cons (by first | omega | (simp; done) | (simp; omega)) (LenAll.cons (by first | omega | (simp; done) | (simp; omega)) (LenAll.nil _))) (by simp)) ?_
              rintro _ w47 ⟨A48, m49, cp50, rfl, hGw47, hO51, hm52⟩
              have hO51 := hO51.low (b' := w.heap.size) hB.size
              have hB := ext_trans hB hGw47
              have ha := ha0.ext hB
              have hb := hb0.ext hB
              have hO13 := hO13.ext hGw47
              have hO28 := hO28.ext hGw47
              have hO34 := hO34.ext hGw47
              have hO40 := hO40.ext hGw47
              have hO45 := hO45.ext hGw47
              have hO51_l := hO51.rd.ulen
              try simp only [List.length_cons, List.length_nil] at hm52
              refine WL.take rfl ?_
              refine WL.move rfl rfl ?_
              refine WL.take rfl ?_
              refine WL.move rfl rfl ?_
              refine WL.take rfl ?_
              refine WL.call Try.func32 rfl Try.nm32 rfl rfl (rMul_c ha hb hLa hLb (by omega) (by omega)) ?_
              rintro _ w53 ⟨A54, m55, cp56, rfl, hGw53, hO57, hm58⟩
              have hO57 := hO57.low (b' := w.heap.size) hB.size
              have hB := ext_trans hB hGw53
              have ha := ha0.ext hB
              have hb := hb0.ext hB
              have hO13 := hO13.ext hGw53
              have hO28 := hO28.ext hGw53
              have hO34 := hO34.ext hGw53
              have hO40 := hO40.ext hGw53
              have hO45 := hO45.ext hGw53
              have hO51 := hO51.ext hGw53
              have hO57_l := hO57.rd.ulen
              refine WL.take rfl ?_
              refine WL.call Try.func18 rfl Try.nm18 rfl rfl (same_t hO51.rd hO57.rd (by first | rfl | (congr 1; simp; done) | (congr 1; simp; omega) | (congr 1; simp; grind))) ?_
              rintro _ w59 ⟨rfl, hGw59⟩
              have hB := ext_trans hB hGw59
              have ha := ha0.ext hB
              have hb := hb0.ext hB
              have hO13 := hO13.ext hGw59
              have hO28 := hO28.ext hGw59
              have hO34 := hO34.ext hGw59
              have hO40 := hO40.ext hGw59
              have hO45 := hO45.ext hGw59
              have hO51 := hO51.ext hGw59
              have hO57 := hO57.ext hGw59
              refine WL.pick rfl rfl rfl ?_
              refine WL.assign rfl rfl ?_
              refine WL.done ?_
              refine W.ret ?_
              refine ⟨_, rfl, ?_⟩
              exact ⟨rfl, hB⟩
            · exfalso
              omega
    · exfalso
      omega

theorem NatAdds_ge {w : World} {Ba : Nat} {Aa : Option Addr} {ma ca : Nat} {xa : List Nat} (ha : Rd Ba w 1 Aa ma ca (us xa)) {Bb : Nat} {Ab : Option Addr} {mb cb : Nat} {xb : List Nat} (hb : Rd Bb w 1 Ab mb cb (us xb)) (hLa : Lim xa) (hLb : Lim xb) (hge : nv xb ≤ nv xa) :
    Calls Try.prog 4 #[.slice Aa ma ca, .slice Ab mb cb] w fun e w2 => ∃ v, e = .returned v ∧ (fun v w2 => v = .bool true ∧ w.grownBy w2 none) v w2 := by
  have ha := ha.norm
  have ha_l := ha.ulen
  have ha_x := ha.max
  simp only [maxLen] at ha_x
  have ha_c := ha.cap
  have hb := hb.norm
  have hb_l := hb.ulen
  have hb_x := hb.max
  simp only [maxLen] at hb_x
  have hb_c := hb.cap
  have ha0 := ha
  have hb0 := hb
  have hcm := cmpI_ge hge
  have hB := ext_refl w
  refine calls_of_W (vs := [.slice Aa ma ca, .slice Ab mb cb]) [4] Try.func4 rfl rfl rfl rfl ?_
  refine W.seq ?_
  refine W.region ?_
  refine WL.assign rfl rfl ?_
  refine WL.done ?_
  refine W.seq ?_
  refine W.seq ?_
  refine W.region ?_
  refine WL.move rfl rfl ?_
  refine WL.move rfl rfl ?_
  refine WL.lit1 (b := w.heap.size) Try.underlying39 Try.el23 rfl rfl rfl rfl (by intro v hv; simp only [List.mem_cons, List.not_mem_nil, or_false] at hv; rcases hv with rfl | rfl <;> rfl) (Nat.le_refl _) rfl ?_
  rintro A11 w12 - hO13 hGw12
  have hO13 := hO13.low (b' := w.heap.size) hB.size
  have hB := ext_trans hB hGw12
  have ha := ha0.ext hB
  have hb := hb0.ext hB
  have hN14 : NatsR w12.heap.size w12 [.slice Aa ma ca, .slice Ab mb cb] [xa, xb] := (NatsR.cons ha.norm (NatsR.cons hb.norm (NatsR.nil _ _)))
  refine WL.call Try.func15 rfl Try.nm15 rfl rfl (long_c hO13.rd hN14 (200) (by omega)) ?_
  rintro _ w15 ⟨b16, rfl, hGw15, hlong⟩
  have hB := ext_trans hB hGw15
  have ha := ha0.ext hB
  have hb := hb0.ext hB
  have hO13 := hO13.ext hGw15
  refine WL.done ?_
  refine W.cond2 rfl (fun c17 => ?_) (fun c17 => ?_)
  · skip
    refine W.seq ?_
    refine W.region ?_
    refine WL.assign rfl rfl ?_
    refine WL.done ?_
    refine W.ret ?_
    refine ⟨_, rfl, ?_⟩
    exact ⟨rfl, hB⟩
  · skip
    have hla : xa.length ≤ 200 := hlong c17 0 (by simp)
    have hlb : xb.length ≤ 200 := hlong c17 1 (by simp)
    refine W.skip ?_
    refine W.seq ?_
    refine W.region ?_
    refine WL.move rfl rfl ?_
    refine WL.move rfl rfl ?_
    refine WL.call Try.func25 rfl Try.nm25 rfl rfl (rCmp_c ha hb hLa hLb) ?_
    rintro _ w18 ⟨rfl, hGw18⟩
    have hB := ext_trans hB hGw18
    have ha := ha0.ext hB
    have hb := hb0.ext hB
    have hO13 := hO13.ext hGw18
    refine WL.assign rfl rfl ?_
    refine WL.done ?_
    refine W.seq ?_
    refine W.region ?_
    refine WL.move rfl rfl ?_
    refine WL.move rfl rfl ?_
    refine WL.call Try.func26 rfl Try.nm26 rfl rfl (Sub_ge ha hb hLa hLb (by omega) (by omega)) ?_
    rintro _ w19 ⟨A20, m21, cp22, rfl, hGw19, hO23, hm24⟩
    have hO23 := hO23.low (b' := w.heap.size) hB.size
    have hB := ext_trans hB hGw19
    have ha := ha0.ext hB
    have hb := hb0.ext hB
    have hO13 := hO13.ext hGw19
    have hO23_l := hO23.rd.ulen
    refine WL.move rfl rfl ?_
    refine WL.extract rfl rfl rfl ?_
    refine WL.extract rfl rfl rfl ?_
    refine WL.assign rfl rfl ?_
    refine WL.assign rfl rfl ?_
    refine WL.done ?_
    refine W.seq ?_
    refine W.seq ?_
    refine W.region ?_
    refine WL.move rfl rfl ?_
    refine WL.lss rfl rfl rfl (fun c25 => ?_) (fun c25 => ?_)
    · exfalso
      omega
    · refine WL.move rfl rfl ?_
      refine WL.pass rfl rfl rfl ?_
      refine WL.pass rfl rfl rfl ?_
      refine WL.pass rfl rfl rfl ?_
      refine WL.passU rfl rfl ?_
      refine WL.passU rfl rfl ?_
      refine WL.passU rfl rfl ?_
      refine WL.pass rfl rfl rfl ?_
      refine WL.pick rfl rfl rfl ?_
      refine WL.done ?_
      refine W.condF rfl ?_
      refine W.skip ?_
      refine W.seq ?_
      refine W.seq ?_
      refine W.region ?_
      refine WL.move rfl rfl ?_
      refine WL.geq rfl rfl rfl (fun c26 => ?_) (fun c26 => ?_)
      · refine WL.move rfl rfl ?_
        refine WL.take rfl ?_
        refine WL.move rfl rfl ?_
        refine WL.take rfl ?_
        refine WL.neq rfl rfl rfl (fun c27 => ?_) (fun c27 => ?_)
        · exfalso
          omega
        · refine WL.take rfl ?_
          refine WL.move rfl rfl ?_
          refine WL.take rfl ?_
          refine WL.move rfl rfl ?_
          refine WL.take rfl ?_
          refine WL.move rfl rfl ?_
          refine WL.take rfl ?_
          refine WL.move rfl rfl ?_
          refine WL.take rfl ?_
          refine WL.call Try.func27 rfl Try.nm27 rfl rfl (rSub_c ha hb hLa hLb (by omega) (by omega)) ?_
          rintro _ w28 ⟨A29, m30, cp31, rfl, hGw28, hO32, hm33⟩
          have hO32 := hO32.low (b' := w.heap.size) hB.size
          have hB := ext_trans hB hGw28
          have ha := ha0.ext hB
          have hb := hb0.ext hB
          have hO13 := hO13.ext hGw28
          have hO23 := hO23.ext hGw28
          have hO32_l := hO32.rd.ulen
          refine WL.take rfl ?_
          refine WL.call Try.func18 rfl Try.nm18 rfl rfl (same_t hO23.rd hO32.rd (by first | rfl | (congr 1; simp; done) | (congr 1; simp; omega) | (congr 1; simp; grind))) ?_
          rintro _ w34 ⟨rfl, hGw34⟩
          have hB := ext_trans hB hGw34
          have ha := ha0.ext hB
          have hb := hb0.ext hB
          have hO13 := hO13.ext hGw34
          have hO23 := hO23.ext hGw34
          have hO32 := hO32.ext hGw34
          refine WL.take rfl ?_
          refine WL.not rfl rfl ?_
          refine WL.take rfl ?_
          refine WL.pick rfl rfl rfl ?_
          refine WL.pick rfl rfl rfl ?_
          refine WL.done ?_
          refine W.condF rfl ?_
          refine W.skip ?_
          refine W.seq ?_
          refine W.region ?_
          refine WL.move rfl rfl ?_
          refine WL.move rfl rfl ?_
          refine WL.call Try.func28 rfl Try.nm28 rfl rfl (Cmp_c ha hb hLa hLb) ?_
          rintro _ w35 ⟨rfl, hGw35⟩
          have hB := ext_trans hB hGw35
          have ha := ha0.ext hB
          have hb := hb0.ext hB
          have hO13 := hO13.ext hGw35
          have hO23 := hO23.ext hGw35
          have hO32 := hO32.ext hGw35
          refine WL.move rfl rfl ?_
          refine WL.eql rfl rfl rfl (fun c36 => ?_) (fun c36 => ?_)
          · refine WL.move rfl rfl ?_
            refine WL.take rfl ?_
            refine WL.move rfl rfl ?_
            refine WL.take rfl ?_
            refine WL.move rfl rfl ?_
            refine WL.take rfl ?_
            refine WL.lit1 (b := w35.heap.size) Try.underlying39 Try.el23 rfl rfl rfl rfl (by intro v hv; simp only [List.mem_cons, List.not_mem_nil, or_false] at hv; rcases hv with rfl | rfl <;> rfl) (Nat.le_refl _) rfl ?_
            rintro A37 w38 - hO39 hGw38
            have hO39 := hO39.low (b' := w.heap.size) hB.size
            have hB := ext_trans hB hGw38
            have ha := ha0.ext hB
            have hb := hb0.ext hB
            have hO13 := hO13.ext hGw38
            have hO23 := hO23.ext hGw38
            have hO32 := hO32.ext hGw38
            have hN40 : NatsR w38.heap.size w38 [.slice Aa ma ca, .slice Ab mb cb] [xa, xb] := (NatsR.cons ha.norm (NatsR.cons hb.norm (NatsR.nil _ _)))
            refine WL.take rfl ?_
            refine WL.call Try.func29 rfl Try.nm29 rfl rfl (Add_c hO39.rd hN40 (LimAll.cons hLa (LimAll.cons hLb LimAll.nil)) 1048576 (LenAll.cons (by first | omega | (simp; done) | (simp; omega)) (LenAll.cons (by first | omega | (simp; done) | (simp; omega)) (LenAll.nil _))) (by omega) (by simp)) ?_
            rintro _ w41 ⟨A42, m43, cp44, rfl, hGw41, hO45, hm46⟩
            have hO45 := hO45.low (b' := w.heap.size) hB.size
            have hB := ext_trans hB hGw41
            have ha := ha0.ext hB
            have hb := hb0.ext hB
            have hO13 := hO13.ext hGw41
            have hO23 := hO23.ext hGw41
            have hO32 := hO32.ext hGw41
            have hO39 := hO39.ext hGw41
            have hO45_l := hO45.rd.ulen
            refine WL.take rfl ?_
            refine WL.move rfl rfl ?_
            refine WL.take rfl ?_
            refine WL.move rfl rfl ?_
            refine WL.take rfl ?_
            refine WL.call Try.func30 rfl Try.nm30 rfl rfl (rAdd_c ha hb hLa hLb (by omega) (by omega)) ?_
            rintro _ w47 ⟨A48, m49, cp50, rfl, hGw47, hO51, hm52⟩
            have hO51 := hO51.low (b' := w.heap.size) hB.size
            have hB := ext_trans hB hGw47
            have ha := ha0.ext hB
            have hb := hb0.ext hB
            have hO13 := hO13.ext hGw47
            have hO23 := hO23.ext hGw47
            have hO32 := hO32.ext hGw47
            have hO39 := hO39.ext hGw47
            have hO45 := hO45.ext hGw47
            have hO51_l := hO51.rd.ulen
            refine WL.take rfl ?_
            refine WL.call Try.func18 rfl Try.nm18 rfl rfl (same_t hO45.rd hO51.rd (by first | rfl | (congr 1; simp; done) | (congr 1; simp; omega) | (congr 1; simp; grind))) ?_
            rintro _ w53 ⟨rfl, hGw53⟩
            have hB := ext_trans hB hGw53
            have ha := ha0.ext hB
            have hb := hb0.ext hB
            have hO13 := hO13.ext hGw53
            have hO23 := hO23.ext hGw53
            have hO32 := hO32.ext hGw53
            have hO39 := hO39.ext hGw53
            have hO45 := hO45.ext hGw53
            have hO51 := hO51.ext hGw53
            refine WL.pick rfl rfl rfl ?_
            refine WL.move rfl rfl ?_
            refine WL.take rfl ?_
            refine WL.move rfl rfl ?_
            refine WL.take rfl ?_
            refine WL.move rfl rfl ?_
            refine WL.take rfl ?_
            refine WL.lit1 (b := w53.heap.size) Try.underlying39 Try.el23 rfl rfl rfl rfl (by intro v hv; simp only [List.mem_cons, List.not_mem_nil, or_false] at hv; rcases hv with rfl | rfl <;> rfl) (Nat.le_refl _) rfl ?_
            rintro A54 w55 - hO56 hGw55
            have hO56 := hO56.low (b' := w.heap.size) hB.size
            have hB := ext_trans hB hGw55
            have ha := ha0.ext hB
            have hb := hb0.ext hB
            have hO13 := hO13.ext hGw55
            have hO23 := hO23.ext hGw55
            have hO32 := hO32.ext hGw55
            have hO39 := hO39.ext hGw55
            have hO45 := hO45.ext hGw55
            have hO51 := hO51.ext hGw55
            have hN57 : NatsR w55.heap.size w55 [.slice Aa ma ca, .slice Ab mb cb] [xa, xb] := (NatsR.cons ha.norm (NatsR.cons hb.norm (NatsR.nil _ _)))
            refine WL.take rfl ?_
            refine WL.call Try.func31 rfl Try.nm31 rfl rfl (Mul_c hO56.rd hN57 (LimAll.cons hLa (LimAll.cons hLb LimAll.nil)) 1048576 (LenAll.cons (by first | omega | (simp; done) | (simp; omega)) (LenAll.cons (by first | omega | (simp; done) | (simp; omega)) (LenAll.nil _))) (by simp)) ?_
            rintro _ w58 ⟨A59, m60, cp61, rfl, hGw58, hO62, hm63⟩
            have hO62 := hO62.low (b' := w.heap.size) hB.size
            have hB := ext_trans hB hGw58
            have ha := ha0.ext hB
            have hb := hb0.ext hB
            have hO13 := hO13.ext hGw58
            have hO23 := hO23.ext hGw58
            have hO32 := hO32.ext hGw58
            have hO39 := hO39.ext hGw58
            have hO45 := hO45.ext hGw58
            have hO51 := hO51.ext hGw58
            have hO56 := hO56.ext hGw58
            have hO62_l := hO62.rd.ulen
            try simp only [List.length_cons, List.length_nil] at hm63
            refine WL.take rfl ?_
            refine WL.move rfl rfl ?_
            refine WL.take rfl ?_
            refine WL.move rfl rfl ?_
            refine WL.take rfl ?_
            refine WL.call Try.func32 rfl Try.nm32 rfl rfl (rMul_c ha hb hLa hLb (by omega) (by omega)) ?_
            rintro _ w64 ⟨A65, m66, cp67, rfl, hGw64, hO68, hm69⟩
            have hO68 := hO68.low (b' := w.heap.size) hB.size
            have hB := ext_trans hB hGw64
            have ha := ha0.ext hB
            have hb := hb0.ext hB
            have hO13 := hO13.ext hGw64
            have hO23 := hO23.ext hGw64
            have hO32 := hO32.ext hGw64
            have hO39 := hO39.ext hGw64
            have hO45 := hO45.ext hGw64
            have hO51 := hO51.ext hGw64
            have hO56 := hO56.ext hGw64
            have hO62 := hO62.ext hGw64
            have hO68_l := hO68.rd.ulen
            refine WL.take rfl ?_
            refine WL.call Try.func18 rfl Try.nm18 rfl rfl (same_t hO62.rd hO68.rd (by first | rfl | (congr 1; simp; done) | (congr 1; simp; omega) | (congr 1; simp; grind))) ?_
            rintro _ w70 ⟨rfl, hGw70⟩
            have hB := ext_trans hB hGw70
            have ha := ha0.ext hB
            have hb := hb0.ext hB
            have hO13 := hO13.ext hGw70
            have hO23 := hO23.ext hGw70
            have hO32 := hO32.ext hGw70
            have hO39 := hO39.ext hGw70
            have hO45 := hO45.ext hGw70
            have hO51 := hO51.ext hGw70
            have hO56 := hO56.ext hGw70
            have hO62 := hO62.ext hGw70
            have hO68 := hO68.ext hGw70
            refine WL.pick rfl rfl rfl ?_
            refine WL.assign rfl rfl ?_
            refine WL.done ?_
            refine W.ret ?_
            refine ⟨_, rfl, ?_⟩
            exact ⟨rfl, hB⟩
          · exfalso
            omega
      · exfalso
        omega

theorem NatAdds_c {w : World} {Ba : Nat} {Aa : Option Addr} {ma ca : Nat} {xa : List Nat} (ha : Rd Ba w 1 Aa ma ca (us xa)) {Bb : Nat} {Ab : Option Addr} {mb cb : Nat} {xb : List Nat} (hb : Rd Bb w 1 Ab mb cb (us xb)) (hLa : Lim xa) (hLb : Lim xb) : Calls Try.prog 4 #[.slice Aa ma ca, .slice Ab mb cb] w fun e w2 => ∃ v, e = .returned v ∧ (fun v w2 => v = .bool true ∧ w.grownBy w2 none) v w2 := by
  rcases Nat.lt_or_ge (nv xa) (nv xb) with h | h
  · exact NatAdds_lt ha hb hLa hLb h
  · exact NatAdds_ge ha hb hLa hLb h
end Go.Proofs.Ythfpcebcfjlkmaa
