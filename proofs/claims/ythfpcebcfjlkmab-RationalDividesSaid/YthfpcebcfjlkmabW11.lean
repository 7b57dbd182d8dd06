/- Contracts of functions of the program, and what they lean on. -/
import Derived.Test.YthfpcebcfjlkmabW10
import Derived.Test.YthfpcebcfjlkmabVa
set_option linter.unusedSimpArgs false
set_option linter.unusedVariables false
namespace Go.Proofs.Ythfpcebcfjlkmab
open Go.RowKit
theorem NatVandermonde_c {w : World} (p : Nat) {X : Int} (hX : X = p) (hp : p < 256) (q : Nat) {Y : Int} (hY : Y = q) (hq8 : q < 256) (r : Nat) {Z : Int} (hZ : Z = r) (hr : r < 256) :
    Calls Try.prog 3 #[.int .u8 X, .int .u8 Y, .int .u8 Z] w fun e w2 => ∃ v, e = .returned v ∧ (fun v w2 => v = .bool true ∧ w.grownBy w2 none) v w2 := by
  have hB := ext_refl w
  refine calls_of_W (vs := [.int .u8 X, .int .u8 Y, .int .u8 Z]) [6] Try.func3 rfl rfl rfl rfl ?_
  refine W.seq ?_
  refine W.region ?_
  refine WL.assign rfl rfl ?_
  refine WL.done ?_
  refine W.seq ?_
  refine W.region ?_
  refine WL.move rfl rfl ?_
  refine WL.conv (r := X) Try.underlying5 Try.underlying3 rfl (wi64 (by omega) (by omega) (by omega)) rfl ?_
  refine WL.move rfl rfl ?_
  refine WL.conv (r := Y) Try.underlying5 Try.underlying3 rfl (wi64 (by omega) (by omega) (by omega)) rfl ?_
  refine WL.add (r := ((p + q : Nat) : Int)) rfl rfl (wi64 (by omega) (by omega) (by omega)) rfl ?_
  refine WL.move rfl rfl ?_
  refine WL.conv (r := Z) Try.underlying5 Try.underlying3 rfl (wi64 (by omega) (by omega) (by omega)) rfl ?_
  refine WL.call Try.func13 rfl Try.nm13 rfl rfl (Binomial_c (p + q) (by omega) (by omega)) ?_
  rintro _ w11 ⟨A12, m13, cp14, rfl, hGw11, hq, hm15⟩
  have hq := hq.low (b' := w.heap.size) hB.size
  have hB := ext_trans hB hGw11
  have hq_l := hq.rd.ulen
  refine WL.move rfl rfl ?_
  refine WL.extract rfl rfl rfl ?_
  refine WL.extract rfl rfl rfl ?_
  refine WL.assign rfl rfl ?_
  refine WL.assign rfl rfl ?_
  refine WL.done ?_
  refine W.seq ?_
  refine W.region ?_
  refine WL.assign rfl rfl ?_
  refine WL.done ?_
  refine W.seq ?_
  refine W.seq ?_
  refine W.region ?_
  refine WL.assign rfl rfl ?_
  refine WL.done ?_
  refine W.block ?_
  refine W.loop (σ := Nat × Option Addr × Nat × Nat × Option Addr × Nat × Nat) (fun s w1 => match s with | (j, Ao, mo, co, Aq, mq, cq) => w.grownBy w1 none ∧ j ≤ r + 1 ∧ Own w.heap.size w1 43 1 Ao mo co (us (digs (vs p q r j))) ∧ Own w.heap.size w1 43 1 Aq mq cq (us (digs (chz (p + q) Z)))) (fun s => match s with | (j, Ao, mo, co, Aq, mq, cq) => [(0, .int .u8 X), (1, .int .u8 Y), (2, .int .u8 Z), (7, .slice Aq mq cq), (8, .int .i64 (0 : Int)), (9, .slice Ao mo co), (10, .int .i64 ((j : Nat) : Int))]) (fun s => match s with | (j, Ao, mo, co, Aq, mq, cq) => r + 1 - j) (0, none, 0, 0, A12, m13, cp14) ?_ ?_ ?_
  · exact ⟨hB, by omega, World.ownsRow_nil _ _ _ _, hq⟩
  · exact ⟨iv (by omega), iv (by omega), iv (by omega), rfl, iv (by omega), rfl, iv (by omega), trivial⟩
  · rintro ⟨j, Ao, mo, co, Aq, mq, cq⟩ w16 ⟨hB, hj, ho, hq⟩
    have ho_l := ho.rd.ulen
    have hq_l := hq.rd.ulen
    have hvl := vs_len (p := p) (q := q) (by omega) hj
    have hz := chz_len (n := p + q) (r := r) hZ
    refine W.seq ?_
    refine W.seq ?_
    refine W.region ?_
    refine WL.move rfl rfl ?_
    refine WL.move rfl rfl ?_
    refine WL.conv (r := Z) Try.underlying5 Try.underlying3 rfl (wi64 (by omega) (by omega) (by omega)) rfl ?_
    refine WL.leq rfl rfl rfl (fun c17 => ?_) (fun c17 => ?_)
    · refine WL.done ?_
      refine W.condT rfl ?_
      refine W.skip ?_
      refine W.seq ?_
      refine W.block ?_
      refine W.seq ?_
      refine W.region ?_
      refine WL.move rfl rfl ?_
      refine WL.conv (r := X) Try.underlying5 Try.underlying3 rfl (wi64 (by omega) (by omega) (by omega)) rfl ?_
      refine WL.move rfl rfl ?_
      refine WL.call Try.func13 rfl Try.nm13 rfl rfl (Binomial_c p (by omega) (by omega)) ?_
      rintro _ w18 ⟨A19, m20, cp21, rfl, hGw18, hO22, hm23⟩
      have hO22 := hO22.low (b' := w.heap.size) hB.size
      have hB := ext_trans hB hGw18
      have ho := ho.ext hGw18
      have hq := hq.ext hGw18
      have hO22_l := hO22.rd.ulen
      refine WL.move rfl rfl ?_
      refine WL.extract rfl rfl rfl ?_
      refine WL.extract rfl rfl rfl ?_
      refine WL.assign rfl rfl ?_
      refine WL.assign rfl rfl ?_
      refine WL.done ?_
      refine W.seq ?_
      refine W.region ?_
      refine WL.move rfl rfl ?_
      refine WL.conv (r := Y) Try.underlying5 Try.underlying3 rfl (wi64 (by omega) (by omega) (by omega)) rfl ?_
      refine WL.move rfl rfl ?_
      refine WL.conv (r := Z) Try.underlying5 Try.underlying3 rfl (wi64 (by omega) (by omega) (by omega)) rfl ?_
      refine WL.move rfl rfl ?_
      refine WL.sub (r := ((r - j : Nat) : Int)) rfl rfl (wi64 (by omega) (by omega) (by omega)) rfl ?_
      refine WL.call Try.func13 rfl Try.nm13 rfl rfl (Binomial_c q (by omega) (by omega)) ?_
      rintro _ w24 ⟨A25, m26, cp27, rfl, hGw24, hO28, hm29⟩
      have hO28 := hO28.low (b' := w.heap.size) hB.size
      have hB := ext_trans hB hGw24
      have ho := ho.ext hGw24
      have hq := hq.ext hGw24
      have hO22 := hO22.ext hGw24
      have hO28_l := hO28.rd.ulen
      refine WL.move rfl rfl ?_
      refine WL.extract rfl rfl rfl ?_
      refine WL.extract rfl rfl rfl ?_
      refine WL.assign rfl rfl ?_
      refine WL.assign rfl rfl ?_
      refine WL.done ?_
      refine W.seq ?_
      refine W.seq ?_
      refine W.region ?_
      refine WL.move rfl rfl ?_
      refine WL.neq rfl rfl rfl (fun c30 => ?_) (fun c30 => ?_)
      · exfalso
        omega
      · refine WL.move rfl rfl ?_
        refine WL.take rfl ?_
        refine WL.move rfl rfl ?_
        refine WL.take rfl ?_
        refine WL.neq rfl rfl rfl (fun c31 => ?_) (fun c31 => ?_)
        · exfalso
          omega
        · refine WL.pick rfl rfl rfl ?_
          refine WL.done ?_
          refine W.condF rfl ?_
          refine W.skip ?_
          refine W.region ?_
          refine WL.move rfl rfl ?_
          refine WL.move rfl rfl ?_
          refine WL.move rfl rfl ?_
          refine WL.lit1 (b := w24.heap.size) Try.underlying59 Try.el23 rfl rfl rfl rfl (by intro v hv; simp only [List.mem_cons, List.not_mem_nil, or_false] at hv; rcases hv with rfl | rfl <;> rfl) (Nat.le_refl _) rfl ?_
          rintro A32 w33 - hO34 hGw33
          have hO34 := hO34.low (b' := w.heap.size) hB.size
          have hB := ext_trans hB hGw33
          have ho := ho.ext hGw33
          have hq := hq.ext hGw33
          have hO22 := hO22.ext hGw33
          have hO28 := hO28.ext hGw33
          have hN35 : NatsR w33.heap.size w33 [.slice A19 m20 cp21, .slice A25 m26 cp27] [digs (chz p ((j : Nat) : Int)), digs (chz q ((r - j : Nat) : Int))] := (NatsR.cons hO22.rd.norm (NatsR.cons hO28.rd.norm (NatsR.nil _ _)))
          refine WL.call Try.func15 rfl Try.nm15 rfl rfl (Mul_c hO34.rd hN35 (LimAll.cons (digs_lim _) (LimAll.cons (digs_lim _) LimAll.nil)) 129 (LenAll.cons (by first | omega | (simp; done) | (simp; omega)) (LenAll.cons (by first | omega | (simp; done) | (simp; omega)) (LenAll.nil _))) (by simp)) ?_
          rintro _ w36 ⟨A37, m38, cp39, rfl, hGw36, hO40, hm41⟩
          have hO40 := hO40.low (b' := w.heap.size) hB.size
          have hB := ext_trans hB hGw36
          have ho := ho.ext hGw36
          have hq := hq.ext hGw36
          have hO40_l := hO40.rd.ulen
          try simp only [List.length_cons, List.length_nil] at hm41
          refine WL.lit1 (b := w36.heap.size) Try.underlying59 Try.el23 rfl rfl rfl rfl (by intro v hv; simp only [List.mem_cons, List.not_mem_nil, or_false] at hv; rcases hv with rfl | rfl <;> rfl) (Nat.le_refl _) rfl ?_
          rintro A42 w43 - hO44 hGw43
          have hO44 := hO44.low (b' := w.heap.size) hB.size
          have hB := ext_trans hB hGw43
          have ho := ho.ext hGw43
          have hq := hq.ext hGw43
          have hO40 := hO40.ext hGw43
          have hN45 : NatsR w43.heap.size w43 [.slice Ao mo co, .slice A37 m38 cp39] [digs (vs p q r j), digs (prodN ([digs (chz p ((j : Nat) : Int)), digs (chz q ((r - j : Nat) : Int))]))] := (NatsR.cons ho.rd.norm (NatsR.cons hO40.rd.norm (NatsR.nil _ _)))
          refine WL.call Try.func14 rfl Try.nm14 rfl rfl (Add_c hO44.rd hN45 (LimAll.cons (digs_lim _) (LimAll.cons (digs_lim _) LimAll.nil)) 1048576 (LenAll.cons (by first | omega | (simp; done) | (simp; omega)) (LenAll.cons (by first | omega | (simp; done) | (simp; omega)) (LenAll.nil _))) (by omega) (by simp)) ?_
          rintro _ w46 ⟨A47, m48, cp49, rfl, hGw46, hO, hm50⟩
          have hO := hO.low (b' := w.heap.size) hB.size
          have hB := ext_trans hB hGw46
          have hq := hq.ext hGw46
          have hO_l := hO.rd.ulen
          have e1 : sumN [digs (vs p q r j), digs (prodN [digs (chz p ((j : Nat) : Int)), digs (chz q ((r - j : Nat) : Int))])] = vs p q r (j + 1) := by
            simp only [sumN_cons, sumN_nil, prodN_cons, prodN_nil, nv_digs, Nat.mul_one, Nat.add_zero]
            rw [chz_nat p j rfl, chz_nat q (r - j) rfl, vs_step]
          rw [e1] at hO
          refine WL.assign rfl rfl ?_
          refine WL.done ?_
          refine W.region ?_
          refine WL.move rfl rfl ?_
          refine WL.add (r := ((j + 1 : Nat) : Int)) rfl rfl (wi64 (by omega) (by omega) (by omega)) rfl ?_
          refine WL.assign rfl rfl ?_
          refine WL.done ?_
          refine ⟨(j + 1, _, _, _, _, _, _), ⟨iv (by omega), iv (by omega), iv (by omega), rfl, iv (by omega), rfl, iv (by omega), trivial⟩, by (dsimp only; omega), ?_⟩
          exact ⟨hB, by omega, hO, hq⟩
    · refine WL.done ?_
      refine W.condF rfl ?_
      refine W.exit ?_
      refine W.seq ?_
      refine W.region ?_
      refine WL.move rfl rfl ?_
      refine WL.eql rfl rfl rfl (fun c51 => ?_) (fun c51 => ?_)
      · refine WL.move rfl rfl ?_
        refine WL.take rfl ?_
        refine WL.move rfl rfl ?_
        refine WL.take rfl ?_
        refine WL.move rfl rfl ?_
        refine WL.take rfl ?_
        refine WL.call Try.func16 rfl Try.nm16 rfl rfl (same_t ho.rd hq.rd (digs_congr (by rw [show j = r + 1 by omega, vs_all, chz_nat _ _ hZ]))) ?_
        rintro _ w52 ⟨rfl, hGw52⟩
        have hB := ext_trans hB hGw52
        refine WL.pick rfl rfl rfl ?_
        refine WL.move rfl rfl ?_
        refine WL.take rfl ?_
        refine WL.move rfl rfl ?_
        refine WL.take rfl ?_
        refine WL.conv (r := Z) Try.underlying5 Try.underlying3 rfl (wi64 (by omega) (by omega) (by omega)) rfl ?_
        refine WL.take rfl ?_
        refine WL.move rfl rfl ?_
        refine WL.take rfl ?_
        refine WL.conv (r := X) Try.underlying5 Try.underlying3 rfl (wi64 (by omega) (by omega) (by omega)) rfl ?_
        refine WL.take rfl ?_
        refine WL.move rfl rfl ?_
        refine WL.take rfl ?_
        refine WL.conv (r := Y) Try.underlying5 Try.underlying3 rfl (wi64 (by omega) (by omega) (by omega)) rfl ?_
        refine WL.take rfl ?_
        refine WL.add (r := ((p + q : Nat) : Int)) rfl rfl (wi64 (by omega) (by omega) (by omega)) rfl ?_
        refine WL.take rfl ?_
        refine WL.gtr rfl rfl rfl (fun c53 => ?_) (fun c53 => ?_)
        · refine WL.take rfl ?_
          refine WL.move rfl rfl ?_
          refine WL.take rfl ?_
          refine WL.len Try.underlying23 rfl rfl ?_
          refine WL.take rfl ?_
          refine WL.eql rfl rfl rfl (fun c54 => ?_) (fun c54 => ?_)
          · refine WL.take rfl ?_
            refine WL.eqB rfl rfl Try.underlying4 rfl rfl ?_
            refine WL.pick rfl rfl rfl ?_
            refine WL.assign rfl rfl ?_
            refine WL.done ?_
            refine W.ret ?_
            refine ⟨_, rfl, ?_⟩
            exact ⟨rfl, hB⟩
          · exfalso
            omega
        · refine WL.take rfl ?_
          refine WL.move rfl rfl ?_
          refine WL.take rfl ?_
          refine WL.len Try.underlying23 rfl rfl ?_
          refine WL.take rfl ?_
          refine WL.eql rfl rfl rfl (fun c55 => ?_) (fun c55 => ?_)
          · exfalso
            omega
          · refine WL.take rfl ?_
            refine WL.eqB rfl rfl Try.underlying4 rfl rfl ?_
            refine WL.pick rfl rfl rfl ?_
            refine WL.assign rfl rfl ?_
            refine WL.done ?_
            refine W.ret ?_
            refine ⟨_, rfl, ?_⟩
            exact ⟨rfl, hB⟩
      · exfalso
        omega
end Go.Proofs.Ythfpcebcfjlkmab
