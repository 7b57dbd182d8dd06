/- Contracts of functions of the program, and what they lean on: N7, N8, N9. -/
import Derived.Test.YtdmgbahognfhbaaG4
set_option linter.unusedSimpArgs false
set_option linter.unusedVariables false
namespace Go.Proofs.Ytdmgbahognfhbaa
open Go.RowKit
theorem Exp_neg {w : World} {X : Int} (hX : -9223372036854775808 ≤ X ∧ X ≤ 9223372036854775807) {Y : Int} (hY : -9223372036854775808 ≤ Y ∧ Y ≤ 9223372036854775807) {Z : Int} (hZ : -9223372036854775808 ≤ Z ∧ Z ≤ 9223372036854775807) (hng : X < 0 ∨ Y < 0 ∨ Z < 0) :
    Calls Try.prog 44 #[.int .i64 X, .int .i64 Y, .int .i64 Z] w fun e w2 => ∃ v, e = .returned v ∧ (fun v w2 => v = .tuple #[.int .i64 (((expS X Y Z).1 : Nat) : Int), .int .i64 (((expS X Y Z).2 : Nat) : Int)] ∧ w.grownBy w2 none) v w2 := by
  have hB := ext_refl w
  refine calls_of_W (vs := [.int .i64 X, .int .i64 Y, .int .i64 Z]) [6, 7] Try.func44 rfl rfl rfl rfl ?_
  refine W.seq ?_
  refine W.region ?_
  refine WL.assign rfl rfl ?_
  refine WL.assign rfl rfl ?_
  refine WL.done ?_
  refine W.seq ?_
  refine W.seq ?_
  refine W.region ?_
  refine WL.move rfl rfl ?_
  refine WL.lss rfl rfl rfl (fun c11 => ?_) (fun c11 => ?_)
  · refine WL.move rfl rfl ?_
    refine WL.pass rfl rfl rfl ?_
    refine WL.pass rfl rfl rfl ?_
    refine WL.pick rfl rfl rfl ?_
    refine WL.move rfl rfl ?_
    refine WL.pass rfl rfl rfl ?_
    refine WL.pass rfl rfl rfl ?_
    refine WL.pick rfl rfl rfl ?_
    refine WL.done ?_
    refine W.condT rfl ?_
    refine W.seq ?_
    refine W.region ?_
    refine WL.assign rfl rfl ?_
    refine WL.assign rfl rfl ?_
    refine WL.done ?_
    refine W.ret ?_
    refine ⟨_, rfl, ?_⟩
    rw [expS_neg hng]
    exact ⟨rfl, hB⟩
  · refine WL.move rfl rfl ?_
    refine WL.take rfl ?_
    refine WL.move rfl rfl ?_
    refine WL.take rfl ?_
    refine WL.lss rfl rfl rfl (fun c12 => ?_) (fun c12 => ?_)
    · refine WL.pick rfl rfl rfl ?_
      refine WL.move rfl rfl ?_
      refine WL.pass rfl rfl rfl ?_
      refine WL.pass rfl rfl rfl ?_
      refine WL.pick rfl rfl rfl ?_
      refine WL.done ?_
      refine W.condT rfl ?_
      refine W.seq ?_
      refine W.region ?_
      refine WL.assign rfl rfl ?_
      refine WL.assign rfl rfl ?_
      refine WL.done ?_
      refine W.ret ?_
      refine ⟨_, rfl, ?_⟩
      rw [expS_neg hng]
      exact ⟨rfl, hB⟩
    · refine WL.pick rfl rfl rfl ?_
      refine WL.move rfl rfl ?_
      refine WL.take rfl ?_
      refine WL.move rfl rfl ?_
      refine WL.take rfl ?_
      refine WL.lss rfl rfl rfl (fun c13 => ?_) (fun c13 => ?_)
      · refine WL.pick rfl rfl rfl ?_
        refine WL.done ?_
        refine W.condT rfl ?_
        refine W.seq ?_
        refine W.region ?_
        refine WL.assign rfl rfl ?_
        refine WL.assign rfl rfl ?_
        refine WL.done ?_
        refine W.ret ?_
        refine ⟨_, rfl, ?_⟩
        rw [expS_neg hng]
        exact ⟨rfl, hB⟩
      · exfalso
        omega

theorem Exp_nn {w : World} (q : Nat) {X : Int} (hX : X = q) (k : Nat) {Y : Int} (hY : Y = k) (m : Nat) {Z : Int} (hZ : Z = m) (hq : q < 9223372036854775808) (hk : k < 9223372036854775808) (hm : m < 9223372036854775808) :
    Calls Try.prog 44 #[.int .i64 X, .int .i64 Y, .int .i64 Z] w fun e w2 => ∃ v, e = .returned v ∧ (fun v w2 => v = .tuple #[.int .i64 (((expS X Y Z).1 : Nat) : Int), .int .i64 (((expS X Y Z).2 : Nat) : Int)] ∧ w.grownBy w2 none) v w2 := by
  have hB := ext_refl w
  refine calls_of_W (vs := [.int .i64 X, .int .i64 Y, .int .i64 Z]) [6, 7] Try.func44 rfl rfl rfl rfl ?_
  refine W.seq ?_
  refine W.region ?_
  refine WL.assign rfl rfl ?_
  refine WL.assign rfl rfl ?_
  refine WL.done ?_
  refine W.seq ?_
  refine W.seq ?_
  refine W.region ?_
  refine WL.move rfl rfl ?_
  refine WL.lss rfl rfl rfl (fun c11 => ?_) (fun c11 => ?_)
  · exfalso
    omega
  · refine WL.move rfl rfl ?_
    refine WL.take rfl ?_
    refine WL.move rfl rfl ?_
    refine WL.take rfl ?_
    refine WL.lss rfl rfl rfl (fun c12 => ?_) (fun c12 => ?_)
    · exfalso
      omega
    · refine WL.pick rfl rfl rfl ?_
      refine WL.move rfl rfl ?_
      refine WL.take rfl ?_
      refine WL.move rfl rfl ?_
      refine WL.take rfl ?_
      refine WL.lss rfl rfl rfl (fun c13 => ?_) (fun c13 => ?_)
      · exfalso
        omega
      · refine WL.pick rfl rfl rfl ?_
        refine WL.done ?_
        refine W.condF rfl ?_
        refine W.skip ?_
        refine W.seq ?_
        refine W.seq ?_
        refine W.region ?_
        refine WL.move rfl rfl ?_
        refine WL.eql rfl rfl rfl (fun c14 => ?_) (fun c14 => ?_)
        · refine WL.move rfl rfl ?_
          refine WL.take rfl ?_
          refine WL.move rfl rfl ?_
          refine WL.take rfl ?_
          refine WL.gtr rfl rfl rfl (fun c15 => ?_) (fun c15 => ?_)
          · refine WL.pick rfl rfl rfl ?_
            refine WL.done ?_
            refine W.condT rfl ?_
            refine W.seq ?_
            refine W.region ?_
            refine WL.assign rfl rfl ?_
            refine WL.assign rfl rfl ?_
            refine WL.done ?_
            refine W.ret ?_
            refine ⟨_, rfl, ?_⟩
            first
            | (rw [expS_zero (by omega) (by omega)]; exact ⟨rfl, hB⟩)
            | (rw [hX, hY, hZ, expS_pos (by omega), exp_end hjr hK (by omega)]; exact ⟨rfl, hB⟩)
          · refine WL.pick rfl rfl rfl ?_
            refine WL.done ?_
            refine W.condF rfl ?_
            refine W.skip ?_
            refine W.seq ?_
            refine W.seq ?_
            refine W.region ?_
            refine WL.move rfl rfl ?_
            refine WL.eql rfl rfl rfl (fun c16 => ?_) (fun c16 => ?_)
            · refine WL.done ?_
              refine W.condT rfl ?_
              refine W.region ?_
              refine WL.assign rfl rfl ?_
              refine WL.done ?_
              refine W.seq ?_
              refine W.region ?_
              refine WL.move rfl rfl ?_
              refine WL.call Try.func66 rfl Try.nm66 rfl rfl (times_c 1 rfl 1 rfl m (by omega) (by omega) (by omega) (by omega) (by omega)) ?_
              rintro _ w17 ⟨rfl, hGw17⟩
              have hB := ext_trans hB hGw17
              rw [show 1 * 1 = q ^ 0 from rfl]
              refine WL.move rfl rfl ?_
              refine WL.extract rfl rfl rfl ?_
              refine WL.extract rfl rfl rfl ?_
              refine WL.assign rfl rfl ?_
              refine WL.assign rfl rfl ?_
              refine WL.done ?_
              refine W.seq ?_
              refine W.block ?_
              refine W.loop (σ := Nat × Nat × Nat) (fun s w1 => match s with | (j, r, K) => w.grownBy w1 none ∧ j + r = K ∧ (q = 1 ∧ K = 0 ∨ q ≠ 1 ∧ K = k ∧ (q = 0 → k = 0))) (fun s => match s with | (j, r, K) => [(0, .int .i64 X), (1, .int .i64 ((r : Nat) : Int)), (2, .int .i64 Z), (8, .int .i64 (((prS m (q ^ j)).1 : Nat) : Int)), (9, .int .i64 (((prS m (q ^ j)).2 : Nat) : Int))]) (fun s => match s with | (j, r, K) => r) (0, 0, 0) ?_ ?_ ?_
              · exact ⟨hB, by omega, by omega⟩
              · exact ⟨iv (by omega), iv (by omega), iv (by omega), iv (by omega), iv (by omega), trivial⟩
              · rintro ⟨j, r, K⟩ w18 ⟨hB, hjr, hK⟩
                have hle := prS_le m (q ^ j)
                have hok := @prS_2 m (q ^ j)
                refine W.seq ?_
                refine W.seq ?_
                refine W.region ?_
                refine WL.move rfl rfl ?_
                refine WL.gtr rfl rfl rfl (fun c19 => ?_) (fun c19 => ?_)
                · refine WL.move rfl rfl ?_
                  refine WL.take rfl ?_
                  refine WL.move rfl rfl ?_
                  refine WL.take rfl ?_
                  refine WL.eql rfl rfl rfl (fun c20 => ?_) (fun c20 => ?_)
                  · refine WL.pick rfl rfl rfl ?_
                    refine WL.done ?_
                    refine W.condT rfl ?_
                    refine W.skip ?_
                    refine W.seq ?_
                    refine W.block ?_
                    have hpr := prS_ok (hok.1 (by omega)); have hp1 : (prS m (q ^ j)).1 = q ^ j := (by rw [hpr]); have hok1 := hok.1 (by omega)
                    · refine W.region ?_
                      refine WL.move rfl rfl ?_
                      refine WL.move rfl rfl ?_
                      refine WL.move rfl rfl ?_
                      refine WL.call Try.func66 rfl Try.nm66 rfl rfl (times_c (q ^ j) (by omega) q (by omega) m (by omega) (by omega) (by omega) (by omega) (by omega)) ?_
                      rintro _ w21 ⟨rfl, hGw21⟩
                      have hB := ext_trans hB hGw21
                      rw [← Nat.pow_succ, Nat.succ_eq_add_one]
                      refine WL.move rfl rfl ?_
                      refine WL.extract rfl rfl rfl ?_
                      refine WL.extract rfl rfl rfl ?_
                      refine WL.assign rfl rfl ?_
                      refine WL.assign rfl rfl ?_
                      refine WL.done ?_
                      refine W.region ?_
                      refine WL.move rfl rfl ?_
                      refine WL.sub (r := ((r - 1 : Nat) : Int)) rfl rfl (wi64 (by omega) (by omega) (by omega)) rfl ?_
                      refine WL.assign rfl rfl ?_
                      refine WL.done ?_
                      refine ⟨(j + 1, r - 1, K), ⟨iv (by omega), iv (by omega), iv (by omega), iv (by omega), iv (by omega), trivial⟩, by (dsimp only; omega), ?_⟩
                      exact ⟨hB, by omega, hK⟩
                  · refine WL.pick rfl rfl rfl ?_
                    refine WL.done ?_
                    refine W.condF rfl ?_
                    refine W.exit ?_
                    refine W.seq ?_
                    refine W.region ?_
                    refine WL.move rfl rfl ?_
                    refine WL.move rfl rfl ?_
                    refine WL.assign rfl rfl ?_
                    refine WL.assign rfl rfl ?_
                    refine WL.done ?_
                    refine W.ret ?_
                    refine ⟨_, rfl, ?_⟩
                    first
                    | (rw [expS_zero (by omega) (by omega)]; exact ⟨rfl, hB⟩)
                    | (rw [hX, hY, hZ, expS_pos (by omega), exp_end hjr hK (by omega)]; exact ⟨rfl, hB⟩)
                · refine WL.move rfl rfl ?_
                  refine WL.pass rfl rfl rfl ?_
                  refine WL.pass rfl rfl rfl ?_
                  refine WL.pick rfl rfl rfl ?_
                  refine WL.done ?_
                  refine W.condF rfl ?_
                  refine W.exit ?_
                  refine W.seq ?_
                  refine W.region ?_
                  refine WL.move rfl rfl ?_
                  refine WL.move rfl rfl ?_
                  refine WL.assign rfl rfl ?_
                  refine WL.assign rfl rfl ?_
                  refine WL.done ?_
                  refine W.ret ?_
                  refine ⟨_, rfl, ?_⟩
                  first
                  | (rw [expS_zero (by omega) (by omega)]; exact ⟨rfl, hB⟩)
                  | (rw [hX, hY, hZ, expS_pos (by omega), exp_end hjr hK (by omega)]; exact ⟨rfl, hB⟩)
            · refine WL.done ?_
              refine W.condF rfl ?_
              refine W.skip ?_
              refine W.seq ?_
              refine W.region ?_
              refine WL.move rfl rfl ?_
              refine WL.call Try.func66 rfl Try.nm66 rfl rfl (times_c 1 rfl 1 rfl m (by omega) (by omega) (by omega) (by omega) (by omega)) ?_
              rintro _ w22 ⟨rfl, hGw22⟩
              have hB := ext_trans hB hGw22
              rw [show 1 * 1 = q ^ 0 from rfl]
              refine WL.move rfl rfl ?_
              refine WL.extract rfl rfl rfl ?_
              refine WL.extract rfl rfl rfl ?_
              refine WL.assign rfl rfl ?_
              refine WL.assign rfl rfl ?_
              refine WL.done ?_
              refine W.seq ?_
              refine W.block ?_
              refine W.loop (σ := Nat × Nat × Nat) (fun s w1 => match s with | (j, r, K) => w.grownBy w1 none ∧ j + r = K ∧ (q = 1 ∧ K = 0 ∨ q ≠ 1 ∧ K = k ∧ (q = 0 → k = 0))) (fun s => match s with | (j, r, K) => [(0, .int .i64 X), (1, .int .i64 ((r : Nat) : Int)), (2, .int .i64 Z), (8, .int .i64 (((prS m (q ^ j)).1 : Nat) : Int)), (9, .int .i64 (((prS m (q ^ j)).2 : Nat) : Int))]) (fun s => match s with | (j, r, K) => r) (0, k, k) ?_ ?_ ?_
              · exact ⟨hB, by omega, by omega⟩
              · exact ⟨iv (by omega), iv (by omega), iv (by omega), iv (by omega), iv (by omega), trivial⟩
              · rintro ⟨j, r, K⟩ w23 ⟨hB, hjr, hK⟩
                have hle := prS_le m (q ^ j)
                have hok := @prS_2 m (q ^ j)
                refine W.seq ?_
                refine W.seq ?_
                refine W.region ?_
                refine WL.move rfl rfl ?_
                refine WL.gtr rfl rfl rfl (fun c24 => ?_) (fun c24 => ?_)
                · refine WL.move rfl rfl ?_
                  refine WL.take rfl ?_
                  refine WL.move rfl rfl ?_
                  refine WL.take rfl ?_
                  refine WL.eql rfl rfl rfl (fun c25 => ?_) (fun c25 => ?_)
                  · refine WL.pick rfl rfl rfl ?_
                    refine WL.done ?_
                    refine W.condT rfl ?_
                    refine W.skip ?_
                    refine W.seq ?_
                    refine W.block ?_
                    have hpr := prS_ok (hok.1 (by omega)); have hp1 : (prS m (q ^ j)).1 = q ^ j := (by rw [hpr]); have hok1 := hok.1 (by omega)
                    · refine W.region ?_
                      refine WL.move rfl rfl ?_
                      refine WL.move rfl rfl ?_
                      refine WL.move rfl rfl ?_
                      refine WL.call Try.func66 rfl Try.nm66 rfl rfl (times_c (q ^ j) (by omega) q (by omega) m (by omega) (by omega) (by omega) (by omega) (by omega)) ?_
                      rintro _ w26 ⟨rfl, hGw26⟩
                      have hB := ext_trans hB hGw26
                      rw [← Nat.pow_succ, Nat.succ_eq_add_one]
                      refine WL.move rfl rfl ?_
                      refine WL.extract rfl rfl rfl ?_
                      refine WL.extract rfl rfl rfl ?_
                      refine WL.assign rfl rfl ?_
                      refine WL.assign rfl rfl ?_
                      refine WL.done ?_
                      refine W.region ?_
                      refine WL.move rfl rfl ?_
                      refine WL.sub (r := ((r - 1 : Nat) : Int)) rfl rfl (wi64 (by omega) (by omega) (by omega)) rfl ?_
                      refine WL.assign rfl rfl ?_
                      refine WL.done ?_
                      refine ⟨(j + 1, r - 1, K), ⟨iv (by omega), iv (by omega), iv (by omega), iv (by omega), iv (by omega), trivial⟩, by (dsimp only; omega), ?_⟩
                      exact ⟨hB, by omega, hK⟩
                  · refine WL.pick rfl rfl rfl ?_
                    refine WL.done ?_
                    refine W.condF rfl ?_
                    refine W.exit ?_
                    refine W.seq ?_
                    refine W.region ?_
                    refine WL.move rfl rfl ?_
                    refine WL.move rfl rfl ?_
                    refine WL.assign rfl rfl ?_
                    refine WL.assign rfl rfl ?_
                    refine WL.done ?_
                    refine W.ret ?_
                    refine ⟨_, rfl, ?_⟩
                    first
                    | (rw [expS_zero (by omega) (by omega)]; exact ⟨rfl, hB⟩)
                    | (rw [hX, hY, hZ, expS_pos (by omega), exp_end hjr hK (by omega)]; exact ⟨rfl, hB⟩)
                · refine WL.move rfl rfl ?_
                  refine WL.pass rfl rfl rfl ?_
                  refine WL.pass rfl rfl rfl ?_
                  refine WL.pick rfl rfl rfl ?_
                  refine WL.done ?_
                  refine W.condF rfl ?_
                  refine W.exit ?_
                  refine W.seq ?_
                  refine W.region ?_
                  refine WL.move rfl rfl ?_
                  refine WL.move rfl rfl ?_
                  refine WL.assign rfl rfl ?_
                  refine WL.assign rfl rfl ?_
                  refine WL.done ?_
                  refine W.ret ?_
                  refine ⟨_, rfl, ?_⟩
                  first
                  | (rw [expS_zero (by omega) (by omega)]; exact ⟨rfl, hB⟩)
                  | (rw [hX, hY, hZ, expS_pos (by omega), exp_end hjr hK (by omega)]; exact ⟨rfl, hB⟩)
        · refine WL.move rfl rfl ?_
          refine WL.pass rfl rfl rfl ?_
          refine WL.pass rfl rfl rfl ?_
          refine WL.pick rfl rfl rfl ?_
          refine WL.done ?_
          refine W.condF rfl ?_
          refine W.skip ?_
          refine W.seq ?_
          refine W.seq ?_
          refine W.region ?_
          refine WL.move rfl rfl ?_
          refine WL.eql rfl rfl rfl (fun c27 => ?_) (fun c27 => ?_)
          · refine WL.done ?_
            refine W.condT rfl ?_
            refine W.region ?_
            refine WL.assign rfl rfl ?_
            refine WL.done ?_
            refine W.seq ?_
            refine W.region ?_
            refine WL.move rfl rfl ?_
            refine WL.call Try.func66 rfl Try.nm66 rfl rfl (times_c 1 rfl 1 rfl m (by omega) (by omega) (by omega) (by omega) (by omega)) ?_
            rintro _ w28 ⟨rfl, hGw28⟩
            have hB := ext_trans hB hGw28
            rw [show 1 * 1 = q ^ 0 from rfl]
            refine WL.move rfl rfl ?_
            refine WL.extract rfl rfl rfl ?_
            refine WL.extract rfl rfl rfl ?_
            refine WL.assign rfl rfl ?_
            refine WL.assign rfl rfl ?_
            refine WL.done ?_
            refine W.seq ?_
            refine W.block ?_
            refine W.loop (σ := Nat × Nat × Nat) (fun s w1 => match s with | (j, r, K) => w.grownBy w1 none ∧ j + r = K ∧ (q = 1 ∧ K = 0 ∨ q ≠ 1 ∧ K = k ∧ (q = 0 → k = 0))) (fun s => match s with | (j, r, K) => [(0, .int .i64 X), (1, .int .i64 ((r : Nat) : Int)), (2, .int .i64 Z), (8, .int .i64 (((prS m (q ^ j)).1 : Nat) : Int)), (9, .int .i64 (((prS m (q ^ j)).2 : Nat) : Int))]) (fun s => match s with | (j, r, K) => r) (0, 0, 0) ?_ ?_ ?_
            · exact ⟨hB, by omega, by omega⟩
            · exact ⟨iv (by omega), iv (by omega), iv (by omega), iv (by omega), iv (by omega), trivial⟩
            · rintro ⟨j, r, K⟩ w29 ⟨hB, hjr, hK⟩
              have hle := prS_le m (q ^ j)
              have hok := @prS_2 m (q ^ j)
              refine W.seq ?_
              refine W.seq ?_
              refine W.region ?_
              refine WL.move rfl rfl ?_
              refine WL.gtr rfl rfl rfl (fun c30 => ?_) (fun c30 => ?_)
              · refine WL.move rfl rfl ?_
                refine WL.take rfl ?_
                refine WL.move rfl rfl ?_
                refine WL.take rfl ?_
                refine WL.eql rfl rfl rfl (fun c31 => ?_) (fun c31 => ?_)
                · refine WL.pick rfl rfl rfl ?_
                  refine WL.done ?_
                  refine W.condT rfl ?_
                  refine W.skip ?_
                  refine W.seq ?_
                  refine W.block ?_
                  have hpr := prS_ok (hok.1 (by omega)); have hp1 : (prS m (q ^ j)).1 = q ^ j := (by rw [hpr]); have hok1 := hok.1 (by omega)
                  · refine W.region ?_
                    refine WL.move rfl rfl ?_
                    refine WL.move rfl rfl ?_
                    refine WL.move rfl rfl ?_
                    refine WL.call Try.func66 rfl Try.nm66 rfl rfl (times_c (q ^ j) (by omega) q (by omega) m (by omega) (by omega) (by omega) (by omega) (by omega)) ?_
                    rintro _ w32 ⟨rfl, hGw32⟩
                    have hB := ext_trans hB hGw32
                    rw [← Nat.pow_succ, Nat.succ_eq_add_one]
                    refine WL.move rfl rfl ?_
                    refine WL.extract rfl rfl rfl ?_
                    refine WL.extract rfl rfl rfl ?_
                    refine WL.assign rfl rfl ?_
                    refine WL.assign rfl rfl ?_
                    refine WL.done ?_
                    refine W.region ?_
                    refine WL.move rfl rfl ?_
                    refine WL.sub (r := ((r - 1 : Nat) : Int)) rfl rfl (wi64 (by omega) (by omega) (by omega)) rfl ?_
                    refine WL.assign rfl rfl ?_
                    refine WL.done ?_
                    refine ⟨(j + 1, r - 1, K), ⟨iv (by omega), iv (by omega), iv (by omega), iv (by omega), iv (by omega), trivial⟩, by (dsimp only; omega), ?_⟩
                    exact ⟨hB, by omega, hK⟩
                · refine WL.pick rfl rfl rfl ?_
                  refine WL.done ?_
                  refine W.condF rfl ?_
                  refine W.exit ?_
                  refine W.seq ?_
                  refine W.region ?_
                  refine WL.move rfl rfl ?_
                  refine WL.move rfl rfl ?_
                  refine WL.assign rfl rfl ?_
                  refine WL.assign rfl rfl ?_
                  refine WL.done ?_
                  refine W.ret ?_
                  refine ⟨_, rfl, ?_⟩
                  first
                  | (rw [expS_zero (by omega) (by omega)]; exact ⟨rfl, hB⟩)
                  | (rw [hX, hY, hZ, expS_pos (by omega), exp_end hjr hK (by omega)]; exact ⟨rfl, hB⟩)
              · refine WL.move rfl rfl ?_
                refine WL.pass rfl rfl rfl ?_
                refine WL.pass rfl rfl rfl ?_
                refine WL.pick rfl rfl rfl ?_
                refine WL.done ?_
                refine W.condF rfl ?_
                refine W.exit ?_
                refine W.seq ?_
                refine W.region ?_
                refine WL.move rfl rfl ?_
                refine WL.move rfl rfl ?_
                refine WL.assign rfl rfl ?_
                refine WL.assign rfl rfl ?_
                refine WL.done ?_
                refine W.ret ?_
                refine ⟨_, rfl, ?_⟩
                first
                | (rw [expS_zero (by omega) (by omega)]; exact ⟨rfl, hB⟩)
                | (rw [hX, hY, hZ, expS_pos (by omega), exp_end hjr hK (by omega)]; exact ⟨rfl, hB⟩)
          · refine WL.done ?_
            refine W.condF rfl ?_
            refine W.skip ?_
            refine W.seq ?_
            refine W.region ?_
            refine WL.move rfl rfl ?_
            refine WL.call Try.func66 rfl Try.nm66 rfl rfl (times_c 1 rfl 1 rfl m (by omega) (by omega) (by omega) (by omega) (by omega)) ?_
            rintro _ w33 ⟨rfl, hGw33⟩
            have hB := ext_trans hB hGw33
            rw [show 1 * 1 = q ^ 0 from rfl]
            refine WL.move rfl rfl ?_
            refine WL.extract rfl rfl rfl ?_
            refine WL.extract rfl rfl rfl ?_
            refine WL.assign rfl rfl ?_
            refine WL.assign rfl rfl ?_
            refine WL.done ?_
            refine W.seq ?_
            refine W.block ?_
            refine W.loop (σ := Nat × Nat × Nat) (fun s w1 => match s with | (j, r, K) => w.grownBy w1 none ∧ j + r = K ∧ (q = 1 ∧ K = 0 ∨ q ≠ 1 ∧ K = k ∧ (q = 0 → k = 0))) (fun s => match s with | (j, r, K) => [(0, .int .i64 X), (1, .int .i64 ((r : Nat) : Int)), (2, .int .i64 Z), (8, .int .i64 (((prS m (q ^ j)).1 : Nat) : Int)), (9, .int .i64 (((prS m (q ^ j)).2 : Nat) : Int))]) (fun s => match s with | (j, r, K) => r) (0, k, k) ?_ ?_ ?_
            · exact ⟨hB, by omega, by omega⟩
            · exact ⟨iv (by omega), iv (by omega), iv (by omega), iv (by omega), iv (by omega), trivial⟩
            · rintro ⟨j, r, K⟩ w34 ⟨hB, hjr, hK⟩
              have hle := prS_le m (q ^ j)
              have hok := @prS_2 m (q ^ j)
              refine W.seq ?_
              refine W.seq ?_
              refine W.region ?_
              refine WL.move rfl rfl ?_
              refine WL.gtr rfl rfl rfl (fun c35 => ?_) (fun c35 => ?_)
              · refine WL.move rfl rfl ?_
                refine WL.take rfl ?_
                refine WL.move rfl rfl ?_
                refine WL.take rfl ?_
                refine WL.eql rfl rfl rfl (fun c36 => ?_) (fun c36 => ?_)
                · refine WL.pick rfl rfl rfl ?_
                  refine WL.done ?_
                  refine W.condT rfl ?_
                  refine W.skip ?_
                  refine W.seq ?_
                  refine W.block ?_
                  have hpr := prS_ok (hok.1 (by omega)); have hp1 : (prS m (q ^ j)).1 = q ^ j := (by rw [hpr]); have hok1 := hok.1 (by omega)
                  · refine W.region ?_
                    refine WL.move rfl rfl ?_
                    refine WL.move rfl rfl ?_
                    refine WL.move rfl rfl ?_
                    refine WL.call Try.func66 rfl Try.nm66 rfl rfl (times_c (q ^ j) (by omega) q (by omega) m (by omega) (by omega) (by omega) (by omega) (by omega)) ?_
                    rintro _ w37 ⟨rfl, hGw37⟩
                    have hB := ext_trans hB hGw37
                    rw [← Nat.pow_succ, Nat.succ_eq_add_one]
                    refine WL.move rfl rfl ?_
                    refine WL.extract rfl rfl rfl ?_
                    refine WL.extract rfl rfl rfl ?_
                    refine WL.assign rfl rfl ?_
                    refine WL.assign rfl rfl ?_
                    refine WL.done ?_
                    refine W.region ?_
                    refine WL.move rfl rfl ?_
                    refine WL.sub (r := ((r - 1 : Nat) : Int)) rfl rfl (wi64 (by omega) (by omega) (by omega)) rfl ?_
                    refine WL.assign rfl rfl ?_
                    refine WL.done ?_
                    refine ⟨(j + 1, r - 1, K), ⟨iv (by omega), iv (by omega), iv (by omega), iv (by omega), iv (by omega), trivial⟩, by (dsimp only; omega), ?_⟩
                    exact ⟨hB, by omega, hK⟩
                · refine WL.pick rfl rfl rfl ?_
                  refine WL.done ?_
                  refine W.condF rfl ?_
                  refine W.exit ?_
                  refine W.seq ?_
                  refine W.region ?_
                  refine WL.move rfl rfl ?_
                  refine WL.move rfl rfl ?_
                  refine WL.assign rfl rfl ?_
                  refine WL.assign rfl rfl ?_
                  refine WL.done ?_
                  refine W.ret ?_
                  refine ⟨_, rfl, ?_⟩
                  first
                  | (rw [expS_zero (by omega) (by omega)]; exact ⟨rfl, hB⟩)
                  | (rw [hX, hY, hZ, expS_pos (by omega), exp_end hjr hK (by omega)]; exact ⟨rfl, hB⟩)
              · refine WL.move rfl rfl ?_
                refine WL.pass rfl rfl rfl ?_
                refine WL.pass rfl rfl rfl ?_
                refine WL.pick rfl rfl rfl ?_
                refine WL.done ?_
                refine W.condF rfl ?_
                refine W.exit ?_
                refine W.seq ?_
                refine W.region ?_
                refine WL.move rfl rfl ?_
                refine WL.move rfl rfl ?_
                refine WL.assign rfl rfl ?_
                refine WL.assign rfl rfl ?_
                refine WL.done ?_
                refine W.ret ?_
                refine ⟨_, rfl, ?_⟩
                first
                | (rw [expS_zero (by omega) (by omega)]; exact ⟨rfl, hB⟩)
                | (rw [hX, hY, hZ, expS_pos (by omega), exp_end hjr hK (by omega)]; exact ⟨rfl, hB⟩)

theorem Exp_c {w : World} {X : Int} (hX : -9223372036854775808 ≤ X ∧ X ≤ 9223372036854775807) {Y : Int} (hY : -9223372036854775808 ≤ Y ∧ Y ≤ 9223372036854775807) {Z : Int} (hZ : -9223372036854775808 ≤ Z ∧ Z ≤ 9223372036854775807) : Calls Try.prog 44 #[.int .i64 X, .int .i64 Y, .int .i64 Z] w fun e w2 => ∃ v, e = .returned v ∧ (fun v w2 => v = .tuple #[.int .i64 (((expS X Y Z).1 : Nat) : Int), .int .i64 (((expS X Y Z).2 : Nat) : Int)] ∧ w.grownBy w2 none) v w2 := by
  by_cases h : X < 0 ∨ Y < 0 ∨ Z < 0
  · exact Exp_neg hX hY hZ h
  · exact Exp_nn X.toNat (by omega) Y.toNat (by omega) Z.toNat (by omega) (by omega) (by omega) (by omega)

theorem Choose_neg {w : World} {X : Int} (hX : -9223372036854775808 ≤ X ∧ X ≤ 9223372036854775807) {Y : Int} (hY : -9223372036854775808 ≤ Y ∧ Y ≤ 9223372036854775807) {Z : Int} (hZ : -9223372036854775808 ≤ Z ∧ Z ≤ 9223372036854775807) (hng : X < 0 ∨ Y < 0 ∨ Z < 0) :
    Calls Try.prog 46 #[.int .i64 X, .int .i64 Y, .int .i64 Z] w fun e w2 => ∃ v, e = .returned v ∧ (fun v w2 => v = .tuple #[.int .i64 (((chooseS X Y Z).1 : Nat) : Int), .int .i64 (((chooseS X Y Z).2 : Nat) : Int)] ∧ w.grownBy w2 none) v w2 := by
  have hB := ext_refl w
  refine calls_of_W (vs := [.int .i64 X, .int .i64 Y, .int .i64 Z]) [6, 7] Try.func46 rfl rfl rfl rfl ?_
  refine W.seq ?_
  refine W.region ?_
  refine WL.assign rfl rfl ?_
  refine WL.assign rfl rfl ?_
  refine WL.done ?_
  refine W.seq ?_
  refine W.seq ?_
  refine W.region ?_
  refine WL.move rfl rfl ?_
  refine WL.lss rfl rfl rfl (fun c11 => ?_) (fun c11 => ?_)
  · refine WL.move rfl rfl ?_
    refine WL.pass rfl rfl rfl ?_
    refine WL.pass rfl rfl rfl ?_
    refine WL.pick rfl rfl rfl ?_
    refine WL.move rfl rfl ?_
    refine WL.pass rfl rfl rfl ?_
    refine WL.pass rfl rfl rfl ?_
    refine WL.pick rfl rfl rfl ?_
    refine WL.done ?_
    refine W.condT rfl ?_
    refine W.seq ?_
    refine W.region ?_
    refine WL.assign rfl rfl ?_
    refine WL.assign rfl rfl ?_
    refine WL.done ?_
    refine W.ret ?_
    refine ⟨_, rfl, ?_⟩
    rw [chooseS_neg hng]
    exact ⟨rfl, hB⟩
  · refine WL.move rfl rfl ?_
    refine WL.take rfl ?_
    refine WL.move rfl rfl ?_
    refine WL.take rfl ?_
    refine WL.lss rfl rfl rfl (fun c12 => ?_) (fun c12 => ?_)
    · refine WL.pick rfl rfl rfl ?_
      refine WL.move rfl rfl ?_
      refine WL.pass rfl rfl rfl ?_
      refine WL.pass rfl rfl rfl ?_
      refine WL.pick rfl rfl rfl ?_
      refine WL.done ?_
      refine W.condT rfl ?_
      refine W.seq ?_
      refine W.region ?_
      refine WL.assign rfl rfl ?_
      refine WL.assign rfl rfl ?_
      refine WL.done ?_
      refine W.ret ?_
      refine ⟨_, rfl, ?_⟩
      rw [chooseS_neg hng]
      exact ⟨rfl, hB⟩
    · refine WL.pick rfl rfl rfl ?_
      refine WL.move rfl rfl ?_
      refine WL.take rfl ?_
      refine WL.move rfl rfl ?_
      refine WL.take rfl ?_
      refine WL.lss rfl rfl rfl (fun c13 => ?_) (fun c13 => ?_)
      · refine WL.pick rfl rfl rfl ?_
        refine WL.done ?_
        refine W.condT rfl ?_
        refine W.seq ?_
        refine W.region ?_
        refine WL.assign rfl rfl ?_
        refine WL.assign rfl rfl ?_
        refine WL.done ?_
        refine W.ret ?_
        refine ⟨_, rfl, ?_⟩
        rw [chooseS_neg hng]
        exact ⟨rfl, hB⟩
      · exfalso
        omega

theorem Choose_nn {w : World} (q : Nat) {X : Int} (hX : X = q) (k : Nat) {Y : Int} (hY : Y = k) (m : Nat) {Z : Int} (hZ : Z = m) (hq : q < 9223372036854775808) (hk : k < 9223372036854775808) (hm : m < 9223372036854775808) :
    Calls Try.prog 46 #[.int .i64 X, .int .i64 Y, .int .i64 Z] w fun e w2 => ∃ v, e = .returned v ∧ (fun v w2 => v = .tuple #[.int .i64 (((chooseS X Y Z).1 : Nat) : Int), .int .i64 (((chooseS X Y Z).2 : Nat) : Int)] ∧ w.grownBy w2 none) v w2 := by
  have hB := ext_refl w
  refine calls_of_W (vs := [.int .i64 X, .int .i64 Y, .int .i64 Z]) [6, 7] Try.func46 rfl rfl rfl rfl ?_
  refine W.seq ?_
  refine W.region ?_
  refine WL.assign rfl rfl ?_
  refine WL.assign rfl rfl ?_
  refine WL.done ?_
  refine W.seq ?_
  refine W.seq ?_
  refine W.region ?_
  refine WL.move rfl rfl ?_
  refine WL.lss rfl rfl rfl (fun c11 => ?_) (fun c11 => ?_)
  · exfalso
    omega
  · refine WL.move rfl rfl ?_
    refine WL.take rfl ?_
    refine WL.move rfl rfl ?_
    refine WL.take rfl ?_
    refine WL.lss rfl rfl rfl (fun c12 => ?_) (fun c12 => ?_)
    · exfalso
      omega
    · refine WL.pick rfl rfl rfl ?_
      refine WL.move rfl rfl ?_
      refine WL.take rfl ?_
      refine WL.move rfl rfl ?_
      refine WL.take rfl ?_
      refine WL.lss rfl rfl rfl (fun c13 => ?_) (fun c13 => ?_)
      · exfalso
        omega
      · refine WL.pick rfl rfl rfl ?_
        refine WL.done ?_
        refine W.condF rfl ?_
        refine W.skip ?_
        refine W.seq ?_
        refine W.seq ?_
        refine W.region ?_
        refine WL.move rfl rfl ?_
        refine WL.move rfl rfl ?_
        refine WL.gtr rfl rfl rfl (fun c14 => ?_) (fun c14 => ?_)
        · refine WL.done ?_
          refine W.condT rfl ?_
          refine W.seq ?_
          refine W.region ?_
          refine WL.assign rfl rfl ?_
          refine WL.assign rfl rfl ?_
          refine WL.done ?_
          refine W.ret ?_
          refine ⟨_, rfl, ?_⟩
          first
          | (rw [chooseS_zero (by omega) (by omega)]; exact ⟨rfl, hB⟩)
          | (have hie : i = min k (q - k) := by omega
             rw [hX, hY, hZ, chooseS_pos (by omega), ← hce, hie]; exact ⟨rfl, hB⟩)
          | (rw [hX, hY, hZ, chooseS_pos (by omega), prS_big (show m < choose q k by omega), prS_big (show m < choose (q - min k (q - k) + i) i by omega)]; exact ⟨rfl, hB⟩)
        · refine WL.done ?_
          refine W.condF rfl ?_
          refine W.skip ?_
          refine W.seq ?_
          refine W.region ?_
          refine WL.move rfl rfl ?_
          refine WL.move rfl rfl ?_
          refine WL.move rfl rfl ?_
          refine WL.sub (r := ((q - k : Nat) : Int)) rfl rfl (wi64 (by omega) (by omega) (by omega)) rfl ?_
          refine WL.min2 (r := ((min k (q - k) : Nat) : Int)) rfl rfl (by omega) rfl ?_
          refine WL.assign rfl rfl ?_
          refine WL.done ?_
          refine W.seq ?_
          refine W.region ?_
          refine WL.move rfl rfl ?_
          refine WL.call Try.func66 rfl Try.nm66 rfl rfl (times_c 1 rfl 1 rfl m (by omega) (by omega) (by omega) (by omega) (by omega)) ?_
          rintro _ w15 ⟨rfl, hGw15⟩
          have hB := ext_trans hB hGw15
          rw [show 1 * 1 = choose (q - min k (q - k) + 0) 0 from (choose_zero _).symm]
          refine WL.move rfl rfl ?_
          refine WL.extract rfl rfl rfl ?_
          refine WL.extract rfl rfl rfl ?_
          refine WL.assign rfl rfl ?_
          refine WL.assign rfl rfl ?_
          refine WL.done ?_
          refine W.seq ?_
          refine W.seq ?_
          refine W.region ?_
          refine WL.assign rfl rfl ?_
          refine WL.done ?_
          refine W.block ?_
          refine W.loop (σ := Nat) (fun i w1 => w.grownBy w1 none ∧ i ≤ min k (q - k)) (fun i => [(0, .int .i64 X), (1, .int .i64 ((min k (q - k) : Nat) : Int)), (2, .int .i64 Z), (8, .int .i64 (((prS m (choose (q - min k (q - k) + i) i)).1 : Nat) : Int)), (9, .int .i64 (((prS m (choose (q - min k (q - k) + i) i)).2 : Nat) : Int)), (10, .int .i64 ((i + 1 : Nat) : Int))]) (fun i => min k (q - k) - i) 0 ?_ ?_ ?_
          · exact ⟨hB, by omega⟩
          · exact ⟨iv (by omega), iv (by omega), iv (by omega), iv (by omega), iv (by omega), iv (by omega), trivial⟩
          · rintro i w16 ⟨hB, hi⟩
            have hle := prS_le m (choose (q - min k (q - k) + i) i)
            have hok := @prS_2 m (choose (q - min k (q - k) + i) i)
            have hcm := choose_mono (q - min k (q - k)) hi
            have hce : choose (q - min k (q - k) + min k (q - k)) (min k (q - k)) = choose q k := by rw [show q - min k (q - k) + min k (q - k) = q by omega]; exact choose_min (by omega)
            refine W.seq ?_
            refine W.seq ?_
            refine W.region ?_
            refine WL.move rfl rfl ?_
            refine WL.move rfl rfl ?_
            refine WL.leq rfl rfl rfl (fun c17 => ?_) (fun c17 => ?_)
            · refine WL.move rfl rfl ?_
              refine WL.take rfl ?_
              refine WL.move rfl rfl ?_
              refine WL.take rfl ?_
              refine WL.eql rfl rfl rfl (fun c18 => ?_) (fun c18 => ?_)
              · refine WL.pick rfl rfl rfl ?_
                refine WL.done ?_
                refine W.condT rfl ?_
                refine W.skip ?_
                refine W.seq ?_
                refine W.block ?_
                refine W.seq ?_
                have hok1 := hok.1 (by omega); have hpr := prS_ok hok1; have hp1 : (prS m (choose (q - min k (q - k) + i) i)).1 = choose (q - min k (q - k) + i) i := (by rw [hpr]); have hcp : 0 < choose (q - min k (q - k) + i) i := choose_pos (by omega); obtain ⟨hdv, hip, hval⟩ := choose_red (c := choose (q - min k (q - k) + i) i) (i := i + 1) (s := q - min k (q - k) + i + 1) (by omega) hcp (choose_step (q - min k (q - k)) i); have hgp : 0 < Nat.gcd (choose (q - min k (q - k) + i) i) (i + 1) := Nat.gcd_pos_of_pos_right _ (by omega); have hd1 := Nat.div_le_self (choose (q - min k (q - k) + i) i) (Nat.gcd (choose (q - min k (q - k) + i) i) (i + 1)); have hd2 := Nat.div_le_self (i + 1) (Nat.gcd (choose (q - min k (q - k) + i) i) (i + 1)); have hd3 := Nat.div_le_self (q - min k (q - k) + i + 1) ((i + 1) / Nat.gcd (choose (q - min k (q - k) + i) i) (i + 1)); have hup : 0 < (q - min k (q - k) + i + 1) / ((i + 1) / Nat.gcd (choose (q - min k (q - k) + i) i) (i + 1)) := Nat.div_pos (Nat.le_of_dvd (by omega) hdv) hip
                · refine W.region ?_
                  refine WL.move rfl rfl ?_
                  refine WL.move rfl rfl ?_
                  refine WL.call Try.func55 rfl Try.nm55 rfl rfl (cofactor_c (choose (q - min k (q - k) + i) i) (by omega) (i + 1) (by omega) (by omega) (by omega)) ?_
                  rintro _ w19 ⟨hZ0, rfl, hGw19, hZd, hZl, hZh⟩
                  have hB := ext_trans hB hGw19
                  refine WL.move rfl rfl ?_
                  refine WL.extract rfl rfl rfl ?_
                  refine WL.extract rfl rfl rfl ?_
                  refine WL.assign rfl rfl ?_
                  refine WL.assign rfl rfl ?_
                  refine WL.done ?_
                  refine W.drawT 18 [⟨[], [8], true⟩, ⟨[], [11], true⟩, ⟨[0, 1], [], true⟩, ⟨[], [0], true⟩, ⟨[], [1], true⟩, ⟨[3, 4], [], true⟩, ⟨[], [10], true⟩, ⟨[5, 6], [], true⟩, ⟨[], [10], true⟩, ⟨[], [11], true⟩, ⟨[8, 9], [], true⟩, ⟨[7, 10], [], true⟩, ⟨[], [2], true⟩, ⟨[2, 11, 12], [], false⟩, ⟨[13], [], true⟩, ⟨[14], [], true⟩, ⟨[14], [], true⟩, ⟨[15], [], true⟩] [[(8, .int .i64 (((prS m (choose (q - min k (q - k) + i) i)).1 : Nat) : Int))], [(11, .int .i64 ((Nat.gcd (choose (q - min k (q - k) + i) i) (i + 1) : Nat) : Int))], [], [(0, .int .i64 X)], [(1, .int .i64 ((min k (q - k) : Nat) : Int))], [], [(10, .int .i64 ((i + 1 : Nat) : Int))], [], [(10, .int .i64 ((i + 1 : Nat) : Int))], [(11, .int .i64 ((Nat.gcd (choose (q - min k (q - k) + i) i) (i + 1) : Nat) : Int))], [], [], [(2, .int .i64 Z)], [], [], [], [], []] (fun iQ => [fun v wQ => v = .int .i64 (((prS m (choose (q - min k (q - k) + i) i)).1 : Nat) : Int), fun v wQ => v = .int .i64 ((Nat.gcd (choose (q - min k (q - k) + i) i) (i + 1) : Nat) : Int), fun v wQ => v = .int .i64 (((choose (q - min k (q - k) + i) i) / Nat.gcd (choose (q - min k (q - k) + i) i) (i + 1) : Nat) : Int), fun v wQ => v = .int .i64 X, fun v wQ => v = .int .i64 ((min k (q - k) : Nat) : Int), fun v wQ => v = .int .i64 ((q - min k (q - k) : Nat) : Int), fun v wQ => v = .int .i64 ((i + 1 : Nat) : Int), fun v wQ => v = .int .i64 ((q - min k (q - k) + i + 1 : Nat) : Int), fun v wQ => v = .int .i64 ((i + 1 : Nat) : Int), fun v wQ => v = .int .i64 ((Nat.gcd (choose (q - min k (q - k) + i) i) (i + 1) : Nat) : Int), fun v wQ => v = .int .i64 (((i + 1) / Nat.gcd (choose (q - min k (q - k) + i) i) (i + 1) : Nat) : Int), fun v wQ => v = .int .i64 (((q - min k (q - k) + i + 1) / ((i + 1) / Nat.gcd (choose (q - min k (q - k) + i) i) (i + 1)) : Nat) : Int), fun v wQ => v = .int .i64 Z, fun v wQ => v = .tuple #[.int .i64 (((prS m (choose (q - min k (q - k) + (i + 1)) (i + 1))).1 : Nat) : Int), .int .i64 (((prS m (choose (q - min k (q - k) + (i + 1)) (i + 1))).2 : Nat) : Int)], fun v wQ => v = .tuple #[.int .i64 (((prS m (choose (q - min k (q - k) + (i + 1)) (i + 1))).1 : Nat) : Int), .int .i64 (((prS m (choose (q - min k (q - k) + (i + 1)) (i + 1))).2 : Nat) : Int)], fun v wQ => v = .int .i64 (((prS m (choose (q - min k (q - k) + (i + 1)) (i + 1))).1 : Nat) : Int), fun v wQ => v = .int .i64 (((prS m (choose (q - min k (q - k) + (i + 1)) (i + 1))).2 : Nat) : Int), fun v wQ => v = .int .i64 (((prS m (choose (q - min k (q - k) + (i + 1)) (i + 1))).1 : Nat) : Int)].getD iQ (fun _ _ => True)) Try.mixed (by kernel_rfl) ?_ ?_ ?_
                  · refine Vs_monoT _ ?_
                    intro VQ hVQ vQ wQ1 wQ2 hQ1 hQ2
                    simp only [List.mem_cons, List.not_mem_nil, or_false] at hVQ
                    rcases hVQ with rfl | rfl | rfl | rfl | rfl | rfl | rfl | rfl | rfl | rfl | rfl | rfl | rfl | rfl | rfl | rfl | rfl | rfl
                    · exact hQ1
                    · exact hQ1
                    · exact hQ1
                    · exact hQ1
                    · exact hQ1
                    · exact hQ1
                    · exact hQ1
                    · exact hQ1
                    · exact hQ1
                    · exact hQ1
                    · exact hQ1
                    · exact hQ1
                    · exact hQ1
                    · exact hQ1
                    · exact hQ1
                    · exact hQ1
                    · exact hQ1
                    · exact hQ1
                  · refine ⟨⟨rfl, ⟨rfl, trivial⟩, ?_⟩, ⟨rfl, ⟨rfl, trivial⟩, ?_⟩, ⟨rfl, trivial, ?_⟩, ⟨rfl, ⟨rfl, trivial⟩, ?_⟩, ⟨rfl, ⟨rfl, trivial⟩, ?_⟩, ⟨rfl, trivial, ?_⟩, ⟨rfl, ⟨rfl, trivial⟩, ?_⟩, ⟨rfl, trivial, ?_⟩, ⟨rfl, ⟨rfl, trivial⟩, ?_⟩, ⟨rfl, ⟨rfl, trivial⟩, ?_⟩, ⟨rfl, trivial, ?_⟩, ⟨rfl, trivial, ?_⟩, ⟨rfl, ⟨rfl, trivial⟩, ?_⟩, ⟨rfl, trivial, ?_⟩, ⟨rfl, trivial, ?_⟩, ⟨rfl, trivial, ?_⟩, ⟨rfl, trivial, ?_⟩, ⟨rfl, trivial, ?_⟩, trivial⟩
                    · intro w20 hE
                      intro R
                      refine WL.move rfl rfl ?_
                      exact WL.done ⟨_, rfl, rfl, rfl⟩
                    · intro w21 hE
                      intro R
                      refine WL.move rfl rfl ?_
                      exact WL.done ⟨_, rfl, rfl, rfl⟩
                    · intro w22 hE
                      rintro _ rfl
                      rintro _ rfl
                      intro R
                      refine WL.quo (r := (((choose (q - min k (q - k) + i) i) / Nat.gcd (choose (q - min k (q - k) + i) i) (i + 1) : Nat) : Int)) rfl rfl (by omega) (qi64 (a := choose (q - min k (q - k) + i) i) (by omega) (by omega) (by omega)) rfl ?_
                      exact WL.done ⟨_, rfl, rfl, rfl⟩
                    · intro w23 hE
                      intro R
                      refine WL.move rfl rfl ?_
                      exact WL.done ⟨_, rfl, rfl, rfl⟩
                    · intro w24 hE
                      intro R
                      refine WL.move rfl rfl ?_
                      exact WL.done ⟨_, rfl, rfl, rfl⟩
                    · intro w25 hE
                      rintro _ rfl
                      rintro _ rfl
                      intro R
                      refine WL.sub (r := ((q - min k (q - k) : Nat) : Int)) rfl rfl (wi64 (by omega) (by omega) (by omega)) rfl ?_
                      exact WL.done ⟨_, rfl, rfl, rfl⟩
                    · intro w26 hE
                      intro R
                      refine WL.move rfl rfl ?_
                      exact WL.done ⟨_, rfl, rfl, rfl⟩
                    · intro w27 hE
                      rintro _ rfl
                      rintro _ rfl
                      intro R
                      refine WL.add (r := ((q - min k (q - k) + i + 1 : Nat) : Int)) rfl rfl (wi64 (by omega) (by omega) (by omega)) rfl ?_
                      exact WL.done ⟨_, rfl, rfl, rfl⟩
                    · intro w28 hE
                      intro R
                      refine WL.move rfl rfl ?_
                      exact WL.done ⟨_, rfl, rfl, rfl⟩
                    · intro w29 hE
                      intro R
                      refine WL.move rfl rfl ?_
                      exact WL.done ⟨_, rfl, rfl, rfl⟩
                    · intro w30 hE
                      rintro _ rfl
                      rintro _ rfl
                      intro R
                      refine WL.quo (r := (((i + 1) / Nat.gcd (choose (q - min k (q - k) + i) i) (i + 1) : Nat) : Int)) rfl rfl (by omega) (qi64 (by omega) (by omega) (by omega)) rfl ?_
                      exact WL.done ⟨_, rfl, rfl, rfl⟩
                    · intro w31 hE
                      rintro _ rfl
                      rintro _ rfl
                      intro R
                      refine WL.quo (r := (((q - min k (q - k) + i + 1) / ((i + 1) / Nat.gcd (choose (q - min k (q - k) + i) i) (i + 1)) : Nat) : Int)) rfl rfl (by omega) (qi64 (by omega) (by omega) (by omega)) rfl ?_
                      exact WL.done ⟨_, rfl, rfl, rfl⟩
                    · intro w32 hE
                      intro R
                      refine WL.move rfl rfl ?_
                      exact WL.done ⟨_, rfl, rfl, rfl⟩
                    · intro w33 hE
                      have hE := hE rfl
                      have hB := ext_trans hB hE
                      rintro _ rfl
                      rintro _ rfl
                      rintro _ rfl
                      intro R
                      refine WL.call Try.func66 rfl Try.nm66 rfl rfl (times_c ((choose (q - min k (q - k) + i) i) / Nat.gcd (choose (q - min k (q - k) + i) i) (i + 1)) (by omega) ((q - min k (q - k) + i + 1) / ((i + 1) / Nat.gcd (choose (q - min k (q - k) + i) i) (i + 1))) (by omega) m (by omega) (by omega) (by omega) (by omega) (by omega)) ?_
                      rintro _ w34 ⟨rfl, hGw34⟩
                      have hB := ext_trans hB hGw34
                      rw [hval, show q - min k (q - k) + i + 1 = q - min k (q - k) + (i + 1) from rfl]
                      exact WL.done ⟨_, rfl, hGw34, rfl⟩
                    · intro w35 hE
                      rintro _ rfl
                      intro R
                      refine WL.move rfl rfl ?_
                      exact WL.done ⟨_, rfl, rfl, rfl⟩
                    · intro w36 hE
                      rintro _ rfl
                      intro R
                      refine WL.extract rfl rfl rfl ?_
                      exact WL.done ⟨_, rfl, rfl, rfl⟩
                    · intro w37 hE
                      rintro _ rfl
                      intro R
                      refine WL.extract rfl rfl rfl ?_
                      exact WL.done ⟨_, rfl, rfl, rfl⟩
                    · intro w38 hE
                      rintro _ rfl
                      intro R
                      refine WL.assign rfl rfl ?_
                      exact WL.done ⟨_, rfl, rfl, rfl⟩
                  · intro vals w39 hT hVs
                    have hB := ext_trans hB hT
                    have hv0 : vals 0 = _ := hVs 0 (by decide)
                    have hv1 : vals 1 = _ := hVs 1 (by decide)
                    have hv2 : vals 2 = _ := hVs 2 (by decide)
                    have hv3 : vals 3 = _ := hVs 3 (by decide)
                    have hv4 : vals 4 = _ := hVs 4 (by decide)
                    have hv5 : vals 5 = _ := hVs 5 (by decide)
                    have hv6 : vals 6 = _ := hVs 6 (by decide)
                    have hv7 : vals 7 = _ := hVs 7 (by decide)
                    have hv8 : vals 8 = _ := hVs 8 (by decide)
                    have hv9 : vals 9 = _ := hVs 9 (by decide)
                    have hv10 : vals 10 = _ := hVs 10 (by decide)
                    have hv11 : vals 11 = _ := hVs 11 (by decide)
                    have hv12 : vals 12 = _ := hVs 12 (by decide)
                    have hv13 : vals 13 = _ := hVs 13 (by decide)
                    have hv14 : vals 14 = _ := hVs 14 (by decide)
                    have hv15 : vals 15 = _ := hVs 15 (by decide)
                    have hv16 : vals 16 = _ := hVs 16 (by decide)
                    have hv17 : vals 17 = _ := hVs 17 (by decide)
                    rw [show (List.filterMap (fun i => Option.map (fun t => (t, vals i)) (dstAt _ i)) (List.range _)) = [(52, .int .i64 (((prS m (choose (q - min k (q - k) + i) i)).1 : Nat) : Int)), (53, .int .i64 ((Nat.gcd (choose (q - min k (q - k) + i) i) (i + 1) : Nat) : Int)), (54, .int .i64 (((choose (q - min k (q - k) + i) i) / Nat.gcd (choose (q - min k (q - k) + i) i) (i + 1) : Nat) : Int)), (55, .int .i64 X), (56, .int .i64 ((min k (q - k) : Nat) : Int)), (57, .int .i64 ((q - min k (q - k) : Nat) : Int)), (58, .int .i64 ((i + 1 : Nat) : Int)), (59, .int .i64 ((q - min k (q - k) + i + 1 : Nat) : Int)), (60, .int .i64 ((i + 1 : Nat) : Int)), (61, .int .i64 ((Nat.gcd (choose (q - min k (q - k) + i) i) (i + 1) : Nat) : Int)), (62, .int .i64 (((i + 1) / Nat.gcd (choose (q - min k (q - k) + i) i) (i + 1) : Nat) : Int)), (63, .int .i64 (((q - min k (q - k) + i + 1) / ((i + 1) / Nat.gcd (choose (q - min k (q - k) + i) i) (i + 1)) : Nat) : Int)), (64, .int .i64 Z), (65, .tuple #[.int .i64 (((prS m (choose (q - min k (q - k) + (i + 1)) (i + 1))).1 : Nat) : Int), .int .i64 (((prS m (choose (q - min k (q - k) + (i + 1)) (i + 1))).2 : Nat) : Int)]), (51, .tuple #[.int .i64 (((prS m (choose (q - min k (q - k) + (i + 1)) (i + 1))).1 : Nat) : Int), .int .i64 (((prS m (choose (q - min k (q - k) + (i + 1)) (i + 1))).2 : Nat) : Int)]), (66, .int .i64 (((prS m (choose (q - min k (q - k) + (i + 1)) (i + 1))).1 : Nat) : Int)), (67, .int .i64 (((prS m (choose (q - min k (q - k) + (i + 1)) (i + 1))).2 : Nat) : Int)), (8, .int .i64 (((prS m (choose (q - min k (q - k) + (i + 1)) (i + 1))).1 : Nat) : Int))] from by
                      show [(52, vals 0), (53, vals 1), (54, vals 2), (55, vals 3), (56, vals 4), (57, vals 5), (58, vals 6), (59, vals 7), (60, vals 8), (61, vals 9), (62, vals 10), (63, vals 11), (64, vals 12), (65, vals 13), (51, vals 14), (66, vals 15), (67, vals 16), (8, vals 17)] = _
                      rw [hv0, hv1, hv2, hv3, hv4, hv5, hv6, hv7, hv8, hv9, hv10, hv11, hv12, hv13, hv14, hv15, hv16, hv17]]
                    refine WA.step [18] (by decide +kernel) rfl ?_
                    intro iQ hQ
                    simp only [List.mem_cons, List.not_mem_nil, or_false] at hQ
                    obtain rfl := hQ
                    · refine ⟨_, rfl, ?_⟩
                      refine WL.assign rfl rfl ?_
                      refine WL.done ?_
                      refine WA.done (by decide +kernel) ?_
                      refine W.region ?_
                      refine WL.move rfl rfl ?_
                      refine WL.add (r := (((i + 1) + 1 : Nat) : Int)) rfl rfl (wi64 (by omega) (by omega) (by omega)) rfl ?_
                      refine WL.assign rfl rfl ?_
                      refine WL.done ?_
                      refine ⟨(i + 1), ⟨iv (by omega), iv (by omega), iv (by omega), iv (by omega), iv (by omega), iv (by omega), trivial⟩, by omega, ?_⟩
                      exact ⟨hB, by omega⟩
              · refine WL.pick rfl rfl rfl ?_
                refine WL.done ?_
                refine W.condF rfl ?_
                refine W.exit ?_
                refine W.seq ?_
                refine W.region ?_
                refine WL.move rfl rfl ?_
                refine WL.move rfl rfl ?_
                refine WL.assign rfl rfl ?_
                refine WL.assign rfl rfl ?_
                refine WL.done ?_
                refine W.ret ?_
                refine ⟨_, rfl, ?_⟩
                first
                | (rw [chooseS_zero (by omega) (by omega)]; exact ⟨rfl, hB⟩)
                | (have hie : i = min k (q - k) := by omega
                   rw [hX, hY, hZ, chooseS_pos (by omega), ← hce, hie]; exact ⟨rfl, hB⟩)
                | (rw [hX, hY, hZ, chooseS_pos (by omega), prS_big (show m < choose q k by omega), prS_big (show m < choose (q - min k (q - k) + i) i by omega)]; exact ⟨rfl, hB⟩)
            · refine WL.move rfl rfl ?_
              refine WL.pass rfl rfl rfl ?_
              refine WL.pass rfl rfl rfl ?_
              refine WL.pick rfl rfl rfl ?_
              refine WL.done ?_
              refine W.condF rfl ?_
              refine W.exit ?_
              refine W.seq ?_
              refine W.region ?_
              refine WL.move rfl rfl ?_
              refine WL.move rfl rfl ?_
              refine WL.assign rfl rfl ?_
              refine WL.assign rfl rfl ?_
              refine WL.done ?_
              refine W.ret ?_
              refine ⟨_, rfl, ?_⟩
              first
              | (rw [chooseS_zero (by omega) (by omega)]; exact ⟨rfl, hB⟩)
              | (have hie : i = min k (q - k) := by omega
                 rw [hX, hY, hZ, chooseS_pos (by omega), ← hce, hie]; exact ⟨rfl, hB⟩)
              | (rw [hX, hY, hZ, chooseS_pos (by omega), prS_big (show m < choose q k by omega), prS_big (show m < choose (q - min k (q - k) + i) i by omega)]; exact ⟨rfl, hB⟩)

theorem Choose_c {w : World} {X : Int} (hX : -9223372036854775808 ≤ X ∧ X ≤ 9223372036854775807) {Y : Int} (hY : -9223372036854775808 ≤ Y ∧ Y ≤ 9223372036854775807) {Z : Int} (hZ : -9223372036854775808 ≤ Z ∧ Z ≤ 9223372036854775807) : Calls Try.prog 46 #[.int .i64 X, .int .i64 Y, .int .i64 Z] w fun e w2 => ∃ v, e = .returned v ∧ (fun v w2 => v = .tuple #[.int .i64 (((chooseS X Y Z).1 : Nat) : Int), .int .i64 (((chooseS X Y Z).2 : Nat) : Int)] ∧ w.grownBy w2 none) v w2 := by
  by_cases h : X < 0 ∨ Y < 0 ∨ Z < 0
  · exact Choose_neg hX hY hZ h
  · exact Choose_nn X.toNat (by omega) Y.toNat (by omega) Z.toNat (by omega) (by omega) (by omega) (by omega)
end Go.Proofs.Ytdmgbahognfhbaa
set_option linter.unusedSimpArgs false
set_option linter.unusedVariables false
namespace Go.Proofs.Ytdmgbahognfhbaa
open Go.RowKit
theorem Chinese_c {w : World} {Br : Nat} {Ar : Option Addr} {mr cr : Nat} {xr : List Int} (hr : Rd Br w 1 Ar mr cr (is xr)) {Bm : Nat} {Am : Option Addr} {mm cm : Nat} {xm : List Int} (hm : Rd Bm w 1 Am mm cm (is xm)) (hIr : ILim xr) (hIm : ILim xm) (X Q er : Nat) (hR : ChiR xr xm X Q er) :
    Calls Try.prog 40 #[.slice Ar mr cr, .slice Am mm cm] w fun e w2 => ∃ v, e = .returned v ∧ (fun v w2 => v = .tuple #[.int .i64 ((X : Nat) : Int), .int .i64 ((Q : Nat) : Int), .int .i64 ((er : Nat) : Int)] ∧ w.grownBy w2 none) v w2 := by
  have hr := hr.norm
  have hr_l := hr.ilen
  have hr_x := hr.max
  simp only [maxLen] at hr_x
  have hr_c := hr.cap
  have hr0 := hr
  have hm := hm.norm
  have hm_l := hm.ilen
  have hm_x := hm.max
  simp only [maxLen] at hm_x
  have hm_c := hm.cap
  have hm0 := hm
  have hB := ext_refl w
  refine calls_of_W (vs := [.slice Ar mr cr, .slice Am mm cm]) [4, 5, 6] Try.func40 rfl rfl rfl rfl ?_
  refine W.seq ?_
  refine W.region ?_
  refine WL.assign rfl rfl ?_
  refine WL.assign rfl rfl ?_
  refine WL.assign rfl rfl ?_
  refine WL.done ?_
  refine W.seq ?_
  refine W.seq ?_
  refine W.region ?_
  refine WL.move rfl rfl ?_
  refine WL.len Try.underlying29 rfl rfl ?_
  refine WL.move rfl rfl ?_
  refine WL.len Try.underlying29 rfl rfl ?_
  refine WL.neq rfl rfl rfl (fun c11 => ?_) (fun c11 => ?_)
  · refine WL.done ?_
    refine W.condT rfl ?_
    refine W.seq ?_
    refine W.region ?_
    refine WL.assign rfl rfl ?_
    refine WL.assign rfl rfl ?_
    refine WL.assign rfl rfl ?_
    refine WL.done ?_
    refine W.ret ?_
    refine ⟨_, rfl, ?_⟩
    first
    | (obtain ⟨k1, k2, k3⟩ := chi_shape hR (by omega); subst k1 k2 k3; exact ⟨rfl, hB⟩)
    | (obtain ⟨k1, k2, k3⟩ := chi_range hR (by omega) (imem (l := xm) (j := i) (by omega)) z; subst k1 k2 k3; exact ⟨rfl, hB⟩)
    | (have hbg : 2147483647 < prodI xm := (by rcases Nat.lt_or_ge 2147483647 (prodI xm) with h9 | h9; exact h9; rw [hpm, prS_ok h9] at c_p; exact absurd rfl c_p)
       obtain ⟨k1, k2, k3⟩ := chi_big hR (by omega) hall hbg; subst k1 k2 k3; rw [hpm, prS_big hbg]; exact ⟨rfl, hB⟩)
    | (obtain ⟨q1, q2, q3⟩ := invR_err hIV hmr (fun h => by subst h; exact c_e rfl)
       have k0 := hC.failI (by omega) (by rw [show xm.getD i 0 = (((xm.getD i 0).toNat : Nat) : Int) by omega, Int.natAbs_natCast]; simpa using q3)
       rcases hRR with ⟨_, k1, k2, k3⟩ | ⟨k1, _⟩
       · subst k1 k2 k3 q2; exact ⟨rfl, hB⟩
       · rw [k0] at k1; cases k1)
    | (have k0 := hC.doneI (by omega)
       rcases hRR with ⟨k1, _⟩ | ⟨k1, k3⟩
       · rw [k0] at k1; cases k1
       · rw [k0] at k1; cases k1; subst k3; exact ⟨rfl, hB⟩)
  · refine WL.done ?_
    refine W.condF rfl ?_
    refine W.skip ?_
    refine W.seq ?_
    refine W.seq ?_
    refine W.region ?_
    refine WL.move rfl rfl ?_
    refine WL.len Try.underlying29 rfl rfl ?_
    refine WL.move rfl rfl ?_
    refine WL.done ?_
    refine W.block ?_
    refine W.loop (σ := Nat) (fun i w1 => w.grownBy w1 none ∧ i ≤ mm ∧ (∀ j, j < i → 1 ≤ xm.getD j 0 ∧ xm.getD j 0 ≤ 2147483647)) (fun i => [(0, .slice Ar mr cr), (1, .slice Am mm cm), (23, .slice Am mm cm), (24, .int .i64 ((mm : Nat) : Int)), (25, .int .i64 ((i : Nat) : Int))]) (fun i => mm - i) 0 ?_ ?_ ?_
    · exact ⟨hB, by omega, fun j h => by omega⟩
    · exact ⟨rfl, rfl, rfl, iv (by omega), iv (by omega), trivial⟩
    · rintro i w12 ⟨hB, hi, hal⟩
      have hr := hr0.ext hB
      have hm := hm0.ext hB
      refine W.seq ?_
      refine W.region ?_
      refine WL.lss rfl rfl rfl (fun c13 => ?_) (fun c13 => ?_)
      · refine WL.done ?_
        refine W.seq ?_
        refine W.condT rfl ?_
        refine W.skip ?_
        refine W.seq ?_
        refine W.block ?_
        refine W.seq ?_
        have hIi := hIm.getD i
        · refine W.region ?_
          refine WL.index1 (i) Try.underlying29 Try.el3 rfl rfl (by omega) (by omega) hm rfl ?_
          refine WL.load Try.underlying3 rfl rfl (Rd.at_ hm (is_at (by omega))) rfl ?_
          refine WL.assign rfl rfl ?_
          refine WL.done ?_
          refine W.seq ?_
          refine W.region ?_
          refine WL.move rfl rfl ?_
          refine WL.call Try.func48 rfl Try.nm48 rfl rfl (isPos_c (by omega)) ?_
          rintro _ w14 ⟨bz, rfl, hGw14, z_t, z_f⟩
          have hB := ext_trans hB hGw14
          rcases bz with _ | _
          · have z := z_f rfl
            refine WL.not rfl rfl ?_
            refine WL.done ?_
            refine W.condT rfl ?_
            refine W.seq ?_
            refine W.region ?_
            refine WL.assign rfl rfl ?_
            refine WL.assign rfl rfl ?_
            refine WL.assign rfl rfl ?_
            refine WL.done ?_
            refine W.ret ?_
            refine ⟨_, rfl, ?_⟩
            first
            | (obtain ⟨k1, k2, k3⟩ := chi_shape hR (by omega); subst k1 k2 k3; exact ⟨rfl, hB⟩)
            | (obtain ⟨k1, k2, k3⟩ := chi_range hR (by omega) (imem (l := xm) (j := i) (by omega)) z; subst k1 k2 k3; exact ⟨rfl, hB⟩)
            | (have hbg : 2147483647 < prodI xm := (by rcases Nat.lt_or_ge 2147483647 (prodI xm) with h9 | h9; exact h9; rw [hpm, prS_ok h9] at c_p; exact absurd rfl c_p)
               obtain ⟨k1, k2, k3⟩ := chi_big hR (by omega) hall hbg; subst k1 k2 k3; rw [hpm, prS_big hbg]; exact ⟨rfl, hB⟩)
            | (obtain ⟨q1, q2, q3⟩ := invR_err hIV hmr (fun h => by subst h; exact c_e rfl)
               have k0 := hC.failI (by omega) (by rw [show xm.getD i 0 = (((xm.getD i 0).toNat : Nat) : Int) by omega, Int.natAbs_natCast]; simpa using q3)
               rcases hRR with ⟨_, k1, k2, k3⟩ | ⟨k1, _⟩
               · subst k1 k2 k3 q2; exact ⟨rfl, hB⟩
               · rw [k0] at k1; cases k1)
            | (have k0 := hC.doneI (by omega)
               rcases hRR with ⟨k1, _⟩ | ⟨k1, k3⟩
               · rw [k0] at k1; cases k1
               · rw [k0] at k1; cases k1; subst k3; exact ⟨rfl, hB⟩)
          · have z := z_t rfl
            refine WL.not rfl rfl ?_
            refine WL.done ?_
            refine W.condF rfl ?_
            refine W.skip ?_
            refine W.region ?_
            refine WL.add (r := ((i + 1 : Nat) : Int)) rfl rfl (wi64 (by omega) (by omega) (by omega)) rfl ?_
            refine WL.move rfl rfl ?_
            refine WL.done ?_
            refine ⟨i + 1, ⟨rfl, rfl, rfl, iv (by omega), iv (by omega), trivial⟩, by omega, ?_⟩
            exact ⟨hB, by omega, fun j h => by
              rcases Nat.lt_succ_iff_lt_or_eq.1 h with h1 | h1
              · exact hal j h1
              · rw [h1]; exact z⟩
      · refine WL.done ?_
        refine W.seq ?_
        refine W.condF rfl ?_
        refine W.exit ?_
        refine W.seq ?_
        refine W.seq ?_
        refine W.region ?_
        refine WL.move rfl rfl ?_
        have hall := of_iget (P := fun m => 1 ≤ m ∧ m ≤ 2147483647) (l := xm) (fun j hj => hal j (by omega))
        have hpm := prodS_max hall
        refine WL.call Try.func42 rfl Try.nm42 rfl rfl (Product_c hm (by omega) hIm) ?_
        rintro _ w15 ⟨rfl, hGw15⟩
        have hB := ext_trans hB hGw15
        have hr := hr0.ext hB
        have hm := hm0.ext hB
        skip
        refine WL.move rfl rfl ?_
        refine WL.extract rfl rfl rfl ?_
        refine WL.extract rfl rfl rfl ?_
        refine WL.assign rfl rfl ?_
        refine WL.assign rfl rfl ?_
        refine WL.done ?_
        refine W.seq ?_
        refine W.region ?_
        refine WL.move rfl rfl ?_
        refine WL.neq rfl rfl rfl (fun c_p => ?_) (fun c_p => ?_)
        · refine WL.done ?_
          refine W.condT rfl ?_
          refine W.seq ?_
          refine W.region ?_
          refine WL.move rfl rfl ?_
          refine WL.assign rfl rfl ?_
          refine WL.assign rfl rfl ?_
          refine WL.assign rfl rfl ?_
          refine WL.done ?_
          refine W.ret ?_
          refine ⟨_, rfl, ?_⟩
          first
          | (obtain ⟨k1, k2, k3⟩ := chi_shape hR (by omega); subst k1 k2 k3; exact ⟨rfl, hB⟩)
          | (obtain ⟨k1, k2, k3⟩ := chi_range hR (by omega) (imem (l := xm) (j := i) (by omega)) z; subst k1 k2 k3; exact ⟨rfl, hB⟩)
          | (have hbg : 2147483647 < prodI xm := (by rcases Nat.lt_or_ge 2147483647 (prodI xm) with h9 | h9; exact h9; rw [hpm, prS_ok h9] at c_p; exact absurd rfl c_p)
             obtain ⟨k1, k2, k3⟩ := chi_big hR (by omega) hall hbg; subst k1 k2 k3; rw [hpm, prS_big hbg]; exact ⟨rfl, hB⟩)
          | (obtain ⟨q1, q2, q3⟩ := invR_err hIV hmr (fun h => by subst h; exact c_e rfl)
             have k0 := hC.failI (by omega) (by rw [show xm.getD i 0 = (((xm.getD i 0).toNat : Nat) : Int) by omega, Int.natAbs_natCast]; simpa using q3)
             rcases hRR with ⟨_, k1, k2, k3⟩ | ⟨k1, _⟩
             · subst k1 k2 k3 q2; exact ⟨rfl, hB⟩
             · rw [k0] at k1; cases k1)
          | (have k0 := hC.doneI (by omega)
             rcases hRR with ⟨k1, _⟩ | ⟨k1, k3⟩
             · rw [k0] at k1; cases k1
             · rw [k0] at k1; cases k1; subst k3; exact ⟨rfl, hB⟩)
        · refine WL.done ?_
          refine W.condF rfl ?_
          refine W.skip ?_
          refine W.seq ?_
          refine W.region ?_
          have hbd : prodI xm ≤ 2147483647 := (by rcases Nat.lt_or_ge 2147483647 (prodI xm) with h9 | h9; (rw [hpm, prS_big h9] at c_p; exact absurd c_p (by decide)); exact h9)
          obtain ⟨R0, hC0, hRR⟩ := chi_fin hR (by omega) hall hbd
          have hmono := prodI_mono (l := xm) (fun x hx => by have := hall x hx; omega)
          refine WL.assign rfl rfl ?_
          refine WL.assign rfl rfl ?_
          refine WL.done ?_
          refine W.seq ?_
          refine W.seq ?_
          refine W.region ?_
          refine WL.move rfl rfl ?_
          refine WL.len Try.underlying29 rfl rfl ?_
          refine WL.move rfl rfl ?_
          refine WL.done ?_
          refine W.block ?_
          refine W.loop (σ := Nat × Nat × Nat) (fun s w1 => match s with | (i, x, p) => w.grownBy w1 none ∧ i ≤ mm ∧ Chin xr xm i x p R0 ∧ p = prodI (xm.take i) ∧ x < p) (fun s => match s with | (i, x, p) => [(0, .slice Ar mr cr), (1, .slice Am mm cm), (11, .int .i64 ((x : Nat) : Int)), (12, .int .i64 ((p : Nat) : Int)), (41, .slice Am mm cm), (42, .int .i64 ((mm : Nat) : Int)), (43, .int .i64 ((i : Nat) : Int))]) (fun s => match s with | (i, x, p) => mm - i) (0, 0, 1) ?_ ?_ ?_
          · exact ⟨hB, by omega, hC0, rfl, by omega⟩
          · exact ⟨rfl, rfl, iv (by omega), iv (by omega), rfl, iv (by omega), iv (by omega), trivial⟩
          · rintro ⟨i, x, p⟩ w17 ⟨hB, hi, hC, hp, hxp⟩
            have hr := hr0.ext hB
            have hm := hm0.ext hB
            refine W.seq ?_
            refine W.region ?_
            refine WL.lss rfl rfl rfl (fun c18 => ?_) (fun c18 => ?_)
            · refine WL.done ?_
              refine W.seq ?_
              refine W.condT rfl ?_
              refine W.skip ?_
              refine W.seq ?_
              refine W.block ?_
              refine W.seq ?_
              have hil : i < xm.length := (by omega); have hmr := hall _ (imem hil); have hmt : (((xm.getD i 0).toNat : Nat) : Int) = xm.getD i 0 := (by omega); have hpt := prodI_take hil; have hpn := hmono (i + 1); have hpi := hmono i; have hIr := hIr.getD i; obtain ⟨y, e1, hIV⟩ := InvR.ex ((p : Nat) : Int) (xm.getD i 0); have hry := Int.emod_nonneg (xr.getD i 0) (show (((xm.getD i 0).toNat : Nat) : Int) ≠ 0 by omega); have hrz := Int.emod_lt_of_pos (xr.getD i 0) (show 0 < (((xm.getD i 0).toNat : Nat) : Int) by omega)
              · refine W.region ?_
                refine WL.move rfl rfl ?_
                refine WL.index1 (i) Try.underlying29 Try.el3 rfl rfl (by omega) (by omega) hm rfl ?_
                refine WL.load Try.underlying3 rfl rfl (Rd.at_ hm (is_at (by omega))) rfl ?_
                refine WL.assign rfl rfl ?_
                refine WL.assign rfl rfl ?_
                refine WL.done ?_
                refine W.seq ?_
                refine W.region ?_
                refine WL.move rfl rfl ?_
                refine WL.move rfl rfl ?_
                refine WL.call Try.func31 rfl Try.nm31 rfl rfl (Inverse_c (by omega) (by omega) y e1 hIV) ?_
                rintro _ w19 ⟨rfl, hGw19⟩
                have hB := ext_trans hB hGw19
                have hr := hr0.ext hB
                refine WL.move rfl rfl ?_
                refine WL.extract rfl rfl rfl ?_
                refine WL.extract rfl rfl rfl ?_
                refine WL.assign rfl rfl ?_
                refine WL.assign rfl rfl ?_
                refine WL.done ?_
                refine W.seq ?_
                refine W.seq ?_
                refine W.region ?_
                refine WL.move rfl rfl ?_
                refine WL.neq rfl rfl rfl (fun c_e => ?_) (fun c_e => ?_)
                · refine WL.done ?_
                  refine W.condT rfl ?_
                  refine W.seq ?_
                  refine W.region ?_
                  refine WL.move rfl rfl ?_
                  refine WL.assign rfl rfl ?_
                  refine WL.assign rfl rfl ?_
                  refine WL.assign rfl rfl ?_
                  refine WL.done ?_
                  refine W.ret ?_
                  refine ⟨_, rfl, ?_⟩
                  first
                  | (obtain ⟨k1, k2, k3⟩ := chi_shape hR (by omega); subst k1 k2 k3; exact ⟨rfl, hB⟩)
                  | (obtain ⟨k1, k2, k3⟩ := chi_range hR (by omega) (imem (l := xm) (j := i) (by omega)) z; subst k1 k2 k3; exact ⟨rfl, hB⟩)
                  | (have hbg : 2147483647 < prodI xm := (by rcases Nat.lt_or_ge 2147483647 (prodI xm) with h9 | h9; exact h9; rw [hpm, prS_ok h9] at c_p; exact absurd rfl c_p)
                     obtain ⟨k1, k2, k3⟩ := chi_big hR (by omega) hall hbg; subst k1 k2 k3; rw [hpm, prS_big hbg]; exact ⟨rfl, hB⟩)
                  | (obtain ⟨q1, q2, q3⟩ := invR_err hIV hmr (fun h => by subst h; exact c_e rfl)
                     have k0 := hC.failI (by omega) (by rw [show xm.getD i 0 = (((xm.getD i 0).toNat : Nat) : Int) by omega, Int.natAbs_natCast]; simpa using q3)
                     rcases hRR with ⟨_, k1, k2, k3⟩ | ⟨k1, _⟩
                     · subst k1 k2 k3 q2; exact ⟨rfl, hB⟩
                     · rw [k0] at k1; cases k1)
                  | (have k0 := hC.doneI (by omega)
                     rcases hRR with ⟨k1, _⟩ | ⟨k1, k3⟩
                     · rw [k0] at k1; cases k1
                     · rw [k0] at k1; cases k1; subst k3; exact ⟨rfl, hB⟩)
                · refine WL.done ?_
                  refine W.condF rfl ?_
                  refine W.skip ?_
                  refine W.seq ?_
                  refine W.region ?_
                  refine WL.move rfl rfl ?_
                  refine WL.move rfl rfl ?_
                  refine WL.index1 (i) Try.underlying29 Try.el3 rfl rfl (by omega) (by omega) hr rfl ?_
                  refine WL.load Try.underlying3 rfl rfl (Rd.at_ hr (is_at (by omega))) rfl ?_
                  refine WL.move rfl rfl ?_
                  refine WL.call Try.func61 rfl Try.nm61 rfl rfl (residue_c (by omega) (xm.getD i 0).toNat (by omega) (by omega) (by omega)) ?_
                  rintro _ w21 ⟨rfl, hGw21⟩
                  have hB := ext_trans hB hGw21
                  refine WL.move rfl rfl ?_
                  refine WL.sub (r := (((((xr.getD i 0) % ((xm.getD i 0).toNat : Int)).toNat : Nat) : Int) - ((x : Nat) : Int))) rfl rfl (wi64 (by omega) (by omega) (by omega)) rfl ?_
                  refine WL.move rfl rfl ?_
                  refine WL.call Try.func61 rfl Try.nm61 rfl rfl (residue_c (by omega) (xm.getD i 0).toNat (by omega) (by omega) (by omega)) ?_
                  rintro _ w22 ⟨rfl, hGw22⟩
                  have hB := ext_trans hB hGw22
                  rw [sub_emod_nat (show 0 < (xm.getD i 0).toNat by omega)]
                  refine WL.assign rfl rfl ?_
                  refine WL.done ?_
                  refine W.seq ?_
                  have hinv := invR_ok hIV (by omega); have hyl := hinv.lt; obtain ⟨u, hu⟩ : ∃ u, u = ((xr.getD i 0 - x) % ((xm.getD i 0).toNat : Int)).toNat := ⟨_, rfl⟩; have hul : u < (xm.getD i 0).toNat := (by have h1 := Int.emod_lt_of_pos (xr.getD i 0 - x) (show 0 < (((xm.getD i 0).toNat : Nat) : Int) by omega); have h2 := Int.emod_nonneg (xr.getD i 0 - x) (show (((xm.getD i 0).toNat : Nat) : Int) ≠ 0 by omega); omega); have huy : u * y ≤ 2147483647 * 2147483647 := Nat.mul_le_mul (by omega) (by omega); have hum := Nat.mod_lt (u * y) (show 0 < (xm.getD i 0).toNat by omega); have hpk : p * (u * y % (xm.getD i 0).toNat + 1) ≤ p * (xm.getD i 0).toNat := Nat.mul_le_mul_left p hum; rw [Nat.mul_add, Nat.mul_one] at hpk; rw [← hp] at hpt; rw [hpt] at hpn; rw [hu] at hul huy hum hpk; clear hu
                  · refine W.region ?_
                    refine WL.move rfl rfl ?_
                    refine WL.move rfl rfl ?_
                    refine WL.move rfl rfl ?_
                    refine WL.move rfl rfl ?_
                    refine WL.mul (r := ((((xr.getD i 0 - x) % ((xm.getD i 0).toNat : Int)).toNat * y : Nat) : Int)) rfl rfl (by rw [← Int.natCast_mul]; exact wi64n (by omega)) rfl ?_
                    refine WL.move rfl rfl ?_
                    refine WL.rem (r := ((((xr.getD i 0 - x) % ((xm.getD i 0).toNat : Int)).toNat * y % (xm.getD i 0).toNat : Nat) : Int)) rfl rfl (by omega) (tmod_nat rfl (by omega)) rfl ?_
                    refine WL.mul (r := ((p * (((xr.getD i 0 - x) % ((xm.getD i 0).toNat : Int)).toNat * y % (xm.getD i 0).toNat) : Nat) : Int)) rfl rfl (by rw [← Int.natCast_mul]; exact wi64n (by omega)) rfl ?_
                    refine WL.add (r := ((x + p * (((xr.getD i 0 - x) % ((xm.getD i 0).toNat : Int)).toNat * y % (xm.getD i 0).toNat) : Nat) : Int)) rfl rfl (wi64 (by omega) (by omega) (by omega)) rfl ?_
                    refine WL.assign rfl rfl ?_
                    refine WL.done ?_
                    refine W.region ?_
                    refine WL.move rfl rfl ?_
                    refine WL.move rfl rfl ?_
                    refine WL.mul (r := ((p * (xm.getD i 0).toNat : Nat) : Int)) rfl rfl (by rw [← hmt, ← Int.natCast_mul]; exact wi64n (by omega)) rfl ?_
                    refine WL.assign rfl rfl ?_
                    refine WL.done ?_
                    refine W.region ?_
                    refine WL.add (r := ((i + 1 : Nat) : Int)) rfl rfl (wi64 (by omega) (by omega) (by omega)) rfl ?_
                    refine WL.move rfl rfl ?_
                    refine WL.done ?_
                    refine ⟨(i + 1, x + p * (((xr.getD i 0 - x) % ((xm.getD i 0).toNat : Int)).toNat * y % (xm.getD i 0).toNat), p * (xm.getD i 0).toNat), ⟨rfl, rfl, iv (by omega), iv (by omega), rfl, iv (by omega), iv (by omega), trivial⟩, by (dsimp only; omega), ?_⟩
                    exact ⟨hB, by omega, hC.stepI (by omega) (by omega) hinv, by rw [hpt, hp], by omega⟩
            · refine WL.done ?_
              refine W.seq ?_
              refine W.condF rfl ?_
              refine W.exit ?_
              refine W.seq ?_
              refine W.region ?_
              refine WL.move rfl rfl ?_
              refine WL.move rfl rfl ?_
              refine WL.assign rfl rfl ?_
              refine WL.assign rfl rfl ?_
              refine WL.assign rfl rfl ?_
              refine WL.done ?_
              refine W.ret ?_
              refine ⟨_, rfl, ?_⟩
              first
              | (obtain ⟨k1, k2, k3⟩ := chi_shape hR (by omega); subst k1 k2 k3; exact ⟨rfl, hB⟩)
              | (obtain ⟨k1, k2, k3⟩ := chi_range hR (by omega) (imem (l := xm) (j := i) (by omega)) z; subst k1 k2 k3; exact ⟨rfl, hB⟩)
              | (have hbg : 2147483647 < prodI xm := (by rcases Nat.lt_or_ge 2147483647 (prodI xm) with h9 | h9; exact h9; rw [hpm, prS_ok h9] at c_p; exact absurd rfl c_p)
                 obtain ⟨k1, k2, k3⟩ := chi_big hR (by omega) hall hbg; subst k1 k2 k3; rw [hpm, prS_big hbg]; exact ⟨rfl, hB⟩)
              | (obtain ⟨q1, q2, q3⟩ := invR_err hIV hmr (fun h => by subst h; exact c_e rfl)
                 have k0 := hC.failI (by omega) (by rw [show xm.getD i 0 = (((xm.getD i 0).toNat : Nat) : Int) by omega, Int.natAbs_natCast]; simpa using q3)
                 rcases hRR with ⟨_, k1, k2, k3⟩ | ⟨k1, _⟩
                 · subst k1 k2 k3 q2; exact ⟨rfl, hB⟩
                 · rw [k0] at k1; cases k1)
              | (have k0 := hC.doneI (by omega)
                 rcases hRR with ⟨k1, _⟩ | ⟨k1, k3⟩
                 · rw [k0] at k1; cases k1
                 · rw [k0] at k1; cases k1; subst k3; exact ⟨rfl, hB⟩)
end Go.Proofs.Ytdmgbahognfhbaa
set_option linter.unusedSimpArgs false
set_option linter.unusedVariables false
namespace Go.Proofs.Ytdmgbahognfhbaa
open Go.RowKit
theorem fac360 : IsFac 360 [(2, 3), (3, 2), (5, 1)] := .step (m := 45) (.of_lt (by decide) (by decide) (by decide)) (by decide) (by decide) (by decide) (.step (m := 5) (.of_lt (by decide) (by decide) (by decide)) (by decide) (by decide) (by decide) (.step (m := 1) (.of_lt (by decide) (by decide) (by decide)) (by decide) (by decide) (by decide) .one))
theorem fac243 : IsFac 243 [(3, 5)] := .step (m := 1) (.of_lt (by decide) (by decide) (by decide)) (by decide) (by decide) (by decide) .one
theorem fac36 : IsFac 36 [(2, 2), (3, 2)] := .step (m := 9) (.of_lt (by decide) (by decide) (by decide)) (by decide) (by decide) (by decide) (.step (m := 1) (.of_lt (by decide) (by decide) (by decide)) (by decide) (by decide) (by decide) .one)
theorem fac30 : IsFac 30 [(2, 1), (3, 1), (5, 1)] := .step (m := 15) (.of_lt (by decide) (by decide) (by decide)) (by decide) (by decide) (by decide) (.step (m := 5) (.of_lt (by decide) (by decide) (by decide)) (by decide) (by decide) (by decide) (.step (m := 1) (.of_lt (by decide) (by decide) (by decide)) (by decide) (by decide) (by decide) .one))
theorem bez12 : BezR 12 18 6 2 (-1) 0 := .ok (by decide) (by decide) (by decide) ⟨by decide, by decide, by decide, by decide⟩
theorem inv37 : InvR 3 7 5 0 := .ok (by decide) ⟨by decide, ⟨2, by decide⟩⟩
theorem ord27 : OrdR 2 7 3 0 := .ok (by decide) (by decide) ⟨by decide, ⟨1, by decide⟩, fun j h0 h1 => by
  rcases Nat.lt_or_ge j 3 with h | h
  · exfalso
    have hj : j = 1 ∨ j = 2 := by omega
    rcases hj with rfl | rfl
    · exact absurd (One.iff.1 h1) (by decide)
    · exact absurd (One.iff.1 h1) (by decide)
  · exact h⟩
theorem chi23 : ChiR [2, 3] [3, 5] 8 15 0 := by
  refine .ok rfl (by decide) (by decide) ?_
  refine .step (m := 3) (y := 1) (by decide) rfl (by decide) ⟨by decide, ⟨0, by decide⟩⟩ ?_
  refine .step (m := 5) (y := 2) (by decide) rfl (by decide) ⟨by decide, ⟨1, by decide⟩⟩ ?_
  exact .done (by decide)

theorem awake_c {w : World} :
    Calls Try.prog 15 #[] w fun e w2 => ∃ v, e = .returned v ∧ (fun v w2 => v = .bool true ∧ w.grownBy w2 none) v w2 := by
  have hB := ext_refl w
  refine calls_of_W (vs := []) [0] Try.func15 rfl rfl rfl rfl ?_
  refine W.seq ?_
  refine W.region ?_
  refine WL.assign rfl rfl ?_
  refine WL.done ?_
  refine W.seq ?_
  refine W.region ?_
  refine WL.call Try.func16 rfl Try.nm16 rfl rfl (Factor_ok 360 rfl ([(2, 3), (3, 2), (5, 1)]) fac360 (by decide) (by decide)) ?_
  rintro _ w11 ⟨A12, m13, c14, rfl, hGw11, hf⟩
  have hf := hf.low (b' := w.heap.size) hB.size
  have hB := ext_trans hB hGw11
  have hf_l := hf.rd.plen
  simp only [List.length_cons, List.length_nil] at hf_l
  refine WL.move rfl rfl ?_
  refine WL.extract rfl rfl rfl ?_
  refine WL.extract rfl rfl rfl ?_
  refine WL.assign rfl rfl ?_
  refine WL.assign rfl rfl ?_
  refine WL.done ?_
  refine W.seq ?_
  refine W.seq ?_
  refine W.region ?_
  refine WL.move rfl rfl ?_
  refine WL.neq rfl rfl rfl (fun c15 => ?_) (fun c15 => ?_)
  · exfalso
    omega
  · refine WL.move rfl rfl ?_
    refine WL.take rfl ?_
    refine WL.move rfl rfl ?_
    refine WL.take rfl ?_
    refine WL.len Try.underlying23 rfl rfl ?_
    refine WL.take rfl ?_
    refine WL.neq rfl rfl rfl (fun c16 => ?_) (fun c16 => ?_)
    · exfalso
      omega
    · refine WL.pick rfl rfl rfl ?_
      refine WL.move rfl rfl ?_
      refine WL.take rfl ?_
      refine WL.move rfl rfl ?_
      refine WL.take rfl ?_
      refine WL.index (0) Try.underlying23 Try.el37 rfl rfl (by omega) (by omega) hf.rd rfl ?_
      refine WL.take rfl ?_
      refine WL.loadV (cs := [.int .i64 (((([(2, 3), (3, 2), (5, 1)]).getD 0 (0, 0)).1 : Nat) : Int), .int .i64 (((([(2, 3), (3, 2), (5, 1)]).getD 0 (0, 0)).2 : Nat) : Int)]) Try.el37 Try.agg37 rfl rfl (pc_load hf.rd (0) (by first | omega | decide)) rfl ?_
      refine WL.take rfl ?_
      refine WL.build (cells := #[.int .i64 (2 : Int), .int .i64 (3 : Int)]) Try.bld37 rfl rfl rfl ?_
      refine WL.take rfl ?_
      refine WL.neq2 (r := false) Try.eq37 rfl rfl (by decide) rfl ?_
      refine WL.pick rfl rfl rfl ?_
      refine WL.move rfl rfl ?_
      refine WL.take rfl ?_
      refine WL.move rfl rfl ?_
      refine WL.take rfl ?_
      refine WL.index (1) Try.underlying23 Try.el37 rfl rfl (by omega) (by omega) hf.rd rfl ?_
      refine WL.take rfl ?_
      refine WL.loadV (cs := [.int .i64 (((([(2, 3), (3, 2), (5, 1)]).getD 1 (0, 0)).1 : Nat) : Int), .int .i64 (((([(2, 3), (3, 2), (5, 1)]).getD 1 (0, 0)).2 : Nat) : Int)]) Try.el37 Try.agg37 rfl rfl (pc_load hf.rd (1) (by first | omega | decide)) rfl ?_
      refine WL.take rfl ?_
      refine WL.build (cells := #[.int .i64 (3 : Int), .int .i64 (2 : Int)]) Try.bld37 rfl rfl rfl ?_
      refine WL.take rfl ?_
      refine WL.neq2 (r := false) Try.eq37 rfl rfl (by decide) rfl ?_
      refine WL.pick rfl rfl rfl ?_
      refine WL.move rfl rfl ?_
      refine WL.take rfl ?_
      refine WL.move rfl rfl ?_
      refine WL.take rfl ?_
      refine WL.index (2) Try.underlying23 Try.el37 rfl rfl (by omega) (by omega) hf.rd rfl ?_
      refine WL.take rfl ?_
      refine WL.loadV (cs := [.int .i64 (((([(2, 3), (3, 2), (5, 1)]).getD 2 (0, 0)).1 : Nat) : Int), .int .i64 (((([(2, 3), (3, 2), (5, 1)]).getD 2 (0, 0)).2 : Nat) : Int)]) Try.el37 Try.agg37 rfl rfl (pc_load hf.rd (2) (by first | omega | decide)) rfl ?_
      refine WL.take rfl ?_
      refine WL.build (cells := #[.int .i64 (5 : Int), .int .i64 (1 : Int)]) Try.bld37 rfl rfl rfl ?_
      refine WL.take rfl ?_
      refine WL.neq2 (r := false) Try.eq37 rfl rfl (by decide) rfl ?_
      refine WL.pick rfl rfl rfl ?_
      refine WL.done ?_
      refine W.condF rfl ?_
      refine W.skip ?_
      refine W.seq ?_
      refine W.region ?_
      refine WL.call Try.func18 rfl Try.nm18 rfl rfl (PrimePower_ok 243 rfl ([(3, 5)]) fac243 (by decide) (by decide)) ?_
      rintro _ w17 ⟨rfl, hGw17⟩
      have hB := ext_trans hB hGw17
      rw [show (ppS [(3, 5)]).1 = 3 from rfl, show (ppS [(3, 5)]).2.1 = 5 from rfl, show (ppS [(3, 5)]).2.2 = 0 from rfl]
      refine WL.move rfl rfl ?_
      refine WL.extract rfl rfl rfl ?_
      refine WL.extract rfl rfl rfl ?_
      refine WL.extract rfl rfl rfl ?_
      refine WL.assign rfl rfl ?_
      refine WL.assign rfl rfl ?_
      refine WL.assign rfl rfl ?_
      refine WL.done ?_
      refine W.seq ?_
      refine W.region ?_
      refine WL.call Try.func29 rfl Try.nm29 rfl rfl (Bezout_c (by omega) (by omega) 6 (2 : Int) (-1 : Int) 0 bez12) ?_
      rintro _ w18 ⟨rfl, hGw18⟩
      have hB := ext_trans hB hGw18
      refine WL.move rfl rfl ?_
      refine WL.extract rfl rfl rfl ?_
      refine WL.extract rfl rfl rfl ?_
      refine WL.extract rfl rfl rfl ?_
      refine WL.extract rfl rfl rfl ?_
      refine WL.assign rfl rfl ?_
      refine WL.assign rfl rfl ?_
      refine WL.assign rfl rfl ?_
      refine WL.assign rfl rfl ?_
      refine WL.done ?_
      refine W.seq ?_
      refine W.region ?_
      refine WL.call Try.func31 rfl Try.nm31 rfl rfl (Inverse_c (by omega) (by omega) 5 0 inv37) ?_
      rintro _ w19 ⟨rfl, hGw19⟩
      have hB := ext_trans hB hGw19
      refine WL.move rfl rfl ?_
      refine WL.extract rfl rfl rfl ?_
      refine WL.extract rfl rfl rfl ?_
      refine WL.assign rfl rfl ?_
      refine WL.assign rfl rfl ?_
      refine WL.done ?_
      refine W.seq ?_
      refine W.region ?_
      refine WL.call Try.func35 rfl Try.nm35 rfl rfl (Order_c (by omega) (by omega) 3 0 ord27) ?_
      rintro _ w20 ⟨rfl, hGw20⟩
      have hB := ext_trans hB hGw20
      refine WL.move rfl rfl ?_
      refine WL.extract rfl rfl rfl ?_
      refine WL.extract rfl rfl rfl ?_
      refine WL.assign rfl rfl ?_
      refine WL.assign rfl rfl ?_
      refine WL.done ?_
      refine W.seq ?_
      refine W.seq ?_
      refine W.region ?_
      refine WL.move rfl rfl ?_
      refine WL.neq rfl rfl rfl (fun c21 => ?_) (fun c21 => ?_)
      · exfalso
        omega
      · refine WL.move rfl rfl ?_
        refine WL.take rfl ?_
        refine WL.move rfl rfl ?_
        refine WL.take rfl ?_
        refine WL.neq rfl rfl rfl (fun c22 => ?_) (fun c22 => ?_)
        · exfalso
          omega
        · refine WL.pick rfl rfl rfl ?_
          refine WL.move rfl rfl ?_
          refine WL.take rfl ?_
          refine WL.move rfl rfl ?_
          refine WL.take rfl ?_
          refine WL.neq rfl rfl rfl (fun c23 => ?_) (fun c23 => ?_)
          · exfalso
            omega
          · refine WL.pick rfl rfl rfl ?_
            refine WL.move rfl rfl ?_
            refine WL.take rfl ?_
            refine WL.move rfl rfl ?_
            refine WL.take rfl ?_
            refine WL.neq rfl rfl rfl (fun c24 => ?_) (fun c24 => ?_)
            · exfalso
              omega
            · refine WL.pick rfl rfl rfl ?_
              refine WL.move rfl rfl ?_
              refine WL.take rfl ?_
              refine WL.move rfl rfl ?_
              refine WL.take rfl ?_
              refine WL.neq rfl rfl rfl (fun c25 => ?_) (fun c25 => ?_)
              · exfalso
                omega
              · refine WL.pick rfl rfl rfl ?_
                refine WL.move rfl rfl ?_
                refine WL.take rfl ?_
                refine WL.move rfl rfl ?_
                refine WL.take rfl ?_
                refine WL.neq rfl rfl rfl (fun c26 => ?_) (fun c26 => ?_)
                · exfalso
                  omega
                · refine WL.pick rfl rfl rfl ?_
                  refine WL.move rfl rfl ?_
                  refine WL.take rfl ?_
                  refine WL.move rfl rfl ?_
                  refine WL.take rfl ?_
                  refine WL.neq rfl rfl rfl (fun c27 => ?_) (fun c27 => ?_)
                  · exfalso
                    omega
                  · refine WL.pick rfl rfl rfl ?_
                    refine WL.move rfl rfl ?_
                    refine WL.take rfl ?_
                    refine WL.move rfl rfl ?_
                    refine WL.take rfl ?_
                    refine WL.neq rfl rfl rfl (fun c28 => ?_) (fun c28 => ?_)
                    · exfalso
                      omega
                    · refine WL.pick rfl rfl rfl ?_
                      refine WL.move rfl rfl ?_
                      refine WL.take rfl ?_
                      refine WL.move rfl rfl ?_
                      refine WL.take rfl ?_
                      refine WL.neq rfl rfl rfl (fun c29 => ?_) (fun c29 => ?_)
                      · exfalso
                        omega
                      · refine WL.pick rfl rfl rfl ?_
                        refine WL.move rfl rfl ?_
                        refine WL.take rfl ?_
                        refine WL.move rfl rfl ?_
                        refine WL.take rfl ?_
                        refine WL.neq rfl rfl rfl (fun c30 => ?_) (fun c30 => ?_)
                        · exfalso
                          omega
                        · refine WL.pick rfl rfl rfl ?_
                          refine WL.move rfl rfl ?_
                          refine WL.take rfl ?_
                          refine WL.move rfl rfl ?_
                          refine WL.take rfl ?_
                          refine WL.neq rfl rfl rfl (fun c31 => ?_) (fun c31 => ?_)
                          · exfalso
                            omega
                          · refine WL.pick rfl rfl rfl ?_
                            refine WL.done ?_
                            refine W.condF rfl ?_
                            refine W.skip ?_
                            refine W.seq ?_
                            refine W.region ?_
                            refine WL.call Try.func33 rfl Try.nm33 rfl rfl (Power_c (by omega) (by omega) (by omega)) ?_
                            rintro _ w32 ⟨rfl, hGw32⟩
                            have hB := ext_trans hB hGw32
                            rw [show (powS 3 5 7).1 = 5 from by decide +kernel, show (powS 3 5 7).2 = 0 from by decide +kernel]
                            refine WL.move rfl rfl ?_
                            refine WL.extract rfl rfl rfl ?_
                            refine WL.extract rfl rfl rfl ?_
                            refine WL.assign rfl rfl ?_
                            refine WL.assign rfl rfl ?_
                            refine WL.done ?_
                            refine W.seq ?_
                            refine W.region ?_
                            refine WL.call Try.func37 rfl Try.nm37 rfl rfl (Phi_ok 36 rfl ([(2, 2), (3, 2)]) fac36 (by decide) (by decide)) ?_
                            rintro _ w33 ⟨rfl, hGw33⟩
                            have hB := ext_trans hB hGw33
                            rw [show phiL [(2, 2), (3, 2)] = 12 from rfl]
                            refine WL.move rfl rfl ?_
                            refine WL.extract rfl rfl rfl ?_
                            refine WL.extract rfl rfl rfl ?_
                            refine WL.assign rfl rfl ?_
                            refine WL.assign rfl rfl ?_
                            refine WL.done ?_
                            refine W.seq ?_
                            refine W.region ?_
                            refine WL.call Try.func39 rfl Try.nm39 rfl rfl (Moebius_ok 30 rfl ([(2, 1), (3, 1), (5, 1)]) fac30 (by decide) (by decide)) ?_
                            rintro _ w34 ⟨rfl, hGw34⟩
                            have hB := ext_trans hB hGw34
                            rw [show moeL [(2, 1), (3, 1), (5, 1)] = -1 from rfl]
                            refine WL.move rfl rfl ?_
                            refine WL.extract rfl rfl rfl ?_
                            refine WL.extract rfl rfl rfl ?_
                            refine WL.assign rfl rfl ?_
                            refine WL.assign rfl rfl ?_
                            refine WL.done ?_
                            refine W.seq ?_
                            refine W.region ?_
                            refine WL.lit1 (b := w34.heap.size) Try.underlying29 Try.el3 rfl rfl rfl rfl (by intro v hv; simp only [List.mem_cons, List.not_mem_nil, or_false] at hv; rcases hv with rfl | rfl <;> rfl) (Nat.le_refl _) rfl ?_
                            rintro A35 w36 - hO37 hGw36
                            have hO37 := hO37.low (b' := w.heap.size) hB.size
                            have hB := ext_trans hB hGw36
                            change Own _ _ _ _ _ _ _ (is ([(2 : Int), (3 : Int)] : List Int)) at hO37
                            refine WL.lit1 (b := w36.heap.size) Try.underlying29 Try.el3 rfl rfl rfl rfl (by intro v hv; simp only [List.mem_cons, List.not_mem_nil, or_false] at hv; rcases hv with rfl | rfl <;> rfl) (Nat.le_refl _) rfl ?_
                            rintro A38 w39 - hO40 hGw39
                            have hO40 := hO40.low (b' := w.heap.size) hB.size
                            have hB := ext_trans hB hGw39
                            have hO37 := hO37.ext hGw39
                            change Own _ _ _ _ _ _ _ (is ([(3 : Int), (5 : Int)] : List Int)) at hO40
                            refine WL.call Try.func40 rfl Try.nm40 rfl rfl (Chinese_c hO37.rd hO40.rd (by intro x hx; simp only [List.mem_cons, List.not_mem_nil, or_false] at hx; omega) (by intro x hx; simp only [List.mem_cons, List.not_mem_nil, or_false] at hx; omega) 8 15 0 chi23) ?_
                            rintro _ w41 ⟨rfl, hGw41⟩
                            have hB := ext_trans hB hGw41
                            refine WL.move rfl rfl ?_
                            refine WL.extract rfl rfl rfl ?_
                            refine WL.extract rfl rfl rfl ?_
                            refine WL.extract rfl rfl rfl ?_
                            refine WL.assign rfl rfl ?_
                            refine WL.assign rfl rfl ?_
                            refine WL.assign rfl rfl ?_
                            refine WL.done ?_
                            refine W.seq ?_
                            refine W.seq ?_
                            refine W.region ?_
                            refine WL.move rfl rfl ?_
                            refine WL.neq rfl rfl rfl (fun c42 => ?_) (fun c42 => ?_)
                            · exfalso
                              omega
                            · refine WL.move rfl rfl ?_
                              refine WL.take rfl ?_
                              refine WL.move rfl rfl ?_
                              refine WL.take rfl ?_
                              refine WL.neq rfl rfl rfl (fun c43 => ?_) (fun c43 => ?_)
                              · exfalso
                                omega
                              · refine WL.pick rfl rfl rfl ?_
                                refine WL.move rfl rfl ?_
                                refine WL.take rfl ?_
                                refine WL.move rfl rfl ?_
                                refine WL.take rfl ?_
                                refine WL.neq rfl rfl rfl (fun c44 => ?_) (fun c44 => ?_)
                                · exfalso
                                  omega
                                · refine WL.pick rfl rfl rfl ?_
                                  refine WL.move rfl rfl ?_
                                  refine WL.take rfl ?_
                                  refine WL.move rfl rfl ?_
                                  refine WL.take rfl ?_
                                  refine WL.neq rfl rfl rfl (fun c45 => ?_) (fun c45 => ?_)
                                  · exfalso
                                    omega
                                  · refine WL.pick rfl rfl rfl ?_
                                    refine WL.move rfl rfl ?_
                                    refine WL.take rfl ?_
                                    refine WL.move rfl rfl ?_
                                    refine WL.take rfl ?_
                                    refine WL.neq rfl rfl rfl (fun c46 => ?_) (fun c46 => ?_)
                                    · exfalso
                                      omega
                                    · refine WL.pick rfl rfl rfl ?_
                                      refine WL.move rfl rfl ?_
                                      refine WL.take rfl ?_
                                      refine WL.move rfl rfl ?_
                                      refine WL.take rfl ?_
                                      refine WL.neq rfl rfl rfl (fun c47 => ?_) (fun c47 => ?_)
                                      · exfalso
                                        omega
                                      · refine WL.pick rfl rfl rfl ?_
                                        refine WL.move rfl rfl ?_
                                        refine WL.take rfl ?_
                                        refine WL.move rfl rfl ?_
                                        refine WL.take rfl ?_
                                        refine WL.neq rfl rfl rfl (fun c48 => ?_) (fun c48 => ?_)
                                        · exfalso
                                          omega
                                        · refine WL.pick rfl rfl rfl ?_
                                          refine WL.move rfl rfl ?_
                                          refine WL.take rfl ?_
                                          refine WL.move rfl rfl ?_
                                          refine WL.take rfl ?_
                                          refine WL.neq rfl rfl rfl (fun c49 => ?_) (fun c49 => ?_)
                                          · exfalso
                                            omega
                                          · refine WL.pick rfl rfl rfl ?_
                                            refine WL.move rfl rfl ?_
                                            refine WL.take rfl ?_
                                            refine WL.move rfl rfl ?_
                                            refine WL.take rfl ?_
                                            refine WL.neq rfl rfl rfl (fun c50 => ?_) (fun c50 => ?_)
                                            · exfalso
                                              omega
                                            · refine WL.pick rfl rfl rfl ?_
                                              refine WL.done ?_
                                              refine W.condF rfl ?_
                                              refine W.skip ?_
                                              refine W.seq ?_
                                              refine W.region ?_
                                              refine WL.call Try.func44 rfl Try.nm44 rfl rfl (Exp_c (by omega) (by omega) (by omega)) ?_
                                              rintro _ w51 ⟨rfl, hGw51⟩
                                              have hB := ext_trans hB hGw51
                                              rw [show (expS 2 16 65536).1 = 65536 from by decide +kernel, show (expS 2 16 65536).2 = 0 from by decide +kernel]
                                              refine WL.move rfl rfl ?_
                                              refine WL.extract rfl rfl rfl ?_
                                              refine WL.extract rfl rfl rfl ?_
                                              refine WL.assign rfl rfl ?_
                                              refine WL.assign rfl rfl ?_
                                              refine WL.done ?_
                                              refine W.seq ?_
                                              refine W.region ?_
                                              refine WL.call Try.func46 rfl Try.nm46 rfl rfl (Choose_c (by omega) (by omega) (by omega)) ?_
                                              rintro _ w52 ⟨rfl, hGw52⟩
                                              have hB := ext_trans hB hGw52
                                              rw [show (chooseS 5 2 100).1 = 10 from by decide +kernel, show (chooseS 5 2 100).2 = 0 from by decide +kernel]
                                              refine WL.move rfl rfl ?_
                                              refine WL.extract rfl rfl rfl ?_
                                              refine WL.extract rfl rfl rfl ?_
                                              refine WL.assign rfl rfl ?_
                                              refine WL.assign rfl rfl ?_
                                              refine WL.done ?_
                                              refine W.seq ?_
                                              refine W.region ?_
                                              refine WL.call Try.func42 rfl Try.nm42 rfl rfl (Product_c (Rd.nil (B := 0) (by simp [maxLen]) : Rd 0 _ 1 none 0 0 (is [])) (by omega) ILim.nil) ?_
                                              rintro _ w53 ⟨rfl, hGw53⟩
                                              have hB := ext_trans hB hGw53
                                              rw [show (prodS 10 []).1 = 1 from by decide +kernel, show (prodS 10 []).2 = 0 from by decide +kernel]
                                              refine WL.move rfl rfl ?_
                                              refine WL.extract rfl rfl rfl ?_
                                              refine WL.extract rfl rfl rfl ?_
                                              refine WL.assign rfl rfl ?_
                                              refine WL.assign rfl rfl ?_
                                              refine WL.done ?_
                                              refine W.seq ?_
                                              refine W.region ?_
                                              refine WL.call Try.func44 rfl Try.nm44 rfl rfl (Exp_c (by omega) (by omega) (by omega)) ?_
                                              rintro _ w54 ⟨rfl, hGw54⟩
                                              have hB := ext_trans hB hGw54
                                              rw [show (expS 2 17 65536).1 = 0 from by decide +kernel, show (expS 2 17 65536).2 = 8 from by decide +kernel]
                                              refine WL.move rfl rfl ?_
                                              refine WL.extract rfl rfl rfl ?_
                                              refine WL.extract rfl rfl rfl ?_
                                              refine WL.assign rfl rfl ?_
                                              refine WL.done ?_
                                              refine W.seq ?_
                                              refine W.region ?_
                                              refine WL.move rfl rfl ?_
                                              refine WL.eql rfl rfl rfl (fun c55 => ?_) (fun c55 => ?_)
                                              · refine WL.move rfl rfl ?_
                                                refine WL.take rfl ?_
                                                refine WL.move rfl rfl ?_
                                                refine WL.take rfl ?_
                                                refine WL.eql rfl rfl rfl (fun c56 => ?_) (fun c56 => ?_)
                                                · refine WL.pick rfl rfl rfl ?_
                                                  refine WL.move rfl rfl ?_
                                                  refine WL.take rfl ?_
                                                  refine WL.move rfl rfl ?_
                                                  refine WL.take rfl ?_
                                                  refine WL.eql rfl rfl rfl (fun c57 => ?_) (fun c57 => ?_)
                                                  · refine WL.pick rfl rfl rfl ?_
                                                    refine WL.move rfl rfl ?_
                                                    refine WL.take rfl ?_
                                                    refine WL.move rfl rfl ?_
                                                    refine WL.take rfl ?_
                                                    refine WL.eql rfl rfl rfl (fun c58 => ?_) (fun c58 => ?_)
                                                    · refine WL.pick rfl rfl rfl ?_
                                                      refine WL.move rfl rfl ?_
                                                      refine WL.take rfl ?_
                                                      refine WL.move rfl rfl ?_
                                                      refine WL.take rfl ?_
                                                      refine WL.eql rfl rfl rfl (fun c59 => ?_) (fun c59 => ?_)
                                                      · refine WL.pick rfl rfl rfl ?_
                                                        refine WL.move rfl rfl ?_
                                                        refine WL.take rfl ?_
                                                        refine WL.move rfl rfl ?_
                                                        refine WL.take rfl ?_
                                                        refine WL.eql rfl rfl rfl (fun c60 => ?_) (fun c60 => ?_)
                                                        · refine WL.pick rfl rfl rfl ?_
                                                          refine WL.move rfl rfl ?_
                                                          refine WL.take rfl ?_
                                                          refine WL.move rfl rfl ?_
                                                          refine WL.take rfl ?_
                                                          refine WL.eql rfl rfl rfl (fun c61 => ?_) (fun c61 => ?_)
                                                          · refine WL.pick rfl rfl rfl ?_
                                                            refine WL.move rfl rfl ?_
                                                            refine WL.take rfl ?_
                                                            refine WL.call Try.func24 rfl Try.nm24 rfl rfl (Prime_c (by omega)) ?_
                                                            rintro _ w62 ⟨bz5, rfl, hGw62, z5_t, z5_f⟩
                                                            have hB := ext_trans hB hGw62
                                                            rcases bz5 with _ | _
                                                            · exfalso
                                                              have z5 := z5_f rfl
                                                              exact z5 ⟨by decide, by decide, .of_lt (by decide) (by decide) (by decide)⟩
                                                            · have z5 := z5_t rfl
                                                              refine WL.pick rfl rfl rfl ?_
                                                              refine WL.move rfl rfl ?_
                                                              refine WL.take rfl ?_
                                                              refine WL.call Try.func24 rfl Try.nm24 rfl rfl (Prime_c (by omega)) ?_
                                                              rintro _ w63 ⟨bz1, rfl, hGw63, z1_t, z1_f⟩
                                                              have hB := ext_trans hB hGw63
                                                              rcases bz1 with _ | _
                                                              · have z1 := z1_f rfl
                                                                refine WL.take rfl ?_
                                                                refine WL.not rfl rfl ?_
                                                                refine WL.pick rfl rfl rfl ?_
                                                                refine WL.assign rfl rfl ?_
                                                                refine WL.done ?_
                                                                refine W.ret ?_
                                                                refine ⟨_, rfl, ?_⟩
                                                                exact ⟨rfl, hB⟩
                                                              · exfalso
                                                                have z1 := z1_t rfl
                                                                exact absurd z1.1 (by decide)
                                                          · exfalso
                                                            omega
                                                        · exfalso
                                                          omega
                                                      · exfalso
                                                        omega
                                                    · exfalso
                                                      omega
                                                  · exfalso
                                                    omega
                                                · exfalso
                                                  omega
                                              · exfalso
                                                omega
end Go.Proofs.Ytdmgbahognfhbaa
