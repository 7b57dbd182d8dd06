/- Contracts of functions of the program, and what they lean on: N10, N11, Ny. -/
import Derived.Test.YtdmgbahognfhbaaG5
set_option linter.unusedSimpArgs false
set_option linter.unusedVariables false
namespace Go.Proofs.Ytdmgbahognfhbaa
open Go.RowKit
theorem rgcd_c {w : World} (n : Nat) {X : Int} (hX : X = n) (m : Nat) {Y : Int} (hY : Y = m) (hn : n < 9223372036854775808) (hm : m < 9223372036854775808) :
    Calls Try.prog 58 #[.int .i64 X, .int .i64 Y] w fun e w2 => ∃ v, e = .returned v ∧ (fun v w2 => v = .int .i64 ((Nat.gcd n m : Nat) : Int) ∧ w.grownBy w2 none) v w2 := by
  have hB := ext_refl w
  refine calls_of_W (vs := [.int .i64 X, .int .i64 Y]) [4] Try.func58 rfl rfl rfl rfl ?_
  refine W.seq ?_
  refine W.region ?_
  refine WL.assign rfl rfl ?_
  refine WL.done ?_
  refine W.seq ?_
  refine W.block ?_
  refine W.loop (σ := Nat × Nat) (fun s w1 => match s with | (a, b) => w.grownBy w1 none ∧ a < 9223372036854775808 ∧ b < 9223372036854775808 ∧ Nat.gcd a b = Nat.gcd n m) (fun s => match s with | (a, b) => [(0, .int .i64 ((a : Nat) : Int)), (1, .int .i64 ((b : Nat) : Int))]) (fun s => match s with | (a, b) => b) (n, m) ?_ ?_ ?_
  · exact ⟨hB, by omega, by omega, rfl⟩
  · exact ⟨iv (by omega), iv (by omega), trivial⟩
  · rintro ⟨a, b⟩ w11 ⟨hB, ha, hb, hg⟩
    refine W.seq ?_
    refine W.seq ?_
    refine W.region ?_
    refine WL.move rfl rfl ?_
    refine WL.neq rfl rfl rfl (fun c12 => ?_) (fun c12 => ?_)
    · refine WL.done ?_
      refine W.condT rfl ?_
      refine W.skip ?_
      refine W.block ?_
      have hml := Nat.mod_lt a (show 0 < b by omega)
      · refine W.drawT 5 [⟨[], [1], true⟩, ⟨[], [0], true⟩, ⟨[], [1], true⟩, ⟨[1, 2], [], true⟩, ⟨[0], [], true⟩] [[(1, .int .i64 ((b : Nat) : Int))], [(0, .int .i64 ((a : Nat) : Int))], [(1, .int .i64 ((b : Nat) : Int))], [], []] (fun iQ => [fun v wQ => v = .int .i64 ((b : Nat) : Int), fun v wQ => v = .int .i64 ((a : Nat) : Int), fun v wQ => v = .int .i64 ((b : Nat) : Int), fun v wQ => v = .int .i64 ((a % b : Nat) : Int), fun v wQ => v = .int .i64 ((b : Nat) : Int)].getD iQ (fun _ _ => True)) Try.mixed (by kernel_rfl) ?_ ?_ ?_
        · refine Vs_monoT _ ?_
          intro VQ hVQ vQ wQ1 wQ2 hQ1 hQ2
          simp only [List.mem_cons, List.not_mem_nil, or_false] at hVQ
          rcases hVQ with rfl | rfl | rfl | rfl | rfl
          · exact hQ1
          · exact hQ1
          · exact hQ1
          · exact hQ1
          · exact hQ1
        · refine ⟨⟨rfl, ⟨rfl, trivial⟩, ?_⟩, ⟨rfl, ⟨rfl, trivial⟩, ?_⟩, ⟨rfl, ⟨rfl, trivial⟩, ?_⟩, ⟨rfl, trivial, ?_⟩, ⟨rfl, trivial, ?_⟩, trivial⟩
          · intro w13 hE
            intro R
            refine WL.move rfl rfl ?_
            exact WL.done ⟨_, rfl, rfl, rfl⟩
          · intro w14 hE
            intro R
            refine WL.move rfl rfl ?_
            exact WL.done ⟨_, rfl, rfl, rfl⟩
          · intro w15 hE
            intro R
            refine WL.move rfl rfl ?_
            exact WL.done ⟨_, rfl, rfl, rfl⟩
          · intro w16 hE
            rintro _ rfl
            rintro _ rfl
            intro R
            refine WL.rem (r := ((a % b : Nat) : Int)) rfl rfl (by omega) (tmod_nat (by omega) (by omega)) rfl ?_
            exact WL.done ⟨_, rfl, rfl, rfl⟩
          · intro w17 hE
            rintro _ rfl
            intro R
            refine WL.assign rfl rfl ?_
            exact WL.done ⟨_, rfl, rfl, rfl⟩
        · intro vals w18 hT hVs
          have hB := ext_trans hB hT
          have hv0 : vals 0 = _ := hVs 0 (by decide)
          have hv1 : vals 1 = _ := hVs 1 (by decide)
          have hv2 : vals 2 = _ := hVs 2 (by decide)
          have hv3 : vals 3 = _ := hVs 3 (by decide)
          have hv4 : vals 4 = _ := hVs 4 (by decide)
          rw [show (List.filterMap (fun i => Option.map (fun t => (t, vals i)) (dstAt _ i)) (List.range _)) = [(7, .int .i64 ((b : Nat) : Int)), (8, .int .i64 ((a : Nat) : Int)), (9, .int .i64 ((b : Nat) : Int)), (10, .int .i64 ((a % b : Nat) : Int)), (0, .int .i64 ((b : Nat) : Int))] from by
            show [(7, vals 0), (8, vals 1), (9, vals 2), (10, vals 3), (0, vals 4)] = _
            rw [hv0, hv1, hv2, hv3, hv4]]
          refine WA.step [5] (by decide +kernel) rfl ?_
          intro iQ hQ
          simp only [List.mem_cons, List.not_mem_nil, or_false] at hQ
          obtain rfl := hQ
          · refine ⟨_, rfl, ?_⟩
            refine WL.assign rfl rfl ?_
            refine WL.done ?_
            refine WA.done (by decide +kernel) ?_
            refine ⟨(b, a % b), ⟨iv (by omega), iv (by omega), trivial⟩, by (dsimp only; omega), ?_⟩
            exact ⟨hB, by omega, by omega, by rw [← hg, Nat.gcd_comm a b]; rw [Nat.gcd_rec b a, Nat.gcd_comm]⟩
    · refine WL.done ?_
      refine W.condF rfl ?_
      refine W.exit ?_
      refine W.seq ?_
      refine W.region ?_
      refine WL.move rfl rfl ?_
      refine WL.assign rfl rfl ?_
      refine WL.done ?_
      refine W.ret ?_
      refine ⟨_, rfl, ?_⟩
      have hb0 : b = 0 := by omega
      subst hb0
      rw [Nat.gcd_zero_right] at hg
      exact ⟨by rw [hg], hB⟩

theorem rGcd_c {w : World} {X : Int} (hX : -9223372036854775808 ≤ X ∧ X ≤ 9223372036854775807) {Y : Int} (hY : -9223372036854775808 ≤ Y ∧ Y ≤ 9223372036854775807) :
    Calls Try.prog 28 #[.int .i64 X, .int .i64 Y] w fun e w2 => ∃ v, e = .returned v ∧ (fun v w2 => v = .tuple #[.int .i64 (((gcdS X Y).1 : Nat) : Int), .int .i64 (((gcdS X Y).2 : Nat) : Int)] ∧ w.grownBy w2 none) v w2 := by
  have hB := ext_refl w
  refine calls_of_W (vs := [.int .i64 X, .int .i64 Y]) [4, 5] Try.func28 rfl rfl rfl rfl ?_
  refine W.seq ?_
  refine W.region ?_
  refine WL.assign rfl rfl ?_
  refine WL.assign rfl rfl ?_
  refine WL.done ?_
  refine W.seq ?_
  refine W.seq ?_
  refine W.region ?_
  refine WL.move rfl rfl ?_
  refine WL.call Try.func57 rfl Try.nm57 rfl rfl (rsmall_c (by omega)) ?_
  rintro _ w11 ⟨bz1, rfl, hGw11, z1_t, z1_f⟩
  have hB := ext_trans hB hGw11
  rcases bz1 with _ | _
  · have z1 := z1_f rfl
    refine WL.not rfl rfl ?_
    refine WL.move rfl rfl ?_
    refine WL.pass rfl rfl rfl ?_
    refine WL.pass rfl rfl rfl ?_
    refine WL.pass rfl rfl rfl ?_
    refine WL.pick rfl rfl rfl ?_
    refine WL.done ?_
    refine W.condT rfl ?_
    refine W.seq ?_
    refine W.region ?_
    refine WL.assign rfl rfl ?_
    refine WL.assign rfl rfl ?_
    refine WL.done ?_
    refine W.ret ?_
    refine ⟨_, rfl, ?_⟩
    first
    | (rw [gcdS_ok ⟨z1, z2⟩]; exact ⟨rfl, hB⟩)
    | (rw [gcdS_out (fun h => z1 h.1)]; exact ⟨rfl, hB⟩)
    | (rw [gcdS_out (fun h => z2 h.2)]; exact ⟨rfl, hB⟩)
  · have z1 := z1_t rfl
    refine WL.not rfl rfl ?_
    refine WL.move rfl rfl ?_
    refine WL.take rfl ?_
    refine WL.move rfl rfl ?_
    refine WL.take rfl ?_
    refine WL.call Try.func57 rfl Try.nm57 rfl rfl (rsmall_c (by omega)) ?_
    rintro _ w12 ⟨bz2, rfl, hGw12, z2_t, z2_f⟩
    have hB := ext_trans hB hGw12
    rcases bz2 with _ | _
    · have z2 := z2_f rfl
      refine WL.take rfl ?_
      refine WL.not rfl rfl ?_
      refine WL.pick rfl rfl rfl ?_
      refine WL.done ?_
      refine W.condT rfl ?_
      refine W.seq ?_
      refine W.region ?_
      refine WL.assign rfl rfl ?_
      refine WL.assign rfl rfl ?_
      refine WL.done ?_
      refine W.ret ?_
      refine ⟨_, rfl, ?_⟩
      first
      | (rw [gcdS_ok ⟨z1, z2⟩]; exact ⟨rfl, hB⟩)
      | (rw [gcdS_out (fun h => z1 h.1)]; exact ⟨rfl, hB⟩)
      | (rw [gcdS_out (fun h => z2 h.2)]; exact ⟨rfl, hB⟩)
    · have z2 := z2_t rfl
      refine WL.take rfl ?_
      refine WL.not rfl rfl ?_
      refine WL.pick rfl rfl rfl ?_
      refine WL.done ?_
      refine W.condF rfl ?_
      refine W.skip ?_
      refine W.seq ?_
      refine W.region ?_
      refine WL.move rfl rfl ?_
      refine WL.call Try.func59 rfl Try.nm59 rfl rfl (rabs_c (by omega)) ?_
      rintro _ w13 ⟨rfl, hGw13⟩
      have hB := ext_trans hB hGw13
      refine WL.move rfl rfl ?_
      refine WL.call Try.func59 rfl Try.nm59 rfl rfl (rabs_c (by omega)) ?_
      rintro _ w14 ⟨rfl, hGw14⟩
      have hB := ext_trans hB hGw14
      refine WL.call Try.func58 rfl Try.nm58 rfl rfl (rgcd_c (Int.natAbs X) (by omega) (Int.natAbs Y) (by omega) (by omega) (by omega)) ?_
      rintro _ w15 ⟨rfl, hGw15⟩
      have hB := ext_trans hB hGw15
      refine WL.assign rfl rfl ?_
      refine WL.assign rfl rfl ?_
      refine WL.done ?_
      refine W.ret ?_
      refine ⟨_, rfl, ?_⟩
      first
      | (rw [gcdS_ok ⟨z1, z2⟩]; exact ⟨rfl, hB⟩)
      | (rw [gcdS_out (fun h => z1 h.1)]; exact ⟨rfl, hB⟩)
      | (rw [gcdS_out (fun h => z2 h.2)]; exact ⟨rfl, hB⟩)

theorem rinverse_ok {w : World} {X : Int} (hX : -9223372036854775808 ≤ X ∧ X ≤ 9223372036854775807) (n : Nat) {N : Int} (hN : N = n) (hn0 : 0 < n) (hn : n < 2147483648) (x : Nat) (hv : IsInv X n x) :
    Calls Try.prog 62 #[.int .i64 X, .int .i64 N] w fun e w2 => ∃ v, e = .returned v ∧ (fun v w2 => v = .int .i64 ((x : Nat) : Int) ∧ w.grownBy w2 none) v w2 := by
  have he1 := Int.emod_nonneg X (show (n : Int) ≠ 0 by omega)
  have he2 := Int.emod_lt_of_pos X (show (0 : Int) < (n : Nat) by omega)
  have hem := gcd_emod X (show 0 < n by omega)
  have hB := ext_refl w
  refine calls_of_W (vs := [.int .i64 X, .int .i64 N]) [4] Try.func62 rfl rfl rfl rfl ?_
  refine W.seq ?_
  refine W.region ?_
  refine WL.assign rfl rfl ?_
  refine WL.done ?_
  refine W.seq ?_
  refine W.region ?_
  refine WL.move rfl rfl ?_
  refine WL.move rfl rfl ?_
  refine WL.move rfl rfl ?_
  refine WL.call Try.func38 rfl Try.nm38 rfl rfl (rMod_c (by omega) n (by omega) (by omega) (by omega)) ?_
  rintro _ w11 ⟨rfl, hGw11⟩
  have hB := ext_trans hB hGw11
  refine WL.assign rfl rfl ?_
  refine WL.assign rfl rfl ?_
  refine WL.done ?_
  refine W.seq ?_
  refine W.region ?_
  refine WL.assign rfl rfl ?_
  refine WL.assign rfl rfl ?_
  refine WL.done ?_
  refine W.seq ?_
  refine W.block ?_
  refine W.loop (σ := Nat × Nat × Nat × Nat × Int) (fun s w1 => match s with | (a, b, F, S, q) => w.grownBy w1 none ∧ Eu ((X % (n : Int)).toNat) n a b F S q ∧ a < 9223372036854775808 ∧ b < 9223372036854775808 ∧ F ≤ n ∧ S ≤ n) (fun s => match s with | (a, b, F, S, q) => [(1, .int .i64 N), (5, .int .i64 ((a : Nat) : Int)), (6, .int .i64 ((b : Nat) : Int)), (7, .int .i64 (q * (F : Nat))), (8, .int .i64 (-(q * (S : Nat))))]) (fun s => match s with | (a, b, F, S, q) => b) (n, (X % (n : Int)).toNat, 0, 1, -1) ?_ ?_ ?_
  · exact ⟨hB, Eu.start2 (by omega), by omega, by omega, by omega, by omega⟩
  · exact ⟨iv (by omega), iv (by omega), iv (by omega), iv (by omega), iv (by omega), trivial⟩
  · rintro ⟨a, b, F, S, q⟩ w12 ⟨hB, hE, ha, hb, hF, hS⟩
    have hes := hE.sgn
    have er1 := e_range63 (n := F) hes (by omega)
    have er2 := e_range63 (n := S) hes (by omega)
    refine W.seq ?_
    refine W.seq ?_
    refine W.region ?_
    refine WL.move rfl rfl ?_
    refine WL.neq rfl rfl rfl (fun c13 => ?_) (fun c13 => ?_)
    · refine WL.done ?_
      refine W.condT rfl ?_
      refine W.skip ?_
      refine W.block ?_
      refine W.seq ?_
      refine W.region ?_
      refine WL.move rfl rfl ?_
      refine WL.move rfl rfl ?_
      have nq1 : -(q * (S : Int)) = -q * (S : Int) := (Int.neg_mul _ _).symm
      have nq2 : q * ((F + a / b * S : Nat) : Int) = -(-q * ((F + a / b * S : Nat) : Int)) := by rw [Int.neg_mul, Int.neg_neg]
      have hb0 : 0 < b := by omega
      have hml := Nat.mod_lt a hb0
      have hq := hE.quo_bound hb0
      have hbd := hE.bound hb0
      have hdm := Nat.div_add_mod a b
      have hdl := Nat.div_mul_le_self a b
      have er3 := e_range63 (n := a / b * S) hes (by omega)
      have er4 := e_range63 (n := F + a / b * S) hes (by omega)
      refine WL.quo (r := ((a / b : Nat) : Int)) rfl rfl (by omega) (qi64 (by omega) (by omega) (by omega)) rfl ?_
      refine WL.assign rfl rfl ?_
      refine WL.done ?_
      refine W.seq ?_
      refine W.region ?_
      refine WL.move rfl rfl ?_
      refine WL.move rfl rfl ?_
      refine WL.move rfl rfl ?_
      refine WL.move rfl rfl ?_
      refine WL.mul (r := ((a / b * b : Nat) : Int)) rfl rfl (wi64 (by omega) (by omega) (by omega)) rfl ?_
      refine WL.sub (r := ((a % b : Nat) : Int)) rfl rfl (by rw [show ((a : Int) - ((a / b * b : Nat) : Int)) = ((a % b : Nat) : Int) by rw [Nat.mul_comm b] at hdm; omega]; exact wi64 (by omega) (by have := Nat.mod_le a b; omega) rfl) rfl ?_
      refine WL.assign rfl rfl ?_
      refine WL.assign rfl rfl ?_
      refine WL.done ?_
      refine W.region ?_
      refine WL.move rfl rfl ?_
      refine WL.move rfl rfl ?_
      refine WL.move rfl rfl ?_
      refine WL.move rfl rfl ?_
      refine WL.mul (r := (-(q * ((a / b * S : Nat) : Int)))) rfl rfl (by rw [lkA]; exact wi64 (by omega) (by omega) rfl) rfl ?_
      refine WL.sub (r := (q * ((F + a / b * S : Nat) : Int))) rfl rfl (by rw [lkB]; exact wi64 (by omega) (by omega) rfl) rfl ?_
      refine WL.assign rfl rfl ?_
      refine WL.assign rfl rfl ?_
      refine WL.done ?_
      refine ⟨(b, a % b, S, F + a / b * S, -q), ⟨iv (by omega), iv (by omega), iv (by omega), iv (by omega), iv (by omega), trivial⟩, by (dsimp only; omega), ?_⟩
      exact ⟨hB, hE.next (by omega), by omega, by omega, by omega, by omega⟩
    · refine WL.done ?_
      refine W.condF rfl ?_
      refine W.exit ?_
      refine W.seq ?_
      refine W.seq ?_
      refine W.region ?_
      have hb0 : b = 0 := by omega
      subst hb0
      have hga := hE.done
      rw [hem] at hga
      obtain ⟨k, hk⟩ := hE.ca
      have hcp := hv.cop
      refine WL.move rfl rfl ?_
      refine WL.neq rfl rfl rfl (fun c14 => ?_) (fun c14 => ?_)
      · exfalso
        omega
      · refine WL.done ?_
        refine W.condF rfl ?_
        refine W.skip ?_
        refine W.seq ?_
        refine W.region ?_
        refine WL.move rfl rfl ?_
        refine WL.move rfl rfl ?_
        refine WL.call Try.func38 rfl Try.nm38 rfl rfl (rMod_c (by omega) n (by omega) (by omega) (by omega)) ?_
        rintro _ w15 ⟨rfl, hGw15⟩
        have hB := ext_trans hB hGw15
        refine WL.assign rfl rfl ?_
        refine WL.done ?_
        refine W.ret ?_
        refine ⟨_, rfl, ?_⟩
        have hd : (n : Int) ∣ q * F * (X % (n : Int)) - 1 := ⟨k, by rw [Int.toNat_of_nonneg he1] at hk; rw [hk, Int.mul_comm k]; omega⟩
        have h8 := (IsInv.mk' hn0 hd).emod.uniq hv
        exact ⟨by rw [h8], hB⟩

theorem rinverse_none {w : World} {X : Int} (hX : -9223372036854775808 ≤ X ∧ X ≤ 9223372036854775807) (n : Nat) {N : Int} (hN : N = n) (hn0 : 0 < n) (hn : n < 2147483648) (hv : Nat.gcd X.natAbs n ≠ 1) :
    Calls Try.prog 62 #[.int .i64 X, .int .i64 N] w fun e w2 => ∃ v, e = .returned v ∧ (fun v w2 => v = .int .i64 (-1) ∧ w.grownBy w2 none) v w2 := by
  have he1 := Int.emod_nonneg X (show (n : Int) ≠ 0 by omega)
  have he2 := Int.emod_lt_of_pos X (show (0 : Int) < (n : Nat) by omega)
  have hem := gcd_emod X (show 0 < n by omega)
  have hB := ext_refl w
  refine calls_of_W (vs := [.int .i64 X, .int .i64 N]) [4] Try.func62 rfl rfl rfl rfl ?_
  refine W.seq ?_
  refine W.region ?_
  refine WL.assign rfl rfl ?_
  refine WL.done ?_
  refine W.seq ?_
  refine W.region ?_
  refine WL.move rfl rfl ?_
  refine WL.move rfl rfl ?_
  refine WL.move rfl rfl ?_
  refine WL.call Try.func38 rfl Try.nm38 rfl rfl (rMod_c (by omega) n (by omega) (by omega) (by omega)) ?_
  rintro _ w11 ⟨rfl, hGw11⟩
  have hB := ext_trans hB hGw11
  refine WL.assign rfl rfl ?_
  refine WL.assign rfl rfl ?_
  refine WL.done ?_
  refine W.seq ?_
  refine W.region ?_
  refine WL.assign rfl rfl ?_
  refine WL.assign rfl rfl ?_
  refine WL.done ?_
  refine W.seq ?_
  refine W.block ?_
  refine W.loop (σ := Nat × Nat × Nat × Nat × Int) (fun s w1 => match s with | (a, b, F, S, q) => w.grownBy w1 none ∧ Eu ((X % (n : Int)).toNat) n a b F S q ∧ a < 9223372036854775808 ∧ b < 9223372036854775808 ∧ F ≤ n ∧ S ≤ n) (fun s => match s with | (a, b, F, S, q) => [(1, .int .i64 N), (5, .int .i64 ((a : Nat) : Int)), (6, .int .i64 ((b : Nat) : Int)), (7, .int .i64 (q * (F : Nat))), (8, .int .i64 (-(q * (S : Nat))))]) (fun s => match s with | (a, b, F, S, q) => b) (n, (X % (n : Int)).toNat, 0, 1, -1) ?_ ?_ ?_
  · exact ⟨hB, Eu.start2 (by omega), by omega, by omega, by omega, by omega⟩
  · exact ⟨iv (by omega), iv (by omega), iv (by omega), iv (by omega), iv (by omega), trivial⟩
  · rintro ⟨a, b, F, S, q⟩ w12 ⟨hB, hE, ha, hb, hF, hS⟩
    have hes := hE.sgn
    have er1 := e_range63 (n := F) hes (by omega)
    have er2 := e_range63 (n := S) hes (by omega)
    refine W.seq ?_
    refine W.seq ?_
    refine W.region ?_
    refine WL.move rfl rfl ?_
    refine WL.neq rfl rfl rfl (fun c13 => ?_) (fun c13 => ?_)
    · refine WL.done ?_
      refine W.condT rfl ?_
      refine W.skip ?_
      refine W.block ?_
      refine W.seq ?_
      refine W.region ?_
      refine WL.move rfl rfl ?_
      refine WL.move rfl rfl ?_
      have nq1 : -(q * (S : Int)) = -q * (S : Int) := (Int.neg_mul _ _).symm
      have nq2 : q * ((F + a / b * S : Nat) : Int) = -(-q * ((F + a / b * S : Nat) : Int)) := by rw [Int.neg_mul, Int.neg_neg]
      have hb0 : 0 < b := by omega
      have hml := Nat.mod_lt a hb0
      have hq := hE.quo_bound hb0
      have hbd := hE.bound hb0
      have hdm := Nat.div_add_mod a b
      have hdl := Nat.div_mul_le_self a b
      have er3 := e_range63 (n := a / b * S) hes (by omega)
      have er4 := e_range63 (n := F + a / b * S) hes (by omega)
      refine WL.quo (r := ((a / b : Nat) : Int)) rfl rfl (by omega) (qi64 (by omega) (by omega) (by omega)) rfl ?_
      refine WL.assign rfl rfl ?_
      refine WL.done ?_
      refine W.seq ?_
      refine W.region ?_
      refine WL.move rfl rfl ?_
      refine WL.move rfl rfl ?_
      refine WL.move rfl rfl ?_
      refine WL.move rfl rfl ?_
      refine WL.mul (r := ((a / b * b : Nat) : Int)) rfl rfl (wi64 (by omega) (by omega) (by omega)) rfl ?_
      refine WL.sub (r := ((a % b : Nat) : Int)) rfl rfl (by rw [show ((a : Int) - ((a / b * b : Nat) : Int)) = ((a % b : Nat) : Int) by rw [Nat.mul_comm b] at hdm; omega]; exact wi64 (by omega) (by have := Nat.mod_le a b; omega) rfl) rfl ?_
      refine WL.assign rfl rfl ?_
      refine WL.assign rfl rfl ?_
      refine WL.done ?_
      refine W.region ?_
      refine WL.move rfl rfl ?_
      refine WL.move rfl rfl ?_
      refine WL.move rfl rfl ?_
      refine WL.move rfl rfl ?_
      refine WL.mul (r := (-(q * ((a / b * S : Nat) : Int)))) rfl rfl (by rw [lkA]; exact wi64 (by omega) (by omega) rfl) rfl ?_
      refine WL.sub (r := (q * ((F + a / b * S : Nat) : Int))) rfl rfl (by rw [lkB]; exact wi64 (by omega) (by omega) rfl) rfl ?_
      refine WL.assign rfl rfl ?_
      refine WL.assign rfl rfl ?_
      refine WL.done ?_
      refine ⟨(b, a % b, S, F + a / b * S, -q), ⟨iv (by omega), iv (by omega), iv (by omega), iv (by omega), iv (by omega), trivial⟩, by (dsimp only; omega), ?_⟩
      exact ⟨hB, hE.next (by omega), by omega, by omega, by omega, by omega⟩
    · refine WL.done ?_
      refine W.condF rfl ?_
      refine W.exit ?_
      refine W.seq ?_
      refine W.seq ?_
      refine W.region ?_
      have hb0 : b = 0 := by omega
      subst hb0
      have hga := hE.done
      rw [hem] at hga
      obtain ⟨k, hk⟩ := hE.ca
      refine WL.move rfl rfl ?_
      refine WL.neq rfl rfl rfl (fun c14 => ?_) (fun c14 => ?_)
      · refine WL.done ?_
        refine W.condT rfl ?_
        refine W.seq ?_
        refine W.region ?_
        refine WL.assign rfl rfl ?_
        refine WL.done ?_
        refine W.ret ?_
        refine ⟨_, rfl, ?_⟩
        exact ⟨rfl, hB⟩
      · exfalso
        omega

theorem rBezout_c {w : World} {X : Int} (hX : -9223372036854775808 ≤ X ∧ X ≤ 9223372036854775807) {Y : Int} (hY : -9223372036854775808 ≤ Y ∧ Y ≤ 9223372036854775807) (g : Nat) (x y : Int) (er : Nat) (hR : BezR X Y g x y er) :
    Calls Try.prog 30 #[.int .i64 X, .int .i64 Y] w fun e w2 => ∃ v, e = .returned v ∧ (fun v w2 => v = .tuple #[.int .i64 ((g : Nat) : Int), .int .i64 x, .int .i64 y, .int .i64 ((er : Nat) : Int)] ∧ w.grownBy w2 none) v w2 := by
  have hB := ext_refl w
  refine calls_of_W (vs := [.int .i64 X, .int .i64 Y]) [4, 5, 6, 7] Try.func30 rfl rfl rfl rfl ?_
  refine W.seq ?_
  refine W.region ?_
  refine WL.assign rfl rfl ?_
  refine WL.assign rfl rfl ?_
  refine WL.assign rfl rfl ?_
  refine WL.assign rfl rfl ?_
  refine WL.done ?_
  refine W.seq ?_
  refine W.region ?_
  refine WL.move rfl rfl ?_
  refine WL.move rfl rfl ?_
  refine WL.call Try.func28 rfl Try.nm28 rfl rfl (rGcd_c (by omega) (by omega)) ?_
  rintro _ w11 ⟨rfl, hGw11⟩
  have hB := ext_trans hB hGw11
  refine WL.move rfl rfl ?_
  refine WL.extract rfl rfl rfl ?_
  refine WL.extract rfl rfl rfl ?_
  refine WL.assign rfl rfl ?_
  refine WL.assign rfl rfl ?_
  refine WL.done ?_
  refine W.seq ?_
  refine W.seq ?_
  by_cases hrg : (-2147483647 ≤ X ∧ X ≤ 2147483647) ∧ (-2147483647 ≤ Y ∧ Y ≤ 2147483647)
  · refine W.region ?_
    refine WL.move rfl rfl ?_
    have hgs := gcdS_ok hrg
    have hg1 : (gcdS X Y).1 = Nat.gcd X.natAbs Y.natAbs := by rw [hgs]
    have hg2 : (gcdS X Y).2 = 0 := by rw [hgs]
    refine WL.neq rfl rfl rfl (fun c12 => ?_) (fun c12 => ?_)
    · exfalso
      omega
    · refine WL.done ?_
      refine W.condF rfl ?_
      refine W.skip ?_
      refine W.seq ?_
      refine W.seq ?_
      refine W.region ?_
      refine WL.move rfl rfl ?_
      refine WL.eql rfl rfl rfl (fun c13 => ?_) (fun c13 => ?_)
      · refine WL.done ?_
        refine W.condT rfl ?_
        refine W.seq ?_
        refine W.seq ?_
        refine W.region ?_
        refine WL.move rfl rfl ?_
        refine WL.gtr rfl rfl rfl (fun c14 => ?_) (fun c14 => ?_)
        · refine WL.done ?_
          refine W.condT rfl ?_
          refine W.seq ?_
          refine W.region ?_
          refine WL.move rfl rfl ?_
          refine WL.assign rfl rfl ?_
          refine WL.assign rfl rfl ?_
          refine WL.assign rfl rfl ?_
          refine WL.assign rfl rfl ?_
          refine WL.done ?_
          refine W.ret ?_
          refine ⟨_, rfl, ?_⟩
          first
          | (rw [hg1, hgq, her, hx0]; exact ⟨rfl, hB⟩)
          | (rw [hg2]; cases hR with
             | out h => exact ⟨rfl, hB⟩
             | zero h1 h2 => exact absurd ⟨h1, by omega⟩ hrg
             | ok h1 h2 => exact absurd ⟨h1, h2⟩ hrg)
          | (cases hR with
             | out h => exact absurd hrg h
             | ok h1 h2 h3 => omega
             | zero h1 h2 =>
               subst h2
               first
               | (rw [hg1, show Nat.gcd X.natAbs (0 : Int).natAbs = X.natAbs from Nat.gcd_zero_right _, show sgI X = 1 by unfold sgI; rw [if_pos (by omega)]]; exact ⟨rfl, hB⟩)
               | (rw [hg1, show Nat.gcd X.natAbs (0 : Int).natAbs = X.natAbs from Nat.gcd_zero_right _, show sgI X = -1 by unfold sgI; rw [if_neg (by omega), if_pos (by omega)]]; exact ⟨rfl, hB⟩)
               | (have hx0 : X = 0 := by omega
                  subst hx0; exact ⟨rfl, hB⟩))
        · refine WL.done ?_
          refine W.condF rfl ?_
          refine W.skip ?_
          refine W.seq ?_
          refine W.seq ?_
          refine W.region ?_
          refine WL.move rfl rfl ?_
          refine WL.lss rfl rfl rfl (fun c15 => ?_) (fun c15 => ?_)
          · refine WL.done ?_
            refine W.condT rfl ?_
            refine W.seq ?_
            refine W.region ?_
            refine WL.move rfl rfl ?_
            refine WL.assign rfl rfl ?_
            refine WL.assign rfl rfl ?_
            refine WL.assign rfl rfl ?_
            refine WL.assign rfl rfl ?_
            refine WL.done ?_
            refine W.ret ?_
            refine ⟨_, rfl, ?_⟩
            first
            | (rw [hg1, hgq, her, hx0]; exact ⟨rfl, hB⟩)
            | (rw [hg2]; cases hR with
               | out h => exact ⟨rfl, hB⟩
               | zero h1 h2 => exact absurd ⟨h1, by omega⟩ hrg
               | ok h1 h2 => exact absurd ⟨h1, h2⟩ hrg)
            | (cases hR with
               | out h => exact absurd hrg h
               | ok h1 h2 h3 => omega
               | zero h1 h2 =>
                 subst h2
                 first
                 | (rw [hg1, show Nat.gcd X.natAbs (0 : Int).natAbs = X.natAbs from Nat.gcd_zero_right _, show sgI X = 1 by unfold sgI; rw [if_pos (by omega)]]; exact ⟨rfl, hB⟩)
                 | (rw [hg1, show Nat.gcd X.natAbs (0 : Int).natAbs = X.natAbs from Nat.gcd_zero_right _, show sgI X = -1 by unfold sgI; rw [if_neg (by omega), if_pos (by omega)]]; exact ⟨rfl, hB⟩)
                 | (have hx0 : X = 0 := by omega
                    subst hx0; exact ⟨rfl, hB⟩))
          · refine WL.done ?_
            refine W.condF rfl ?_
            refine W.skip ?_
            refine W.seq ?_
            refine W.region ?_
            refine WL.assign rfl rfl ?_
            refine WL.assign rfl rfl ?_
            refine WL.assign rfl rfl ?_
            refine WL.assign rfl rfl ?_
            refine WL.done ?_
            refine W.ret ?_
            refine ⟨_, rfl, ?_⟩
            first
            | (rw [hg1, hgq, her, hx0]; exact ⟨rfl, hB⟩)
            | (rw [hg2]; cases hR with
               | out h => exact ⟨rfl, hB⟩
               | zero h1 h2 => exact absurd ⟨h1, by omega⟩ hrg
               | ok h1 h2 => exact absurd ⟨h1, h2⟩ hrg)
            | (cases hR with
               | out h => exact absurd hrg h
               | ok h1 h2 h3 => omega
               | zero h1 h2 =>
                 subst h2
                 first
                 | (rw [hg1, show Nat.gcd X.natAbs (0 : Int).natAbs = X.natAbs from Nat.gcd_zero_right _, show sgI X = 1 by unfold sgI; rw [if_pos (by omega)]]; exact ⟨rfl, hB⟩)
                 | (rw [hg1, show Nat.gcd X.natAbs (0 : Int).natAbs = X.natAbs from Nat.gcd_zero_right _, show sgI X = -1 by unfold sgI; rw [if_neg (by omega), if_pos (by omega)]]; exact ⟨rfl, hB⟩)
                 | (have hx0 : X = 0 := by omega
                    subst hx0; exact ⟨rfl, hB⟩))
      · refine WL.done ?_
        refine W.condF rfl ?_
        refine W.skip ?_
        refine W.seq ?_
        obtain ⟨hgq, her, hx0, hxx, hgl, hyq, hyr, hbz⟩ := bez_fin2 (show Y ≠ 0 by omega) hrg.1 hrg.2 hR; have hgp : 0 < Nat.gcd X.natAbs Y.natAbs := Nat.gcd_pos_of_pos_right _ (by omega); have hbi := bez_inv (show Y ≠ 0 by omega) hbz; rw [hgq] at hbi; have hyd := Nat.div_le_self Y.natAbs (Nat.gcd X.natAbs Y.natAbs); have hyp : 0 < Y.natAbs / Nat.gcd X.natAbs Y.natAbs := Nat.div_gcd_pos_of_pos_right _ (by omega); have htd := Int.natAbs_tdiv X ((Nat.gcd X.natAbs Y.natAbs : Nat) : Int); rw [Int.natAbs_natCast] at htd; replace htd : (X.tdiv ((Nat.gcd X.natAbs Y.natAbs : Nat) : Int)).natAbs = X.natAbs / Nat.gcd X.natAbs Y.natAbs := htd; have htl := Nat.div_le_self X.natAbs (Nat.gcd X.natAbs Y.natAbs)
        · refine W.drawT 7 [⟨[], [0], true⟩, ⟨[], [8], true⟩, ⟨[0, 1], [], true⟩, ⟨[], [1], true⟩, ⟨[3], [], false⟩, ⟨[], [8], true⟩, ⟨[4, 5], [], true⟩] [[(0, .int .i64 X)], [(8, .int .i64 (((gcdS X Y).1 : Nat) : Int))], [], [(1, .int .i64 Y)], [], [(8, .int .i64 (((gcdS X Y).1 : Nat) : Int))], []] (fun iQ => [fun v wQ => v = .int .i64 X, fun v wQ => v = .int .i64 (((gcdS X Y).1 : Nat) : Int), fun v wQ => v = .int .i64 (X.tdiv ((Nat.gcd X.natAbs Y.natAbs : Nat) : Int)), fun v wQ => v = .int .i64 Y, fun v wQ => v = .int .i64 ((Int.natAbs Y : Nat) : Int), fun v wQ => v = .int .i64 (((gcdS X Y).1 : Nat) : Int), fun v wQ => v = .int .i64 ((Y.natAbs / Nat.gcd X.natAbs Y.natAbs : Nat) : Int)].getD iQ (fun _ _ => True)) Try.mixed (by kernel_rfl) ?_ ?_ ?_
          · refine Vs_monoT _ ?_
            intro VQ hVQ vQ wQ1 wQ2 hQ1 hQ2
            simp only [List.mem_cons, List.not_mem_nil, or_false] at hVQ
            rcases hVQ with rfl | rfl | rfl | rfl | rfl | rfl | rfl
            · exact hQ1
            · exact hQ1
            · exact hQ1
            · exact hQ1
            · exact hQ1
            · exact hQ1
            · exact hQ1
          · refine ⟨⟨rfl, ⟨rfl, trivial⟩, ?_⟩, ⟨rfl, ⟨rfl, trivial⟩, ?_⟩, ⟨rfl, trivial, ?_⟩, ⟨rfl, ⟨rfl, trivial⟩, ?_⟩, ⟨rfl, trivial, ?_⟩, ⟨rfl, ⟨rfl, trivial⟩, ?_⟩, ⟨rfl, trivial, ?_⟩, trivial⟩
            · intro w16 hE
              intro R
              refine WL.move rfl rfl ?_
              exact WL.done ⟨_, rfl, rfl, rfl⟩
            · intro w17 hE
              intro R
              refine WL.move rfl rfl ?_
              exact WL.done ⟨_, rfl, rfl, rfl⟩
            · intro w18 hE
              rintro _ rfl
              rintro _ rfl
              intro R
              refine WL.quo (r := (X.tdiv ((Nat.gcd X.natAbs Y.natAbs : Nat) : Int))) rfl rfl (by omega) (by rw [hg1]; exact wi64 (by omega) (by omega) rfl) rfl ?_
              exact WL.done ⟨_, rfl, rfl, rfl⟩
            · intro w19 hE
              intro R
              refine WL.move rfl rfl ?_
              exact WL.done ⟨_, rfl, rfl, rfl⟩
            · intro w20 hE
              have hE := hE rfl
              have hB := ext_trans hB hE
              rintro _ rfl
              intro R
              refine WL.call Try.func59 rfl Try.nm59 rfl rfl (rabs_c (by omega)) ?_
              rintro _ w21 ⟨rfl, hGw21⟩
              have hB := ext_trans hB hGw21
              exact WL.done ⟨_, rfl, hGw21, rfl⟩
            · intro w22 hE
              intro R
              refine WL.move rfl rfl ?_
              exact WL.done ⟨_, rfl, rfl, rfl⟩
            · intro w23 hE
              rintro _ rfl
              rintro _ rfl
              intro R
              refine WL.quo (r := ((Y.natAbs / Nat.gcd X.natAbs Y.natAbs : Nat) : Int)) rfl rfl (by omega) (by rw [hg1]; exact qi64 (by omega) (by omega) (by omega)) rfl ?_
              exact WL.done ⟨_, rfl, rfl, rfl⟩
          · intro vals w24 hT hVs
            have hB := ext_trans hB hT
            have hv0 : vals 0 = _ := hVs 0 (by decide)
            have hv1 : vals 1 = _ := hVs 1 (by decide)
            have hv2 : vals 2 = _ := hVs 2 (by decide)
            have hv3 : vals 3 = _ := hVs 3 (by decide)
            have hv4 : vals 4 = _ := hVs 4 (by decide)
            have hv5 : vals 5 = _ := hVs 5 (by decide)
            have hv6 : vals 6 = _ := hVs 6 (by decide)
            rw [show (List.filterMap (fun i => Option.map (fun t => (t, vals i)) (dstAt _ i)) (List.range _)) = [(28, .int .i64 X), (29, .int .i64 (((gcdS X Y).1 : Nat) : Int)), (30, .int .i64 (X.tdiv ((Nat.gcd X.natAbs Y.natAbs : Nat) : Int))), (31, .int .i64 Y), (32, .int .i64 ((Int.natAbs Y : Nat) : Int)), (33, .int .i64 (((gcdS X Y).1 : Nat) : Int)), (34, .int .i64 ((Y.natAbs / Nat.gcd X.natAbs Y.natAbs : Nat) : Int))] from by
              show [(28, vals 0), (29, vals 1), (30, vals 2), (31, vals 3), (32, vals 4), (33, vals 5), (34, vals 6)] = _
              rw [hv0, hv1, hv2, hv3, hv4, hv5, hv6]]
            refine WA.step [7] (by decide +kernel) rfl ?_
            intro iQ hQ
            simp only [List.mem_cons, List.not_mem_nil, or_false] at hQ
            obtain rfl := hQ
            · refine ⟨_, rfl, ?_⟩
              refine WL.call Try.func62 rfl Try.nm62 rfl rfl (rinverse_ok (by omega) (Y.natAbs / Nat.gcd X.natAbs Y.natAbs) (by omega) (by omega) (by omega) x.toNat hbi) ?_
              rintro _ w25 ⟨rfl, hGw25⟩
              have hB := ext_trans hB hGw25
              refine WL.done ?_
              refine WA.step [8] (by decide +kernel) rfl ?_
              intro iQ hQ
              simp only [List.mem_cons, List.not_mem_nil, or_false] at hQ
              obtain rfl := hQ
              · refine ⟨_, rfl, ?_⟩
                refine WL.assign rfl rfl ?_
                refine WL.done ?_
                refine WA.done (by decide +kernel) ?_
                refine W.seq ?_
                refine W.drawT 11 [⟨[], [8], true⟩, ⟨[], [10], true⟩, ⟨[], [8], true⟩, ⟨[], [0], true⟩, ⟨[], [10], true⟩, ⟨[3, 4], [], true⟩, ⟨[2, 5], [], true⟩, ⟨[], [1], true⟩, ⟨[6, 7], [], true⟩, ⟨[0], [], true⟩, ⟨[1], [], true⟩] [[(8, .int .i64 (((gcdS X Y).1 : Nat) : Int))], [(10, .int .i64 ((x.toNat : Nat) : Int))], [(8, .int .i64 (((gcdS X Y).1 : Nat) : Int))], [(0, .int .i64 X)], [(10, .int .i64 ((x.toNat : Nat) : Int))], [], [], [(1, .int .i64 Y)], [], [], []] (fun iQ => [fun v wQ => v = .int .i64 (((gcdS X Y).1 : Nat) : Int), fun v wQ => v = .int .i64 ((x.toNat : Nat) : Int), fun v wQ => v = .int .i64 (((gcdS X Y).1 : Nat) : Int), fun v wQ => v = .int .i64 X, fun v wQ => v = .int .i64 ((x.toNat : Nat) : Int), fun v wQ => v = .int .i64 (X * x), fun v wQ => v = .int .i64 ((g : Int) - X * x), fun v wQ => v = .int .i64 Y, fun v wQ => v = .int .i64 y, fun v wQ => v = .int .i64 (((gcdS X Y).1 : Nat) : Int), fun v wQ => v = .int .i64 ((x.toNat : Nat) : Int)].getD iQ (fun _ _ => True)) Try.mixed (by kernel_rfl) ?_ ?_ ?_
                · refine Vs_monoT _ ?_
                  intro VQ hVQ vQ wQ1 wQ2 hQ1 hQ2
                  simp only [List.mem_cons, List.not_mem_nil, or_false] at hVQ
                  rcases hVQ with rfl | rfl | rfl | rfl | rfl | rfl | rfl | rfl | rfl | rfl | rfl
                  · exact hQ1
                  · exact hQ1
                  · exact hQ1
                  · exact hQ1
                  · exact hQ1
                  · exact hQ1
                  · exact hQ1
                  · exact hQ1
                  · exact hQ1
                  · exact hQ1
                  · exact hQ1
                · refine ⟨⟨rfl, ⟨rfl, trivial⟩, ?_⟩, ⟨rfl, ⟨rfl, trivial⟩, ?_⟩, ⟨rfl, ⟨rfl, trivial⟩, ?_⟩, ⟨rfl, ⟨rfl, trivial⟩, ?_⟩, ⟨rfl, ⟨rfl, trivial⟩, ?_⟩, ⟨rfl, trivial, ?_⟩, ⟨rfl, trivial, ?_⟩, ⟨rfl, ⟨rfl, trivial⟩, ?_⟩, ⟨rfl, trivial, ?_⟩, ⟨rfl, trivial, ?_⟩, ⟨rfl, trivial, ?_⟩, trivial⟩
                  · intro w26 hE
                    intro R
                    refine WL.move rfl rfl ?_
                    exact WL.done ⟨_, rfl, rfl, rfl⟩
                  · intro w27 hE
                    intro R
                    refine WL.move rfl rfl ?_
                    exact WL.done ⟨_, rfl, rfl, rfl⟩
                  · intro w28 hE
                    intro R
                    refine WL.move rfl rfl ?_
                    exact WL.done ⟨_, rfl, rfl, rfl⟩
                  · intro w29 hE
                    intro R
                    refine WL.move rfl rfl ?_
                    exact WL.done ⟨_, rfl, rfl, rfl⟩
                  · intro w30 hE
                    intro R
                    refine WL.move rfl rfl ?_
                    exact WL.done ⟨_, rfl, rfl, rfl⟩
                  · intro w31 hE
                    rintro _ rfl
                    rintro _ rfl
                    intro R
                    refine WL.mul (r := (X * x)) rfl rfl (by rw [hx0]; exact wi64 (by omega) (by omega) rfl) rfl ?_
                    exact WL.done ⟨_, rfl, rfl, rfl⟩
                  · intro w32 hE
                    rintro _ rfl
                    rintro _ rfl
                    intro R
                    refine WL.sub (r := ((g : Int) - X * x)) rfl rfl (by rw [hg1, ← hgq]; exact wi64 (by omega) (by omega) rfl) rfl ?_
                    exact WL.done ⟨_, rfl, rfl, rfl⟩
                  · intro w33 hE
                    intro R
                    refine WL.move rfl rfl ?_
                    exact WL.done ⟨_, rfl, rfl, rfl⟩
                  · intro w34 hE
                    rintro _ rfl
                    rintro _ rfl
                    intro R
                    refine WL.quo (r := y) rfl rfl (by omega) (by rw [hyq]; exact wi64 (by omega) (by omega) rfl) rfl ?_
                    exact WL.done ⟨_, rfl, rfl, rfl⟩
                  · intro w35 hE
                    rintro _ rfl
                    intro R
                    refine WL.assign rfl rfl ?_
                    exact WL.done ⟨_, rfl, rfl, rfl⟩
                  · intro w36 hE
                    rintro _ rfl
                    intro R
                    refine WL.assign rfl rfl ?_
                    exact WL.done ⟨_, rfl, rfl, rfl⟩
                · intro vals w37 hT hVs
                  have hB := ext_trans hB hT
                  have hv0 : vals 0 = _ := hVs 0 (by decide)
                  have hv1 : vals 1 = _ := hVs 1 (by decide)
                  have hv2 : vals 2 = _ := hVs 2 (by decide)
                  have hv3 : vals 3 = _ := hVs 3 (by decide)
                  have hv4 : vals 4 = _ := hVs 4 (by decide)
                  have hv5 : vals 5 = _ := hVs 5 (by decide)
                  have hv6 : vals 6 = _ := hVs 6 (by decide)
                  have hv7 : vals 7 = _ := hVs 7 (by decide)
                  have hv8 : vals 8 = _ := hVs 8 (by decide)
                  have hv9 : vals 9 = _ := hVs 9 (by decide)
                  have hv10 : vals 10 = _ := hVs 10 (by decide)
                  rw [show (List.filterMap (fun i => Option.map (fun t => (t, vals i)) (dstAt _ i)) (List.range _)) = [(36, .int .i64 (((gcdS X Y).1 : Nat) : Int)), (37, .int .i64 ((x.toNat : Nat) : Int)), (38, .int .i64 (((gcdS X Y).1 : Nat) : Int)), (39, .int .i64 X), (40, .int .i64 ((x.toNat : Nat) : Int)), (41, .int .i64 (X * x)), (42, .int .i64 ((g : Int) - X * x)), (43, .int .i64 Y), (44, .int .i64 y), (4, .int .i64 (((gcdS X Y).1 : Nat) : Int)), (5, .int .i64 ((x.toNat : Nat) : Int))] from by
                    show [(36, vals 0), (37, vals 1), (38, vals 2), (39, vals 3), (40, vals 4), (41, vals 5), (42, vals 6), (43, vals 7), (44, vals 8), (4, vals 9), (5, vals 10)] = _
                    rw [hv0, hv1, hv2, hv3, hv4, hv5, hv6, hv7, hv8, hv9, hv10]]
                  refine WA.step [11] (by decide +kernel) rfl ?_
                  intro iQ hQ
                  simp only [List.mem_cons, List.not_mem_nil, or_false] at hQ
                  obtain rfl := hQ
                  · refine ⟨_, rfl, ?_⟩
                    refine WL.assign rfl rfl ?_
                    refine WL.done ?_
                    refine WA.step [12] (by decide +kernel) rfl ?_
                    intro iQ hQ
                    simp only [List.mem_cons, List.not_mem_nil, or_false] at hQ
                    obtain rfl := hQ
                    · refine ⟨_, rfl, ?_⟩
                      refine WL.assign rfl rfl ?_
                      refine WL.done ?_
                      refine WA.done (by decide +kernel) ?_
                      refine W.ret ?_
                      refine ⟨_, rfl, ?_⟩
                      first
                      | (rw [hg1, hgq, her, hx0]; exact ⟨rfl, hB⟩)
                      | (rw [hg2]; cases hR with
                         | out h => exact ⟨rfl, hB⟩
                         | zero h1 h2 => exact absurd ⟨h1, by omega⟩ hrg
                         | ok h1 h2 => exact absurd ⟨h1, h2⟩ hrg)
                      | (cases hR with
                         | out h => exact absurd hrg h
                         | ok h1 h2 h3 => omega
                         | zero h1 h2 =>
                           subst h2
                           first
                           | (rw [hg1, show Nat.gcd X.natAbs (0 : Int).natAbs = X.natAbs from Nat.gcd_zero_right _, show sgI X = 1 by unfold sgI; rw [if_pos (by omega)]]; exact ⟨rfl, hB⟩)
                           | (rw [hg1, show Nat.gcd X.natAbs (0 : Int).natAbs = X.natAbs from Nat.gcd_zero_right _, show sgI X = -1 by unfold sgI; rw [if_neg (by omega), if_pos (by omega)]]; exact ⟨rfl, hB⟩)
                           | (have hx0 : X = 0 := by omega
                              subst hx0; exact ⟨rfl, hB⟩))
  · refine W.region ?_
    refine WL.move rfl rfl ?_
    have hgs := gcdS_out hrg
    have hg2 : (gcdS X Y).2 = 6 := by rw [hgs]
    refine WL.neq rfl rfl rfl (fun c38 => ?_) (fun c38 => ?_)
    · refine WL.done ?_
      refine W.condT rfl ?_
      refine W.seq ?_
      refine W.region ?_
      refine WL.move rfl rfl ?_
      refine WL.assign rfl rfl ?_
      refine WL.assign rfl rfl ?_
      refine WL.assign rfl rfl ?_
      refine WL.assign rfl rfl ?_
      refine WL.done ?_
      refine W.ret ?_
      refine ⟨_, rfl, ?_⟩
      first
      | (rw [hg1, hgq, her, hx0]; exact ⟨rfl, hB⟩)
      | (rw [hg2]; cases hR with
         | out h => exact ⟨rfl, hB⟩
         | zero h1 h2 => exact absurd ⟨h1, by omega⟩ hrg
         | ok h1 h2 => exact absurd ⟨h1, h2⟩ hrg)
      | (cases hR with
         | out h => exact absurd hrg h
         | ok h1 h2 h3 => omega
         | zero h1 h2 =>
           subst h2
           first
           | (rw [hg1, show Nat.gcd X.natAbs (0 : Int).natAbs = X.natAbs from Nat.gcd_zero_right _, show sgI X = 1 by unfold sgI; rw [if_pos (by omega)]]; exact ⟨rfl, hB⟩)
           | (rw [hg1, show Nat.gcd X.natAbs (0 : Int).natAbs = X.natAbs from Nat.gcd_zero_right _, show sgI X = -1 by unfold sgI; rw [if_neg (by omega), if_pos (by omega)]]; exact ⟨rfl, hB⟩)
           | (have hx0 : X = 0 := by omega
              subst hx0; exact ⟨rfl, hB⟩))
    · exfalso
      omega

theorem rInverse_c {w : World} {X : Int} (hX : -9223372036854775808 ≤ X ∧ X ≤ 9223372036854775807) {Y : Int} (hY : -9223372036854775808 ≤ Y ∧ Y ≤ 9223372036854775807) (x er : Nat) (hR : InvR X Y x er) :
    Calls Try.prog 32 #[.int .i64 X, .int .i64 Y] w fun e w2 => ∃ v, e = .returned v ∧ (fun v w2 => v = .tuple #[.int .i64 ((x : Nat) : Int), .int .i64 ((er : Nat) : Int)] ∧ w.grownBy w2 none) v w2 := by
  have hB := ext_refl w
  refine calls_of_W (vs := [.int .i64 X, .int .i64 Y]) [4, 5] Try.func32 rfl rfl rfl rfl ?_
  refine W.seq ?_
  refine W.region ?_
  refine WL.assign rfl rfl ?_
  refine WL.assign rfl rfl ?_
  refine WL.done ?_
  refine W.seq ?_
  refine W.seq ?_
  refine W.region ?_
  refine WL.move rfl rfl ?_
  refine WL.call Try.func50 rfl Try.nm50 rfl rfl (rin_c (by omega)) ?_
  rintro _ w11 ⟨bz, rfl, hGw11, z_t, z_f⟩
  have hB := ext_trans hB hGw11
  rcases bz with _ | _
  · have z := z_f rfl
    refine WL.not rfl rfl ?_
    refine WL.done ?_
    refine W.condT rfl ?_
    refine W.seq ?_
    refine W.region ?_
    refine WL.assign rfl rfl ?_
    refine WL.assign rfl rfl ?_
    refine WL.done ?_
    refine W.ret ?_
    refine ⟨_, rfl, ?_⟩
    first
    | (cases hR with
       | out h => exact ⟨rfl, hB⟩
       | none h1 h2 => exact absurd h1 z
       | ok h1 h2 => exact absurd h1 z)
    | (cases hR with
       | out h => exact absurd z h
       | none h1 h2 => first | exact ⟨rfl, hB⟩ | exact absurd hgc h2
       | ok h1 h2 => first | exact ⟨rfl, hB⟩ | exact absurd h2.cop hgc | (exfalso; omega))
  · have z := z_t rfl
    refine WL.not rfl rfl ?_
    refine WL.done ?_
    refine W.condF rfl ?_
    refine W.skip ?_
    refine W.seq ?_
    by_cases hgc : Nat.gcd X.natAbs Y.toNat = 1
    · refine W.region ?_
      refine WL.move rfl rfl ?_
      refine WL.move rfl rfl ?_
      have hiv : IsInv X Y.toNat x := (by cases hR with
      | out h => exact absurd z h
      | none h1 h2 => exact absurd hgc h2
      | ok h1 h2 => exact h2)
      refine WL.call Try.func62 rfl Try.nm62 rfl rfl (rinverse_ok (by omega) Y.toNat (by omega) (by omega) (by omega) x hiv) ?_
      rintro _ w12 ⟨rfl, hGw12⟩
      have hB := ext_trans hB hGw12
      refine WL.assign rfl rfl ?_
      refine WL.done ?_
      refine W.seq ?_
      refine W.seq ?_
      refine W.region ?_
      refine WL.move rfl rfl ?_
      refine WL.lss rfl rfl rfl (fun c13 => ?_) (fun c13 => ?_)
      · refine WL.done ?_
        refine W.condT rfl ?_
        refine W.seq ?_
        refine W.region ?_
        refine WL.assign rfl rfl ?_
        refine WL.assign rfl rfl ?_
        refine WL.done ?_
        refine W.ret ?_
        refine ⟨_, rfl, ?_⟩
        first
        | (cases hR with
           | out h => exact ⟨rfl, hB⟩
           | none h1 h2 => exact absurd h1 z
           | ok h1 h2 => exact absurd h1 z)
        | (cases hR with
           | out h => exact absurd z h
           | none h1 h2 => first | exact ⟨rfl, hB⟩ | exact absurd hgc h2
           | ok h1 h2 => first | exact ⟨rfl, hB⟩ | exact absurd h2.cop hgc | (exfalso; omega))
      · refine WL.done ?_
        refine W.condF rfl ?_
        refine W.skip ?_
        refine W.seq ?_
        refine W.region ?_
        refine WL.move rfl rfl ?_
        refine WL.assign rfl rfl ?_
        refine WL.assign rfl rfl ?_
        refine WL.done ?_
        refine W.ret ?_
        refine ⟨_, rfl, ?_⟩
        first
        | (cases hR with
           | out h => exact ⟨rfl, hB⟩
           | none h1 h2 => exact absurd h1 z
           | ok h1 h2 => exact absurd h1 z)
        | (cases hR with
           | out h => exact absurd z h
           | none h1 h2 => first | exact ⟨rfl, hB⟩ | exact absurd hgc h2
           | ok h1 h2 => first | exact ⟨rfl, hB⟩ | exact absurd h2.cop hgc | (exfalso; omega))
    · refine W.region ?_
      refine WL.move rfl rfl ?_
      refine WL.move rfl rfl ?_
      refine WL.call Try.func62 rfl Try.nm62 rfl rfl (rinverse_none (by omega) Y.toNat (by omega) (by omega) (by omega) hgc) ?_
      rintro _ w14 ⟨rfl, hGw14⟩
      have hB := ext_trans hB hGw14
      refine WL.assign rfl rfl ?_
      refine WL.done ?_
      refine W.seq ?_
      refine W.seq ?_
      refine W.region ?_
      refine WL.move rfl rfl ?_
      refine WL.lss rfl rfl rfl (fun c15 => ?_) (fun c15 => ?_)
      · refine WL.done ?_
        refine W.condT rfl ?_
        refine W.seq ?_
        refine W.region ?_
        refine WL.assign rfl rfl ?_
        refine WL.assign rfl rfl ?_
        refine WL.done ?_
        refine W.ret ?_
        refine ⟨_, rfl, ?_⟩
        first
        | (cases hR with
           | out h => exact ⟨rfl, hB⟩
           | none h1 h2 => exact absurd h1 z
           | ok h1 h2 => exact absurd h1 z)
        | (cases hR with
           | out h => exact absurd z h
           | none h1 h2 => first | exact ⟨rfl, hB⟩ | exact absurd hgc h2
           | ok h1 h2 => first | exact ⟨rfl, hB⟩ | exact absurd h2.cop hgc | (exfalso; omega))
      · exfalso
        omega

theorem rpower_c {w : World} {X : Int} (hX : -9223372036854775808 ≤ X ∧ X ≤ 9223372036854775807) (t : Nat) {Y : Int} (hY : Y = t) (n : Nat) {Z : Int} (hZ : Z = n) (ht : t < 9223372036854775808) (hn0 : 0 < n) (hn : n < 2147483648) :
    Calls Try.prog 64 #[.int .i64 X, .int .i64 Y, .int .i64 Z] w fun e w2 => ∃ v, e = .returned v ∧ (fun v w2 => v = .int .i64 (((X % (n : Int)).toNat ^ t % n : Nat) : Int) ∧ w.grownBy w2 none) v w2 := by
  have he1 := Int.emod_nonneg X (show (n : Int) ≠ 0 by omega)
  have he2 := Int.emod_lt_of_pos X (show (0 : Int) < (n : Nat) by omega)
  have hem := gcd_emod X (show 0 < n by omega)
  have hB := ext_refl w
  refine calls_of_W (vs := [.int .i64 X, .int .i64 Y, .int .i64 Z]) [6] Try.func64 rfl rfl rfl rfl ?_
  refine W.seq ?_
  refine W.region ?_
  refine WL.assign rfl rfl ?_
  refine WL.done ?_
  refine W.seq ?_
  refine W.region ?_
  refine WL.move rfl rfl ?_
  refine WL.move rfl rfl ?_
  refine WL.call Try.func38 rfl Try.nm38 rfl rfl (rMod_c (by omega) n (by omega) (by omega) (by omega)) ?_
  rintro _ w11 ⟨rfl, hGw11⟩
  have hB := ext_trans hB hGw11
  refine WL.assign rfl rfl ?_
  refine WL.done ?_
  refine W.seq ?_
  refine W.region ?_
  refine WL.move rfl rfl ?_
  refine WL.call Try.func38 rfl Try.nm38 rfl rfl (rMod_c (by omega) n (by omega) (by omega) (by omega)) ?_
  rintro _ w12 ⟨rfl, hGw12⟩
  have hB := ext_trans hB hGw12
  rw [show ((1 : Int) % (n : Int)).toNat = 1 % n from rfl]
  refine WL.assign rfl rfl ?_
  refine WL.done ?_
  refine W.seq ?_
  refine W.block ?_
  refine W.loop (σ := Nat × Nat × Nat) (fun s w1 => match s with | (x, k, r) => w.grownBy w1 none ∧ x < n ∧ k < 9223372036854775808 ∧ r < n ∧ (r * x ^ k) % n = (X % (n : Int)).toNat ^ t % n) (fun s => match s with | (x, k, r) => [(1, .int .i64 ((k : Nat) : Int)), (2, .int .i64 Z), (7, .int .i64 ((x : Nat) : Int)), (8, .int .i64 ((r : Nat) : Int))]) (fun s => match s with | (x, k, r) => k) ((X % (n : Int)).toNat, t, 1 % n) ?_ ?_ ?_
  · exact ⟨hB, by omega, ht, Nat.mod_lt _ (by omega), by rw [Nat.mod_mul_mod, Nat.one_mul]⟩
  · exact ⟨iv (by omega), iv (by omega), iv (by omega), iv (by omega), trivial⟩
  · rintro ⟨x, k, r⟩ w13 ⟨hB, hx, hk, hr, hpw⟩
    have hxx : x * x < 4611686018427387904 := Nat.lt_of_le_of_lt (Nat.mul_le_mul (show x ≤ 2147483647 by omega) (show x ≤ 2147483647 by omega)) (by decide)
    have hrx : r * x < 4611686018427387904 := Nat.lt_of_le_of_lt (Nat.mul_le_mul (show r ≤ 2147483647 by omega) (show x ≤ 2147483647 by omega)) (by decide)
    refine W.seq ?_
    refine W.seq ?_
    refine W.region ?_
    refine WL.move rfl rfl ?_
    refine WL.gtr rfl rfl rfl (fun c14 => ?_) (fun c14 => ?_)
    · refine WL.done ?_
      refine W.condT rfl ?_
      refine W.skip ?_
      refine W.block ?_
      refine W.seq ?_
      refine W.seq ?_
      refine W.region ?_
      refine WL.move rfl rfl ?_
      refine WL.rem (r := ((k % 2 : Nat) : Int)) rfl rfl (by omega) (tmod_nat (by omega) (by omega)) rfl ?_
      refine WL.eql rfl rfl rfl (fun c15 => ?_) (fun c15 => ?_)
      · refine WL.done ?_
        refine W.condT rfl ?_
        refine W.region ?_
        refine WL.move rfl rfl ?_
        refine WL.move rfl rfl ?_
        refine WL.mul (r := ((r * x : Nat) : Int)) rfl rfl (wi64 (by omega) (by omega) (by omega)) rfl ?_
        refine WL.move rfl rfl ?_
        refine WL.rem (r := (((r * x) % n : Nat) : Int)) rfl rfl (by omega) (tmod_nat (by omega) (by omega)) rfl ?_
        refine WL.assign rfl rfl ?_
        refine WL.done ?_
        refine W.seq ?_
        refine W.region ?_
        refine WL.move rfl rfl ?_
        refine WL.move rfl rfl ?_
        refine WL.mul (r := ((x * x : Nat) : Int)) rfl rfl (wi64 (by omega) (by omega) (by omega)) rfl ?_
        refine WL.move rfl rfl ?_
        refine WL.rem (r := (((x * x) % n : Nat) : Int)) rfl rfl (by omega) (tmod_nat (by omega) (by omega)) rfl ?_
        refine WL.assign rfl rfl ?_
        refine WL.done ?_
        refine W.region ?_
        refine WL.move rfl rfl ?_
        refine WL.quo (r := ((k / 2 : Nat) : Int)) rfl rfl (by omega) (qi64 (by omega) (by omega) (by omega)) rfl ?_
        refine WL.assign rfl rfl ?_
        refine WL.done ?_
        refine ⟨(x * x % n, k / 2, r * x % n), ⟨iv (by omega), iv (by omega), iv (by omega), iv (by omega), trivial⟩, by (dsimp only; omega), ?_⟩
        exact ⟨hB, Nat.mod_lt _ (by omega), by omega, Nat.mod_lt _ (by omega), by rw [pow_odd (by omega)]; exact hpw⟩
      · refine WL.done ?_
        refine W.condF rfl ?_
        refine W.skip ?_
        refine W.seq ?_
        refine W.region ?_
        refine WL.move rfl rfl ?_
        refine WL.move rfl rfl ?_
        refine WL.mul (r := ((x * x : Nat) : Int)) rfl rfl (wi64 (by omega) (by omega) (by omega)) rfl ?_
        refine WL.move rfl rfl ?_
        refine WL.rem (r := (((x * x) % n : Nat) : Int)) rfl rfl (by omega) (tmod_nat (by omega) (by omega)) rfl ?_
        refine WL.assign rfl rfl ?_
        refine WL.done ?_
        refine W.region ?_
        refine WL.move rfl rfl ?_
        refine WL.quo (r := ((k / 2 : Nat) : Int)) rfl rfl (by omega) (qi64 (by omega) (by omega) (by omega)) rfl ?_
        refine WL.assign rfl rfl ?_
        refine WL.done ?_
        refine ⟨(x * x % n, k / 2, r), ⟨iv (by omega), iv (by omega), iv (by omega), iv (by omega), trivial⟩, by (dsimp only; omega), ?_⟩
        exact ⟨hB, Nat.mod_lt _ (by omega), by omega, hr, by rw [pow_even (by omega)]; exact hpw⟩
    · refine WL.done ?_
      refine W.condF rfl ?_
      refine W.exit ?_
      refine W.seq ?_
      refine W.region ?_
      refine WL.move rfl rfl ?_
      refine WL.assign rfl rfl ?_
      refine WL.done ?_
      refine W.ret ?_
      refine ⟨_, rfl, ?_⟩
      have hk0 : k = 0 := by omega
      subst hk0
      rw [Nat.pow_zero, Nat.mul_one, Nat.mod_eq_of_lt hr] at hpw
      exact ⟨by rw [← hpw], hB⟩

theorem rPower_c {w : World} {X : Int} (hX : -9223372036854775808 ≤ X ∧ X ≤ 9223372036854775807) {Y : Int} (hY : -9223372036854775808 ≤ Y ∧ Y ≤ 9223372036854775807) {Z : Int} (hZ : -9223372036854775808 ≤ Z ∧ Z ≤ 9223372036854775807) :
    Calls Try.prog 34 #[.int .i64 X, .int .i64 Y, .int .i64 Z] w fun e w2 => ∃ v, e = .returned v ∧ (fun v w2 => v = .tuple #[.int .i64 (((powS X Y Z).1 : Nat) : Int), .int .i64 (((powS X Y Z).2 : Nat) : Int)] ∧ w.grownBy w2 none) v w2 := by
  have hB := ext_refl w
  refine calls_of_W (vs := [.int .i64 X, .int .i64 Y, .int .i64 Z]) [6, 7] Try.func34 rfl rfl rfl rfl ?_
  refine W.seq ?_
  refine W.region ?_
  refine WL.assign rfl rfl ?_
  refine WL.assign rfl rfl ?_
  refine WL.done ?_
  refine W.seq ?_
  refine W.seq ?_
  refine W.region ?_
  refine WL.move rfl rfl ?_
  refine WL.call Try.func50 rfl Try.nm50 rfl rfl (rin_c (by omega)) ?_
  rintro _ w11 ⟨bz, rfl, hGw11, z_t, z_f⟩
  have hB := ext_trans hB hGw11
  rcases bz with _ | _
  · have z := z_f rfl
    refine WL.not rfl rfl ?_
    refine WL.move rfl rfl ?_
    refine WL.pass rfl rfl rfl ?_
    refine WL.pass rfl rfl rfl ?_
    refine WL.pick rfl rfl rfl ?_
    refine WL.done ?_
    refine W.condT rfl ?_
    refine W.seq ?_
    refine W.region ?_
    refine WL.assign rfl rfl ?_
    refine WL.assign rfl rfl ?_
    refine WL.done ?_
    refine W.ret ?_
    refine ⟨_, rfl, ?_⟩
    first
    | (rw [powS_ok (by omega)]; exact ⟨rfl, hB⟩)
    | (rw [powS_out (by omega)]; exact ⟨rfl, hB⟩)
  · have z := z_t rfl
    refine WL.not rfl rfl ?_
    refine WL.move rfl rfl ?_
    refine WL.take rfl ?_
    refine WL.move rfl rfl ?_
    refine WL.take rfl ?_
    refine WL.lss rfl rfl rfl (fun c12 => ?_) (fun c12 => ?_)
    · refine WL.pick rfl rfl rfl ?_
      refine WL.done ?_
      refine W.condT rfl ?_
      refine W.seq ?_
      refine W.region ?_
      refine WL.assign rfl rfl ?_
      refine WL.assign rfl rfl ?_
      refine WL.done ?_
      refine W.ret ?_
      refine ⟨_, rfl, ?_⟩
      first
      | (rw [powS_ok (by omega)]; exact ⟨rfl, hB⟩)
      | (rw [powS_out (by omega)]; exact ⟨rfl, hB⟩)
    · refine WL.pick rfl rfl rfl ?_
      refine WL.done ?_
      refine W.condF rfl ?_
      refine W.skip ?_
      refine W.seq ?_
      refine W.region ?_
      refine WL.move rfl rfl ?_
      refine WL.move rfl rfl ?_
      refine WL.move rfl rfl ?_
      have hzt : ((Z.toNat : Nat) : Int) = Z := by omega
      refine WL.call Try.func64 rfl Try.nm64 rfl rfl (rpower_c (by omega) Y.toNat (by omega) Z.toNat (by omega) (by omega) (by omega) (by omega)) ?_
      rintro _ w13 ⟨rfl, hGw13⟩
      have hB := ext_trans hB hGw13
      rw [hzt]
      refine WL.assign rfl rfl ?_
      refine WL.assign rfl rfl ?_
      refine WL.done ?_
      refine W.ret ?_
      refine ⟨_, rfl, ?_⟩
      first
      | (rw [powS_ok (by omega)]; exact ⟨rfl, hB⟩)
      | (rw [powS_out (by omega)]; exact ⟨rfl, hB⟩)
end Go.Proofs.Ytdmgbahognfhbaa
set_option linter.unusedSimpArgs false
set_option linter.unusedVariables false
namespace Go.Proofs.Ytdmgbahognfhbaa
open Go.RowKit
theorem rProduct_c {w : World} {Bl : Nat} {Al : Option Addr} {ml cl : Nat} {xl : List Int} (hl : Rd Bl w 1 Al ml cl (is xl)) {X : Int} (hX : -9223372036854775808 ≤ X ∧ X ≤ 9223372036854775807) (hIl : ILim xl) :
    Calls Try.prog 43 #[.int .i64 X, .slice Al ml cl] w fun e w2 => ∃ v, e = .returned v ∧ (fun v w2 => v = .tuple #[.int .i64 (((prodS X xl).1 : Nat) : Int), .int .i64 (((prodS X xl).2 : Nat) : Int)] ∧ w.grownBy w2 none) v w2 := by
  have hl := hl.norm
  have hl_l := hl.ilen
  have hl_x := hl.max
  simp only [maxLen] at hl_x
  have hl_c := hl.cap
  have hl0 := hl
  have hB := ext_refl w
  refine calls_of_W (vs := [.int .i64 X, .slice Al ml cl]) [4, 5] Try.func43 rfl rfl rfl rfl ?_
  refine W.seq ?_
  refine W.region ?_
  refine WL.assign rfl rfl ?_
  refine WL.assign rfl rfl ?_
  refine WL.done ?_
  refine W.seq ?_
  refine W.region ?_
  refine WL.assign rfl rfl ?_
  refine WL.done ?_
  refine W.seq ?_
  refine W.seq ?_
  refine W.region ?_
  refine WL.assign rfl rfl ?_
  refine WL.done ?_
  refine W.block ?_
  refine W.loop (σ := Nat × Bool) (fun s w1 => match s with | (i, zz) => w.grownBy w1 none ∧ i ≤ ml ∧ (∀ j, j < i → 0 ≤ xl.getD j 0) ∧ (zz = true → 0 ∈ xl) ∧ (zz = false → ∀ j, j < i → xl.getD j 0 ≠ 0)) (fun s => match s with | (i, zz) => [(0, .int .i64 X), (1, .slice Al ml cl), (6, .bool zz), (7, .int .i64 ((i : Nat) : Int))]) (fun s => match s with | (i, zz) => ml - i) (0, false) ?_ ?_ ?_
  · exact ⟨hB, by omega, fun j h => by omega, fun h => (by cases h), fun _ j h => by omega⟩
  · exact ⟨iv (by omega), rfl, rfl, iv (by omega), trivial⟩
  · rintro ⟨i, zz⟩ w11 ⟨hB, hi, hnn, hz0, hnz⟩
    have hl := hl0.ext hB
    refine W.seq ?_
    refine W.seq ?_
    refine W.region ?_
    refine WL.move rfl rfl ?_
    refine WL.move rfl rfl ?_
    refine WL.len Try.underlying29 rfl rfl ?_
    refine WL.lss rfl rfl rfl (fun c12 => ?_) (fun c12 => ?_)
    · refine WL.done ?_
      refine W.condT rfl ?_
      refine W.skip ?_
      refine W.seq ?_
      refine W.block ?_
      refine W.seq ?_
      refine W.seq ?_
      have hIi := hIl.getD i
      · refine W.region ?_
        refine WL.move rfl rfl ?_
        refine WL.move rfl rfl ?_
        refine WL.index1 (i) Try.underlying29 Try.el3 rfl rfl (by omega) (by omega) hl rfl ?_
        refine WL.load Try.underlying3 rfl rfl (Rd.at_ hl (is_at (by omega))) rfl ?_
        refine WL.lss rfl rfl rfl (fun c13 => ?_) (fun c13 => ?_)
        · refine WL.done ?_
          refine W.condT rfl ?_
          refine W.seq ?_
          refine W.region ?_
          refine WL.assign rfl rfl ?_
          refine WL.assign rfl rfl ?_
          refine WL.done ?_
          refine W.ret ?_
          refine ⟨_, rfl, ?_⟩
          first
          | (rw [prodS_neg (imem (l := xl) (j := i) (by omega)) (by omega)]; exact ⟨rfl, hB⟩)
          | (rw [prodS_most (by omega)]; exact ⟨rfl, hB⟩)
          | (rw [prodS_zero (by omega) (of_iget fun j hj => hnn j (by omega)) (hz0 rfl)]; exact ⟨rfl, hB⟩)
          | (have hpe : prodI (xl.take i) = prodI xl := by rw [show i = xl.length by omega, List.take_length]
             rw [hps, ← hpe]; first | (rw [prS_ok (by omega)]; exact ⟨rfl, hB⟩) | (rw [prS_big (by omega)]; exact ⟨rfl, hB⟩))
          | (rw [hps, prS_big (show X.toNat < prodI xl by omega)]; exact ⟨rfl, hB⟩)
        · refine WL.done ?_
          refine W.condF rfl ?_
          refine W.skip ?_
          refine W.region ?_
          refine WL.move rfl rfl ?_
          refine WL.move rfl rfl ?_
          rcases zz with _ | _
          · refine WL.take rfl ?_
            refine WL.move rfl rfl ?_
            refine WL.take rfl ?_
            refine WL.move rfl rfl ?_
            refine WL.take rfl ?_
            refine WL.index1 (i) Try.underlying29 Try.el3 rfl rfl (by omega) (by omega) hl rfl ?_
            refine WL.take rfl ?_
            refine WL.load Try.underlying3 rfl rfl (Rd.at_ hl (is_at (by omega))) rfl ?_
            refine WL.take rfl ?_
            refine WL.eql rfl rfl rfl (fun c15 => ?_) (fun c15 => ?_)
            · refine WL.pick rfl rfl rfl ?_
              refine WL.assign rfl rfl ?_
              refine WL.done ?_
              refine W.region ?_
              refine WL.move rfl rfl ?_
              refine WL.add (r := ((i + 1 : Nat) : Int)) rfl rfl (wi64 (by omega) (by omega) (by omega)) rfl ?_
              refine WL.assign rfl rfl ?_
              refine WL.done ?_
              refine ⟨(i + 1, true), ⟨iv (by omega), rfl, rfl, iv (by omega), trivial⟩, by (dsimp only; omega), ?_⟩
              exact ⟨hB, by omega, fun j h => (by
                rcases Nat.lt_succ_iff_lt_or_eq.1 h with h1 | h1
                · exact hnn j h1
                · rw [h1]; omega), fun _ => (by have h2 := imem (l := xl) (j := i) (by omega); rw [show xl.getD i 0 = 0 by omega] at h2; exact h2), fun h => (by cases h)⟩
            · refine WL.pick rfl rfl rfl ?_
              refine WL.assign rfl rfl ?_
              refine WL.done ?_
              refine W.region ?_
              refine WL.move rfl rfl ?_
              refine WL.add (r := ((i + 1 : Nat) : Int)) rfl rfl (wi64 (by omega) (by omega) (by omega)) rfl ?_
              refine WL.assign rfl rfl ?_
              refine WL.done ?_
              refine ⟨(i + 1, false), ⟨iv (by omega), rfl, rfl, iv (by omega), trivial⟩, by (dsimp only; omega), ?_⟩
              exact ⟨hB, by omega, fun j h => (by
                rcases Nat.lt_succ_iff_lt_or_eq.1 h with h1 | h1
                · exact hnn j h1
                · rw [h1]; omega), fun h => (by cases h), fun _ j h => (by
                rcases Nat.lt_succ_iff_lt_or_eq.1 h with h1 | h1
                · exact hnz rfl j h1
                · rw [h1]; omega)⟩
          · refine WL.pass rfl rfl rfl ?_
            refine WL.pass rfl rfl rfl ?_
            refine WL.pass rfl rfl rfl ?_
            refine WL.pass rfl rfl rfl ?_
            refine WL.pass rfl rfl rfl ?_
            refine WL.pick rfl rfl rfl ?_
            refine WL.assign rfl rfl ?_
            refine WL.done ?_
            refine W.region ?_
            refine WL.move rfl rfl ?_
            refine WL.add (r := ((i + 1 : Nat) : Int)) rfl rfl (wi64 (by omega) (by omega) (by omega)) rfl ?_
            refine WL.assign rfl rfl ?_
            refine WL.done ?_
            refine ⟨(i + 1, true), ⟨iv (by omega), rfl, rfl, iv (by omega), trivial⟩, by (dsimp only; omega), ?_⟩
            exact ⟨hB, by omega, fun j h => (by
              rcases Nat.lt_succ_iff_lt_or_eq.1 h with h1 | h1
              · exact hnn j h1
              · rw [h1]; omega), fun _ => hz0 rfl, fun h => (by cases h)⟩
    · refine WL.done ?_
      refine W.condF rfl ?_
      refine W.exit ?_
      refine W.seq ?_
      refine W.seq ?_
      refine W.region ?_
      refine WL.move rfl rfl ?_
      refine WL.lss rfl rfl rfl (fun c16 => ?_) (fun c16 => ?_)
      · refine WL.done ?_
        refine W.condT rfl ?_
        refine W.seq ?_
        refine W.region ?_
        refine WL.assign rfl rfl ?_
        refine WL.assign rfl rfl ?_
        refine WL.done ?_
        refine W.ret ?_
        refine ⟨_, rfl, ?_⟩
        first
        | (rw [prodS_neg (imem (l := xl) (j := i) (by omega)) (by omega)]; exact ⟨rfl, hB⟩)
        | (rw [prodS_most (by omega)]; exact ⟨rfl, hB⟩)
        | (rw [prodS_zero (by omega) (of_iget fun j hj => hnn j (by omega)) (hz0 rfl)]; exact ⟨rfl, hB⟩)
        | (have hpe : prodI (xl.take i) = prodI xl := by rw [show i = xl.length by omega, List.take_length]
           rw [hps, ← hpe]; first | (rw [prS_ok (by omega)]; exact ⟨rfl, hB⟩) | (rw [prS_big (by omega)]; exact ⟨rfl, hB⟩))
        | (rw [hps, prS_big (show X.toNat < prodI xl by omega)]; exact ⟨rfl, hB⟩)
      · refine WL.done ?_
        refine W.condF rfl ?_
        refine W.skip ?_
        refine W.seq ?_
        refine W.seq ?_
        refine W.region ?_
        refine WL.move rfl rfl ?_
        refine WL.done ?_
        rcases zz with _ | _
        · refine W.condF rfl ?_
          refine W.skip ?_
          refine W.seq ?_
          refine W.region ?_
          have hpp : ∀ x ∈ xl, 0 < x := of_iget (fun j hj => by have h1 := hnn j (by omega); have h2 := hnz rfl j (by omega); omega)
          have hM0 : 0 ≤ X := by omega
          have hpm := prodI_mono hpp
          have hpos := prodI_pos hpp
          have hps := prodS_pos hM0 hpp
          refine WL.assign rfl rfl ?_
          refine WL.done ?_
          refine W.seq ?_
          refine W.seq ?_
          refine W.region ?_
          have hp00 : prodI (xl.take 0) = 1 := rfl
          refine WL.assign rfl rfl ?_
          refine WL.done ?_
          refine W.block ?_
          refine W.loop (σ := Nat) (fun i w1 => w.grownBy w1 none ∧ i ≤ ml ∧ (i = 0 ∨ prodI (xl.take i) ≤ X.toNat)) (fun i => [(0, .int .i64 X), (1, .slice Al ml cl), (8, .int .i64 ((prodI (xl.take i) : Nat) : Int)), (9, .int .i64 ((i : Nat) : Int))]) (fun i => ml - i) 0 ?_ ?_ ?_
          · exact ⟨hB, by omega, by omega⟩
          · exact ⟨iv (by omega), rfl, iv (by omega), iv (by omega), trivial⟩
          · rintro i w18 ⟨hB, hi, hok⟩
            have hl := hl0.ext hB
            have hmi := hpm i
            have hp0 : i = 0 → prodI (xl.take i) = 1 := fun h => by subst h; rfl
            refine W.seq ?_
            refine W.seq ?_
            refine W.region ?_
            refine WL.move rfl rfl ?_
            refine WL.move rfl rfl ?_
            refine WL.len Try.underlying29 rfl rfl ?_
            refine WL.lss rfl rfl rfl (fun c19 => ?_) (fun c19 => ?_)
            · refine WL.done ?_
              refine W.condT rfl ?_
              refine W.skip ?_
              refine W.seq ?_
              refine W.block ?_
              refine W.seq ?_
              refine W.seq ?_
              have hil : i < xl.length := (by omega); have hIi := hIl.getD i; have hgi := hpp _ (imem hil); have hpt := prodI_take hil; have hgt := @gt_div (prodI (xl.take i)) ((xl.getD i 0).toNat) X.toNat (by omega); have hmj := hpm (i + 1)
              · refine W.region ?_
                refine WL.move rfl rfl ?_
                refine WL.move rfl rfl ?_
                refine WL.move rfl rfl ?_
                refine WL.move rfl rfl ?_
                refine WL.index1 (i) Try.underlying29 Try.el3 rfl rfl (by omega) (by omega) hl rfl ?_
                refine WL.load Try.underlying3 rfl rfl (Rd.at_ hl (is_at (by omega))) rfl ?_
                refine WL.quo (r := ((X.toNat / (xl.getD i 0).toNat : Nat) : Int)) rfl rfl (by omega) (qi64 (a := X.toNat) (b := (xl.getD i 0).toNat) (by omega) (by omega) (by omega)) rfl ?_
                refine WL.gtr rfl rfl rfl (fun c20 => ?_) (fun c20 => ?_)
                · refine WL.done ?_
                  refine W.condT rfl ?_
                  refine W.seq ?_
                  refine W.region ?_
                  refine WL.assign rfl rfl ?_
                  refine WL.assign rfl rfl ?_
                  refine WL.done ?_
                  refine W.ret ?_
                  refine ⟨_, rfl, ?_⟩
                  first
                  | (rw [prodS_neg (imem (l := xl) (j := i) (by omega)) (by omega)]; exact ⟨rfl, hB⟩)
                  | (rw [prodS_most (by omega)]; exact ⟨rfl, hB⟩)
                  | (rw [prodS_zero (by omega) (of_iget fun j hj => hnn j (by omega)) (hz0 rfl)]; exact ⟨rfl, hB⟩)
                  | (have hpe : prodI (xl.take i) = prodI xl := by rw [show i = xl.length by omega, List.take_length]
                     rw [hps, ← hpe]; first | (rw [prS_ok (by omega)]; exact ⟨rfl, hB⟩) | (rw [prS_big (by omega)]; exact ⟨rfl, hB⟩))
                  | (rw [hps, prS_big (show X.toNat < prodI xl by omega)]; exact ⟨rfl, hB⟩)
                · refine WL.done ?_
                  refine W.condF rfl ?_
                  refine W.skip ?_
                  refine W.region ?_
                  refine WL.move rfl rfl ?_
                  refine WL.move rfl rfl ?_
                  refine WL.move rfl rfl ?_
                  refine WL.index1 (i) Try.underlying29 Try.el3 rfl rfl (by omega) (by omega) hl rfl ?_
                  refine WL.load Try.underlying3 rfl rfl (Rd.at_ hl (is_at (by omega))) rfl ?_
                  refine WL.mul (r := ((prodI (xl.take (i + 1)) : Nat) : Int)) rfl rfl (by rw [show (xl.getD i 0) = (((xl.getD i 0).toNat : Nat) : Int) by omega, ← Int.natCast_mul, ← hpt]; exact wi64n (by omega)) rfl ?_
                  refine WL.assign rfl rfl ?_
                  refine WL.done ?_
                  refine W.region ?_
                  refine WL.move rfl rfl ?_
                  refine WL.add (r := ((i + 1 : Nat) : Int)) rfl rfl (wi64 (by omega) (by omega) (by omega)) rfl ?_
                  refine WL.assign rfl rfl ?_
                  refine WL.done ?_
                  refine ⟨(i + 1), ⟨iv (by omega), rfl, iv (by omega), iv (by omega), trivial⟩, by omega, ?_⟩
                  exact ⟨hB, by omega, by omega⟩
            · refine WL.done ?_
              refine W.condF rfl ?_
              refine W.exit ?_
              refine W.seq ?_
              refine W.seq ?_
              refine W.region ?_
              refine WL.move rfl rfl ?_
              refine WL.move rfl rfl ?_
              refine WL.gtr rfl rfl rfl (fun c21 => ?_) (fun c21 => ?_)
              · refine WL.done ?_
                refine W.condT rfl ?_
                refine W.seq ?_
                refine W.region ?_
                refine WL.assign rfl rfl ?_
                refine WL.assign rfl rfl ?_
                refine WL.done ?_
                refine W.ret ?_
                refine ⟨_, rfl, ?_⟩
                first
                | (rw [prodS_neg (imem (l := xl) (j := i) (by omega)) (by omega)]; exact ⟨rfl, hB⟩)
                | (rw [prodS_most (by omega)]; exact ⟨rfl, hB⟩)
                | (rw [prodS_zero (by omega) (of_iget fun j hj => hnn j (by omega)) (hz0 rfl)]; exact ⟨rfl, hB⟩)
                | (have hpe : prodI (xl.take i) = prodI xl := by rw [show i = xl.length by omega, List.take_length]
                   rw [hps, ← hpe]; first | (rw [prS_ok (by omega)]; exact ⟨rfl, hB⟩) | (rw [prS_big (by omega)]; exact ⟨rfl, hB⟩))
                | (rw [hps, prS_big (show X.toNat < prodI xl by omega)]; exact ⟨rfl, hB⟩)
              · refine WL.done ?_
                refine W.condF rfl ?_
                refine W.skip ?_
                refine W.seq ?_
                refine W.region ?_
                refine WL.move rfl rfl ?_
                refine WL.assign rfl rfl ?_
                refine WL.assign rfl rfl ?_
                refine WL.done ?_
                refine W.ret ?_
                refine ⟨_, rfl, ?_⟩
                first
                | (rw [prodS_neg (imem (l := xl) (j := i) (by omega)) (by omega)]; exact ⟨rfl, hB⟩)
                | (rw [prodS_most (by omega)]; exact ⟨rfl, hB⟩)
                | (rw [prodS_zero (by omega) (of_iget fun j hj => hnn j (by omega)) (hz0 rfl)]; exact ⟨rfl, hB⟩)
                | (have hpe : prodI (xl.take i) = prodI xl := by rw [show i = xl.length by omega, List.take_length]
                   rw [hps, ← hpe]; first | (rw [prS_ok (by omega)]; exact ⟨rfl, hB⟩) | (rw [prS_big (by omega)]; exact ⟨rfl, hB⟩))
                | (rw [hps, prS_big (show X.toNat < prodI xl by omega)]; exact ⟨rfl, hB⟩)
        · refine W.condT rfl ?_
          refine W.seq ?_
          refine W.region ?_
          refine WL.assign rfl rfl ?_
          refine WL.assign rfl rfl ?_
          refine WL.done ?_
          refine W.ret ?_
          refine ⟨_, rfl, ?_⟩
          first
          | (rw [prodS_neg (imem (l := xl) (j := i) (by omega)) (by omega)]; exact ⟨rfl, hB⟩)
          | (rw [prodS_most (by omega)]; exact ⟨rfl, hB⟩)
          | (rw [prodS_zero (by omega) (of_iget fun j hj => hnn j (by omega)) (hz0 rfl)]; exact ⟨rfl, hB⟩)
          | (have hpe : prodI (xl.take i) = prodI xl := by rw [show i = xl.length by omega, List.take_length]
             rw [hps, ← hpe]; first | (rw [prS_ok (by omega)]; exact ⟨rfl, hB⟩) | (rw [prS_big (by omega)]; exact ⟨rfl, hB⟩))
          | (rw [hps, prS_big (show X.toNat < prodI xl by omega)]; exact ⟨rfl, hB⟩)

theorem rExp_neg {w : World} {X : Int} (hX : -9223372036854775808 ≤ X ∧ X ≤ 9223372036854775807) {Y : Int} (hY : -9223372036854775808 ≤ Y ∧ Y ≤ 9223372036854775807) {Z : Int} (hZ : -9223372036854775808 ≤ Z ∧ Z ≤ 9223372036854775807) (hng : X < 0 ∨ Y < 0 ∨ Z < 0) :
    Calls Try.prog 45 #[.int .i64 X, .int .i64 Y, .int .i64 Z] w fun e w2 => ∃ v, e = .returned v ∧ (fun v w2 => v = .tuple #[.int .i64 (((expS X Y Z).1 : Nat) : Int), .int .i64 (((expS X Y Z).2 : Nat) : Int)] ∧ w.grownBy w2 none) v w2 := by
  have hB := ext_refl w
  refine calls_of_W (vs := [.int .i64 X, .int .i64 Y, .int .i64 Z]) [6, 7] Try.func45 rfl rfl rfl rfl ?_
  refine W.seq ?_
  refine W.region ?_
  refine WL.assign rfl rfl ?_
  refine WL.assign rfl rfl ?_
  refine WL.done ?_
  refine W.seq ?_
  refine W.seq ?_
  refine W.region ?_
  refine WL.move rfl rfl ?_
  refine WL.lss rfl rfl rfl (fun c11 => ?_) (fun c11 => ?_)
  · refine WL.move rfl rfl ?_
    refine WL.pass rfl rfl rfl ?_
    refine WL.pass rfl rfl rfl ?_
    refine WL.pick rfl rfl rfl ?_
    refine WL.move rfl rfl ?_
    refine WL.pass rfl rfl rfl ?_
    refine WL.pass rfl rfl rfl ?_
    refine WL.pick rfl rfl rfl ?_
    refine WL.done ?_
    refine W.condT rfl ?_
    refine W.seq ?_
    refine W.region ?_
    refine WL.assign rfl rfl ?_
    refine WL.assign rfl rfl ?_
    refine WL.done ?_
    refine W.ret ?_
    refine ⟨_, rfl, ?_⟩
    rw [expS_neg hng]
    exact ⟨rfl, hB⟩
  · refine WL.move rfl rfl ?_
    refine WL.take rfl ?_
    refine WL.move rfl rfl ?_
    refine WL.take rfl ?_
    refine WL.lss rfl rfl rfl (fun c12 => ?_) (fun c12 => ?_)
    · refine WL.pick rfl rfl rfl ?_
      refine WL.move rfl rfl ?_
      refine WL.pass rfl rfl rfl ?_
      refine WL.pass rfl rfl rfl ?_
      refine WL.pick rfl rfl rfl ?_
      refine WL.done ?_
      refine W.condT rfl ?_
      refine W.seq ?_
      refine W.region ?_
      refine WL.assign rfl rfl ?_
      refine WL.assign rfl rfl ?_
      refine WL.done ?_
      refine W.ret ?_
      refine ⟨_, rfl, ?_⟩
      rw [expS_neg hng]
      exact ⟨rfl, hB⟩
    · refine WL.pick rfl rfl rfl ?_
      refine WL.move rfl rfl ?_
      refine WL.take rfl ?_
      refine WL.move rfl rfl ?_
      refine WL.take rfl ?_
      refine WL.lss rfl rfl rfl (fun c13 => ?_) (fun c13 => ?_)
      · refine WL.pick rfl rfl rfl ?_
        refine WL.done ?_
        refine W.condT rfl ?_
        refine W.seq ?_
        refine W.region ?_
        refine WL.assign rfl rfl ?_
        refine WL.assign rfl rfl ?_
        refine WL.done ?_
        refine W.ret ?_
        refine ⟨_, rfl, ?_⟩
        rw [expS_neg hng]
        exact ⟨rfl, hB⟩
      · exfalso
        omega

theorem rExp_nn {w : World} (q : Nat) {X : Int} (hX : X = q) (k : Nat) {Y : Int} (hY : Y = k) (m : Nat) {Z : Int} (hZ : Z = m) (hq : q < 9223372036854775808) (hk : k < 9223372036854775808) (hm : m < 9223372036854775808) :
    Calls Try.prog 45 #[.int .i64 X, .int .i64 Y, .int .i64 Z] w fun e w2 => ∃ v, e = .returned v ∧ (fun v w2 => v = .tuple #[.int .i64 (((expS X Y Z).1 : Nat) : Int), .int .i64 (((expS X Y Z).2 : Nat) : Int)] ∧ w.grownBy w2 none) v w2 := by
  have hB := ext_refl w
  refine calls_of_W (vs := [.int .i64 X, .int .i64 Y, .int .i64 Z]) [6, 7] Try.func45 rfl rfl rfl rfl ?_
  refine W.seq ?_
  refine W.region ?_
  refine WL.assign rfl rfl ?_
  refine WL.assign rfl rfl ?_
  refine WL.done ?_
  refine W.seq ?_
  refine W.seq ?_
  refine W.region ?_
  refine WL.move rfl rfl ?_
  refine WL.lss rfl rfl rfl (fun c11 => ?_) (fun c11 => ?_)
  · exfalso
    omega
  · refine WL.move rfl rfl ?_
    refine WL.take rfl ?_
    refine WL.move rfl rfl ?_
    refine WL.take rfl ?_
    refine WL.lss rfl rfl rfl (fun c12 => ?_) (fun c12 => ?_)
    · exfalso
      omega
    · refine WL.pick rfl rfl rfl ?_
      refine WL.move rfl rfl ?_
      refine WL.take rfl ?_
      refine WL.move rfl rfl ?_
      refine WL.take rfl ?_
      refine WL.lss rfl rfl rfl (fun c13 => ?_) (fun c13 => ?_)
      · exfalso
        omega
      · refine WL.pick rfl rfl rfl ?_
        refine WL.done ?_
        refine W.condF rfl ?_
        refine W.skip ?_
        refine W.seq ?_
        refine W.seq ?_
        refine W.region ?_
        refine WL.move rfl rfl ?_
        refine WL.eql rfl rfl rfl (fun c14 => ?_) (fun c14 => ?_)
        · refine WL.move rfl rfl ?_
          refine WL.take rfl ?_
          refine WL.move rfl rfl ?_
          refine WL.take rfl ?_
          refine WL.gtr rfl rfl rfl (fun c15 => ?_) (fun c15 => ?_)
          · refine WL.pick rfl rfl rfl ?_
            refine WL.done ?_
            refine W.condT rfl ?_
            refine W.seq ?_
            refine W.region ?_
            refine WL.assign rfl rfl ?_
            refine WL.assign rfl rfl ?_
            refine WL.done ?_
            refine W.ret ?_
            refine ⟨_, rfl, ?_⟩
            first
            | (rw [expS_zero (by omega) (by omega)]; exact ⟨rfl, hB⟩)
            | (rw [hX, hY, hZ, expS_pos (by omega), prS_big (show m < q ^ k by omega)]; exact ⟨rfl, hB⟩)
            | (have hqk : q ^ k = q ^ j := exp_same hj (by omega) (by omega)
               rw [hX, hY, hZ, expS_pos (by omega), hqk]; first | (rw [prS_ok (by omega)]; exact ⟨rfl, hB⟩) | (rw [prS_big (by omega)]; exact ⟨rfl, hB⟩))
          · refine WL.pick rfl rfl rfl ?_
            refine WL.done ?_
            refine W.condF rfl ?_
            refine W.skip ?_
            refine W.seq ?_
            refine W.region ?_
            refine WL.assign rfl rfl ?_
            refine WL.done ?_
            refine W.seq ?_
            refine W.seq ?_
            refine W.region ?_
            have hp00 : q ^ 0 = 1 := Nat.pow_zero q
            refine WL.assign rfl rfl ?_
            refine WL.done ?_
            refine W.block ?_
            refine W.loop (σ := Nat) (fun j w1 => w.grownBy w1 none ∧ j ≤ k ∧ (j = 0 ∨ q ^ j ≤ m)) (fun j => [(0, .int .i64 X), (1, .int .i64 Y), (2, .int .i64 Z), (8, .int .i64 ((q ^ j : Nat) : Int)), (9, .int .i64 ((j : Nat) : Int))]) (fun j => k - j) 0 ?_ ?_ ?_
            · exact ⟨hB, by omega, by omega⟩
            · exact ⟨iv (by omega), iv (by omega), iv (by omega), iv (by omega), iv (by omega), trivial⟩
            · rintro j w16 ⟨hB, hj, hok⟩
              have hp0 : j = 0 → q ^ j = 1 := fun h => by subst h; rfl
              refine W.seq ?_
              refine W.seq ?_
              refine W.region ?_
              refine WL.move rfl rfl ?_
              refine WL.move rfl rfl ?_
              refine WL.lss rfl rfl rfl (fun c17 => ?_) (fun c17 => ?_)
              · refine WL.move rfl rfl ?_
                refine WL.take rfl ?_
                refine WL.move rfl rfl ?_
                refine WL.take rfl ?_
                refine WL.gtr rfl rfl rfl (fun c18 => ?_) (fun c18 => ?_)
                · refine WL.pick rfl rfl rfl ?_
                  refine WL.done ?_
                  refine W.condT rfl ?_
                  refine W.skip ?_
                  refine W.seq ?_
                  refine W.block ?_
                  refine W.seq ?_
                  refine W.seq ?_
                  have hps : q ^ (j + 1) = q ^ j * q := Nat.pow_succ ..; have hgt := @gt_div (q ^ j) q m (by omega); have hpk : q ^ (j + 1) ≤ q ^ k := Nat.pow_le_pow_right (by omega) (by omega)
                  · refine W.region ?_
                    refine WL.move rfl rfl ?_
                    refine WL.move rfl rfl ?_
                    refine WL.move rfl rfl ?_
                    refine WL.quo (r := ((m / q : Nat) : Int)) rfl rfl (by omega) (qi64 (by omega) (by omega) (by omega)) rfl ?_
                    refine WL.gtr rfl rfl rfl (fun c19 => ?_) (fun c19 => ?_)
                    · refine WL.done ?_
                      refine W.condT rfl ?_
                      refine W.seq ?_
                      refine W.region ?_
                      refine WL.assign rfl rfl ?_
                      refine WL.assign rfl rfl ?_
                      refine WL.done ?_
                      refine W.ret ?_
                      refine ⟨_, rfl, ?_⟩
                      first
                      | (rw [expS_zero (by omega) (by omega)]; exact ⟨rfl, hB⟩)
                      | (rw [hX, hY, hZ, expS_pos (by omega), prS_big (show m < q ^ k by omega)]; exact ⟨rfl, hB⟩)
                      | (have hqk : q ^ k = q ^ j := exp_same hj (by omega) (by omega)
                         rw [hX, hY, hZ, expS_pos (by omega), hqk]; first | (rw [prS_ok (by omega)]; exact ⟨rfl, hB⟩) | (rw [prS_big (by omega)]; exact ⟨rfl, hB⟩))
                    · refine WL.done ?_
                      refine W.condF rfl ?_
                      refine W.skip ?_
                      refine W.region ?_
                      refine WL.move rfl rfl ?_
                      refine WL.move rfl rfl ?_
                      refine WL.mul (r := ((q ^ (j + 1) : Nat) : Int)) rfl rfl (by rw [hX, ← Int.natCast_mul, ← hps]; exact wi64n (by omega)) rfl ?_
                      refine WL.assign rfl rfl ?_
                      refine WL.done ?_
                      refine W.region ?_
                      refine WL.move rfl rfl ?_
                      refine WL.add (r := ((j + 1 : Nat) : Int)) rfl rfl (wi64 (by omega) (by omega) (by omega)) rfl ?_
                      refine WL.assign rfl rfl ?_
                      refine WL.done ?_
                      refine ⟨(j + 1), ⟨iv (by omega), iv (by omega), iv (by omega), iv (by omega), iv (by omega), trivial⟩, by omega, ?_⟩
                      exact ⟨hB, by omega, by omega⟩
                · refine WL.pick rfl rfl rfl ?_
                  refine WL.done ?_
                  refine W.condF rfl ?_
                  refine W.exit ?_
                  refine W.seq ?_
                  refine W.seq ?_
                  refine W.region ?_
                  refine WL.move rfl rfl ?_
                  refine WL.move rfl rfl ?_
                  refine WL.gtr rfl rfl rfl (fun c20 => ?_) (fun c20 => ?_)
                  · refine WL.done ?_
                    refine W.condT rfl ?_
                    refine W.seq ?_
                    refine W.region ?_
                    refine WL.assign rfl rfl ?_
                    refine WL.assign rfl rfl ?_
                    refine WL.done ?_
                    refine W.ret ?_
                    refine ⟨_, rfl, ?_⟩
                    first
                    | (rw [expS_zero (by omega) (by omega)]; exact ⟨rfl, hB⟩)
                    | (rw [hX, hY, hZ, expS_pos (by omega), prS_big (show m < q ^ k by omega)]; exact ⟨rfl, hB⟩)
                    | (have hqk : q ^ k = q ^ j := exp_same hj (by omega) (by omega)
                       rw [hX, hY, hZ, expS_pos (by omega), hqk]; first | (rw [prS_ok (by omega)]; exact ⟨rfl, hB⟩) | (rw [prS_big (by omega)]; exact ⟨rfl, hB⟩))
                  · refine WL.done ?_
                    refine W.condF rfl ?_
                    refine W.skip ?_
                    refine W.seq ?_
                    refine W.region ?_
                    refine WL.move rfl rfl ?_
                    refine WL.assign rfl rfl ?_
                    refine WL.assign rfl rfl ?_
                    refine WL.done ?_
                    refine W.ret ?_
                    refine ⟨_, rfl, ?_⟩
                    first
                    | (rw [expS_zero (by omega) (by omega)]; exact ⟨rfl, hB⟩)
                    | (rw [hX, hY, hZ, expS_pos (by omega), prS_big (show m < q ^ k by omega)]; exact ⟨rfl, hB⟩)
                    | (have hqk : q ^ k = q ^ j := exp_same hj (by omega) (by omega)
                       rw [hX, hY, hZ, expS_pos (by omega), hqk]; first | (rw [prS_ok (by omega)]; exact ⟨rfl, hB⟩) | (rw [prS_big (by omega)]; exact ⟨rfl, hB⟩))
              · refine WL.move rfl rfl ?_
                refine WL.pass rfl rfl rfl ?_
                refine WL.pass rfl rfl rfl ?_
                refine WL.pick rfl rfl rfl ?_
                refine WL.done ?_
                refine W.condF rfl ?_
                refine W.exit ?_
                refine W.seq ?_
                refine W.seq ?_
                refine W.region ?_
                refine WL.move rfl rfl ?_
                refine WL.move rfl rfl ?_
                refine WL.gtr rfl rfl rfl (fun c21 => ?_) (fun c21 => ?_)
                · refine WL.done ?_
                  refine W.condT rfl ?_
                  refine W.seq ?_
                  refine W.region ?_
                  refine WL.assign rfl rfl ?_
                  refine WL.assign rfl rfl ?_
                  refine WL.done ?_
                  refine W.ret ?_
                  refine ⟨_, rfl, ?_⟩
                  first
                  | (rw [expS_zero (by omega) (by omega)]; exact ⟨rfl, hB⟩)
                  | (rw [hX, hY, hZ, expS_pos (by omega), prS_big (show m < q ^ k by omega)]; exact ⟨rfl, hB⟩)
                  | (have hqk : q ^ k = q ^ j := exp_same hj (by omega) (by omega)
                     rw [hX, hY, hZ, expS_pos (by omega), hqk]; first | (rw [prS_ok (by omega)]; exact ⟨rfl, hB⟩) | (rw [prS_big (by omega)]; exact ⟨rfl, hB⟩))
                · refine WL.done ?_
                  refine W.condF rfl ?_
                  refine W.skip ?_
                  refine W.seq ?_
                  refine W.region ?_
                  refine WL.move rfl rfl ?_
                  refine WL.assign rfl rfl ?_
                  refine WL.assign rfl rfl ?_
                  refine WL.done ?_
                  refine W.ret ?_
                  refine ⟨_, rfl, ?_⟩
                  first
                  | (rw [expS_zero (by omega) (by omega)]; exact ⟨rfl, hB⟩)
                  | (rw [hX, hY, hZ, expS_pos (by omega), prS_big (show m < q ^ k by omega)]; exact ⟨rfl, hB⟩)
                  | (have hqk : q ^ k = q ^ j := exp_same hj (by omega) (by omega)
                     rw [hX, hY, hZ, expS_pos (by omega), hqk]; first | (rw [prS_ok (by omega)]; exact ⟨rfl, hB⟩) | (rw [prS_big (by omega)]; exact ⟨rfl, hB⟩))
        · refine WL.move rfl rfl ?_
          refine WL.pass rfl rfl rfl ?_
          refine WL.pass rfl rfl rfl ?_
          refine WL.pick rfl rfl rfl ?_
          refine WL.done ?_
          refine W.condF rfl ?_
          refine W.skip ?_
          refine W.seq ?_
          refine W.region ?_
          refine WL.assign rfl rfl ?_
          refine WL.done ?_
          refine W.seq ?_
          refine W.seq ?_
          refine W.region ?_
          have hp00 : q ^ 0 = 1 := Nat.pow_zero q
          refine WL.assign rfl rfl ?_
          refine WL.done ?_
          refine W.block ?_
          refine W.loop (σ := Nat) (fun j w1 => w.grownBy w1 none ∧ j ≤ k ∧ (j = 0 ∨ q ^ j ≤ m)) (fun j => [(0, .int .i64 X), (1, .int .i64 Y), (2, .int .i64 Z), (8, .int .i64 ((q ^ j : Nat) : Int)), (9, .int .i64 ((j : Nat) : Int))]) (fun j => k - j) 0 ?_ ?_ ?_
          · exact ⟨hB, by omega, by omega⟩
          · exact ⟨iv (by omega), iv (by omega), iv (by omega), iv (by omega), iv (by omega), trivial⟩
          · rintro j w22 ⟨hB, hj, hok⟩
            have hp0 : j = 0 → q ^ j = 1 := fun h => by subst h; rfl
            refine W.seq ?_
            refine W.seq ?_
            refine W.region ?_
            refine WL.move rfl rfl ?_
            refine WL.move rfl rfl ?_
            refine WL.lss rfl rfl rfl (fun c23 => ?_) (fun c23 => ?_)
            · refine WL.move rfl rfl ?_
              refine WL.take rfl ?_
              refine WL.move rfl rfl ?_
              refine WL.take rfl ?_
              refine WL.gtr rfl rfl rfl (fun c24 => ?_) (fun c24 => ?_)
              · refine WL.pick rfl rfl rfl ?_
                refine WL.done ?_
                refine W.condT rfl ?_
                refine W.skip ?_
                refine W.seq ?_
                refine W.block ?_
                refine W.seq ?_
                refine W.seq ?_
                have hps : q ^ (j + 1) = q ^ j * q := Nat.pow_succ ..; have hgt := @gt_div (q ^ j) q m (by omega); have hpk : q ^ (j + 1) ≤ q ^ k := Nat.pow_le_pow_right (by omega) (by omega)
                · refine W.region ?_
                  refine WL.move rfl rfl ?_
                  refine WL.move rfl rfl ?_
                  refine WL.move rfl rfl ?_
                  refine WL.quo (r := ((m / q : Nat) : Int)) rfl rfl (by omega) (qi64 (by omega) (by omega) (by omega)) rfl ?_
                  refine WL.gtr rfl rfl rfl (fun c25 => ?_) (fun c25 => ?_)
                  · refine WL.done ?_
                    refine W.condT rfl ?_
                    refine W.seq ?_
                    refine W.region ?_
                    refine WL.assign rfl rfl ?_
                    refine WL.assign rfl rfl ?_
                    refine WL.done ?_
                    refine W.ret ?_
                    refine ⟨_, rfl, ?_⟩
                    first
                    | (rw [expS_zero (by omega) (by omega)]; exact ⟨rfl, hB⟩)
                    | (rw [hX, hY, hZ, expS_pos (by omega), prS_big (show m < q ^ k by omega)]; exact ⟨rfl, hB⟩)
                    | (have hqk : q ^ k = q ^ j := exp_same hj (by omega) (by omega)
                       rw [hX, hY, hZ, expS_pos (by omega), hqk]; first | (rw [prS_ok (by omega)]; exact ⟨rfl, hB⟩) | (rw [prS_big (by omega)]; exact ⟨rfl, hB⟩))
                  · refine WL.done ?_
                    refine W.condF rfl ?_
                    refine W.skip ?_
                    refine W.region ?_
                    refine WL.move rfl rfl ?_
                    refine WL.move rfl rfl ?_
                    refine WL.mul (r := ((q ^ (j + 1) : Nat) : Int)) rfl rfl (by rw [hX, ← Int.natCast_mul, ← hps]; exact wi64n (by omega)) rfl ?_
                    refine WL.assign rfl rfl ?_
                    refine WL.done ?_
                    refine W.region ?_
                    refine WL.move rfl rfl ?_
                    refine WL.add (r := ((j + 1 : Nat) : Int)) rfl rfl (wi64 (by omega) (by omega) (by omega)) rfl ?_
                    refine WL.assign rfl rfl ?_
                    refine WL.done ?_
                    refine ⟨(j + 1), ⟨iv (by omega), iv (by omega), iv (by omega), iv (by omega), iv (by omega), trivial⟩, by omega, ?_⟩
                    exact ⟨hB, by omega, by omega⟩
              · refine WL.pick rfl rfl rfl ?_
                refine WL.done ?_
                refine W.condF rfl ?_
                refine W.exit ?_
                refine W.seq ?_
                refine W.seq ?_
                refine W.region ?_
                refine WL.move rfl rfl ?_
                refine WL.move rfl rfl ?_
                refine WL.gtr rfl rfl rfl (fun c26 => ?_) (fun c26 => ?_)
                · refine WL.done ?_
                  refine W.condT rfl ?_
                  refine W.seq ?_
                  refine W.region ?_
                  refine WL.assign rfl rfl ?_
                  refine WL.assign rfl rfl ?_
                  refine WL.done ?_
                  refine W.ret ?_
                  refine ⟨_, rfl, ?_⟩
                  first
                  | (rw [expS_zero (by omega) (by omega)]; exact ⟨rfl, hB⟩)
                  | (rw [hX, hY, hZ, expS_pos (by omega), prS_big (show m < q ^ k by omega)]; exact ⟨rfl, hB⟩)
                  | (have hqk : q ^ k = q ^ j := exp_same hj (by omega) (by omega)
                     rw [hX, hY, hZ, expS_pos (by omega), hqk]; first | (rw [prS_ok (by omega)]; exact ⟨rfl, hB⟩) | (rw [prS_big (by omega)]; exact ⟨rfl, hB⟩))
                · refine WL.done ?_
                  refine W.condF rfl ?_
                  refine W.skip ?_
                  refine W.seq ?_
                  refine W.region ?_
                  refine WL.move rfl rfl ?_
                  refine WL.assign rfl rfl ?_
                  refine WL.assign rfl rfl ?_
                  refine WL.done ?_
                  refine W.ret ?_
                  refine ⟨_, rfl, ?_⟩
                  first
                  | (rw [expS_zero (by omega) (by omega)]; exact ⟨rfl, hB⟩)
                  | (rw [hX, hY, hZ, expS_pos (by omega), prS_big (show m < q ^ k by omega)]; exact ⟨rfl, hB⟩)
                  | (have hqk : q ^ k = q ^ j := exp_same hj (by omega) (by omega)
                     rw [hX, hY, hZ, expS_pos (by omega), hqk]; first | (rw [prS_ok (by omega)]; exact ⟨rfl, hB⟩) | (rw [prS_big (by omega)]; exact ⟨rfl, hB⟩))
            · refine WL.move rfl rfl ?_
              refine WL.pass rfl rfl rfl ?_
              refine WL.pass rfl rfl rfl ?_
              refine WL.pick rfl rfl rfl ?_
              refine WL.done ?_
              refine W.condF rfl ?_
              refine W.exit ?_
              refine W.seq ?_
              refine W.seq ?_
              refine W.region ?_
              refine WL.move rfl rfl ?_
              refine WL.move rfl rfl ?_
              refine WL.gtr rfl rfl rfl (fun c27 => ?_) (fun c27 => ?_)
              · refine WL.done ?_
                refine W.condT rfl ?_
                refine W.seq ?_
                refine W.region ?_
                refine WL.assign rfl rfl ?_
                refine WL.assign rfl rfl ?_
                refine WL.done ?_
                refine W.ret ?_
                refine ⟨_, rfl, ?_⟩
                first
                | (rw [expS_zero (by omega) (by omega)]; exact ⟨rfl, hB⟩)
                | (rw [hX, hY, hZ, expS_pos (by omega), prS_big (show m < q ^ k by omega)]; exact ⟨rfl, hB⟩)
                | (have hqk : q ^ k = q ^ j := exp_same hj (by omega) (by omega)
                   rw [hX, hY, hZ, expS_pos (by omega), hqk]; first | (rw [prS_ok (by omega)]; exact ⟨rfl, hB⟩) | (rw [prS_big (by omega)]; exact ⟨rfl, hB⟩))
              · refine WL.done ?_
                refine W.condF rfl ?_
                refine W.skip ?_
                refine W.seq ?_
                refine W.region ?_
                refine WL.move rfl rfl ?_
                refine WL.assign rfl rfl ?_
                refine WL.assign rfl rfl ?_
                refine WL.done ?_
                refine W.ret ?_
                refine ⟨_, rfl, ?_⟩
                first
                | (rw [expS_zero (by omega) (by omega)]; exact ⟨rfl, hB⟩)
                | (rw [hX, hY, hZ, expS_pos (by omega), prS_big (show m < q ^ k by omega)]; exact ⟨rfl, hB⟩)
                | (have hqk : q ^ k = q ^ j := exp_same hj (by omega) (by omega)
                   rw [hX, hY, hZ, expS_pos (by omega), hqk]; first | (rw [prS_ok (by omega)]; exact ⟨rfl, hB⟩) | (rw [prS_big (by omega)]; exact ⟨rfl, hB⟩))

theorem rExp_c {w : World} {X : Int} (hX : -9223372036854775808 ≤ X ∧ X ≤ 9223372036854775807) {Y : Int} (hY : -9223372036854775808 ≤ Y ∧ Y ≤ 9223372036854775807) {Z : Int} (hZ : -9223372036854775808 ≤ Z ∧ Z ≤ 9223372036854775807) : Calls Try.prog 45 #[.int .i64 X, .int .i64 Y, .int .i64 Z] w fun e w2 => ∃ v, e = .returned v ∧ (fun v w2 => v = .tuple #[.int .i64 (((expS X Y Z).1 : Nat) : Int), .int .i64 (((expS X Y Z).2 : Nat) : Int)] ∧ w.grownBy w2 none) v w2 := by
  by_cases h : X < 0 ∨ Y < 0 ∨ Z < 0
  · exact rExp_neg hX hY hZ h
  · exact rExp_nn X.toNat (by omega) Y.toNat (by omega) Z.toNat (by omega) (by omega) (by omega) (by omega)

theorem rChoose_neg {w : World} {X : Int} (hX : -9223372036854775808 ≤ X ∧ X ≤ 9223372036854775807) {Y : Int} (hY : -9223372036854775808 ≤ Y ∧ Y ≤ 9223372036854775807) {Z : Int} (hZ : -9223372036854775808 ≤ Z ∧ Z ≤ 9223372036854775807) (hng : X < 0 ∨ Y < 0 ∨ Z < 0) :
    Calls Try.prog 47 #[.int .i64 X, .int .i64 Y, .int .i64 Z] w fun e w2 => ∃ v, e = .returned v ∧ (fun v w2 => v = .tuple #[.int .i64 (((chooseS X Y Z).1 : Nat) : Int), .int .i64 (((chooseS X Y Z).2 : Nat) : Int)] ∧ w.grownBy w2 none) v w2 := by
  have hB := ext_refl w
  refine calls_of_W (vs := [.int .i64 X, .int .i64 Y, .int .i64 Z]) [6, 7] Try.func47 rfl rfl rfl rfl ?_
  refine W.seq ?_
  refine W.region ?_
  refine WL.assign rfl rfl ?_
  refine WL.assign rfl rfl ?_
  refine WL.done ?_
  refine W.seq ?_
  refine W.seq ?_
  refine W.region ?_
  refine WL.move rfl rfl ?_
  refine WL.lss rfl rfl rfl (fun c11 => ?_) (fun c11 => ?_)
  · refine WL.move rfl rfl ?_
    refine WL.pass rfl rfl rfl ?_
    refine WL.pass rfl rfl rfl ?_
    refine WL.pick rfl rfl rfl ?_
    refine WL.move rfl rfl ?_
    refine WL.pass rfl rfl rfl ?_
    refine WL.pass rfl rfl rfl ?_
    refine WL.pick rfl rfl rfl ?_
    refine WL.done ?_
    refine W.condT rfl ?_
    refine W.seq ?_
    refine W.region ?_
    refine WL.assign rfl rfl ?_
    refine WL.assign rfl rfl ?_
    refine WL.done ?_
    refine W.ret ?_
    refine ⟨_, rfl, ?_⟩
    rw [chooseS_neg hng]
    exact ⟨rfl, hB⟩
  · refine WL.move rfl rfl ?_
    refine WL.take rfl ?_
    refine WL.move rfl rfl ?_
    refine WL.take rfl ?_
    refine WL.lss rfl rfl rfl (fun c12 => ?_) (fun c12 => ?_)
    · refine WL.pick rfl rfl rfl ?_
      refine WL.move rfl rfl ?_
      refine WL.pass rfl rfl rfl ?_
      refine WL.pass rfl rfl rfl ?_
      refine WL.pick rfl rfl rfl ?_
      refine WL.done ?_
      refine W.condT rfl ?_
      refine W.seq ?_
      refine W.region ?_
      refine WL.assign rfl rfl ?_
      refine WL.assign rfl rfl ?_
      refine WL.done ?_
      refine W.ret ?_
      refine ⟨_, rfl, ?_⟩
      rw [chooseS_neg hng]
      exact ⟨rfl, hB⟩
    · refine WL.pick rfl rfl rfl ?_
      refine WL.move rfl rfl ?_
      refine WL.take rfl ?_
      refine WL.move rfl rfl ?_
      refine WL.take rfl ?_
      refine WL.lss rfl rfl rfl (fun c13 => ?_) (fun c13 => ?_)
      · refine WL.pick rfl rfl rfl ?_
        refine WL.done ?_
        refine W.condT rfl ?_
        refine W.seq ?_
        refine W.region ?_
        refine WL.assign rfl rfl ?_
        refine WL.assign rfl rfl ?_
        refine WL.done ?_
        refine W.ret ?_
        refine ⟨_, rfl, ?_⟩
        rw [chooseS_neg hng]
        exact ⟨rfl, hB⟩
      · exfalso
        omega

theorem rChoose_nn {w : World} (q : Nat) {X : Int} (hX : X = q) (k : Nat) {Y : Int} (hY : Y = k) (m : Nat) {Z : Int} (hZ : Z = m) (hq : q < 9223372036854775808) (hk : k < 9223372036854775808) (hm : m < 9223372036854775808) :
    Calls Try.prog 47 #[.int .i64 X, .int .i64 Y, .int .i64 Z] w fun e w2 => ∃ v, e = .returned v ∧ (fun v w2 => v = .tuple #[.int .i64 (((chooseS X Y Z).1 : Nat) : Int), .int .i64 (((chooseS X Y Z).2 : Nat) : Int)] ∧ w.grownBy w2 none) v w2 := by
  have hB := ext_refl w
  refine calls_of_W (vs := [.int .i64 X, .int .i64 Y, .int .i64 Z]) [6, 7] Try.func47 rfl rfl rfl rfl ?_
  refine W.seq ?_
  refine W.region ?_
  refine WL.assign rfl rfl ?_
  refine WL.assign rfl rfl ?_
  refine WL.done ?_
  refine W.seq ?_
  refine W.seq ?_
  refine W.region ?_
  refine WL.move rfl rfl ?_
  refine WL.lss rfl rfl rfl (fun c11 => ?_) (fun c11 => ?_)
  · exfalso
    omega
  · refine WL.move rfl rfl ?_
    refine WL.take rfl ?_
    refine WL.move rfl rfl ?_
    refine WL.take rfl ?_
    refine WL.lss rfl rfl rfl (fun c12 => ?_) (fun c12 => ?_)
    · exfalso
      omega
    · refine WL.pick rfl rfl rfl ?_
      refine WL.move rfl rfl ?_
      refine WL.take rfl ?_
      refine WL.move rfl rfl ?_
      refine WL.take rfl ?_
      refine WL.lss rfl rfl rfl (fun c13 => ?_) (fun c13 => ?_)
      · exfalso
        omega
      · refine WL.pick rfl rfl rfl ?_
        refine WL.done ?_
        refine W.condF rfl ?_
        refine W.skip ?_
        refine W.seq ?_
        refine W.seq ?_
        refine W.region ?_
        refine WL.move rfl rfl ?_
        refine WL.move rfl rfl ?_
        refine WL.gtr rfl rfl rfl (fun c14 => ?_) (fun c14 => ?_)
        · refine WL.done ?_
          refine W.condT rfl ?_
          refine W.seq ?_
          refine W.region ?_
          refine WL.assign rfl rfl ?_
          refine WL.assign rfl rfl ?_
          refine WL.done ?_
          refine W.ret ?_
          refine ⟨_, rfl, ?_⟩
          first
          | (rw [chooseS_zero (by omega) (by omega)]; exact ⟨rfl, hB⟩)
          | (rw [hX, hY, hZ, chooseS_pos (by omega), prS_big (show m < choose q k by omega)]; exact ⟨rfl, hB⟩)
          | (have hie : i = min k (q - k) := by omega
             have hcc : choose (q - min k (q - k) + i) i = choose q k := (by rw [hie]; exact hce)
             rw [hX, hY, hZ, chooseS_pos (by omega), ← hcc]; first | (rw [prS_ok (by omega)]; exact ⟨rfl, hB⟩) | (rw [prS_big (by omega)]; exact ⟨rfl, hB⟩))
        · refine WL.done ?_
          refine W.condF rfl ?_
          refine W.skip ?_
          refine W.seq ?_
          refine W.region ?_
          refine WL.move rfl rfl ?_
          refine WL.move rfl rfl ?_
          refine WL.move rfl rfl ?_
          refine WL.sub (r := ((q - k : Nat) : Int)) rfl rfl (wi64 (by omega) (by omega) (by omega)) rfl ?_
          refine WL.min2 (r := ((min k (q - k) : Nat) : Int)) rfl rfl (by omega) rfl ?_
          refine WL.assign rfl rfl ?_
          refine WL.done ?_
          refine W.seq ?_
          refine W.region ?_
          refine WL.assign rfl rfl ?_
          refine WL.done ?_
          refine W.seq ?_
          refine W.seq ?_
          refine W.region ?_
          have hp00 : choose (q - min k (q - k) + 0) 0 = 1 := choose_zero _
          refine WL.assign rfl rfl ?_
          refine WL.done ?_
          refine W.block ?_
          refine W.loop (σ := Nat) (fun i w1 => w.grownBy w1 none ∧ i ≤ min k (q - k) ∧ (i = 0 ∨ choose (q - min k (q - k) + i) i ≤ m)) (fun i => [(0, .int .i64 X), (1, .int .i64 ((min k (q - k) : Nat) : Int)), (2, .int .i64 Z), (8, .int .i64 ((choose (q - min k (q - k) + i) i : Nat) : Int)), (9, .int .i64 ((i + 1 : Nat) : Int))]) (fun i => min k (q - k) - i) 0 ?_ ?_ ?_
          · exact ⟨hB, by omega, by omega⟩
          · exact ⟨iv (by omega), iv (by omega), iv (by omega), iv (by omega), iv (by omega), trivial⟩
          · rintro i w15 ⟨hB, hi, hok⟩
            have hp0 : i = 0 → choose (q - min k (q - k) + i) i = 1 := fun h => by subst h; exact choose_zero _
            have hcm := choose_mono (q - min k (q - k)) hi
            have hce : choose (q - min k (q - k) + min k (q - k)) (min k (q - k)) = choose q k := by rw [show q - min k (q - k) + min k (q - k) = q by omega]; exact choose_min (by omega)
            refine W.seq ?_
            refine W.seq ?_
            refine W.region ?_
            refine WL.move rfl rfl ?_
            refine WL.move rfl rfl ?_
            refine WL.leq rfl rfl rfl (fun c16 => ?_) (fun c16 => ?_)
            · refine WL.move rfl rfl ?_
              refine WL.take rfl ?_
              refine WL.move rfl rfl ?_
              refine WL.take rfl ?_
              refine WL.move rfl rfl ?_
              refine WL.take rfl ?_
              refine WL.leq rfl rfl rfl (fun c17 => ?_) (fun c17 => ?_)
              · refine WL.pick rfl rfl rfl ?_
                refine WL.done ?_
                refine W.condT rfl ?_
                refine W.skip ?_
                refine W.seq ?_
                refine W.block ?_
                refine W.seq ?_
                have hcp : 0 < choose (q - min k (q - k) + i) i := choose_pos (by omega); obtain ⟨hdv, hip, hval⟩ := choose_red (c := choose (q - min k (q - k) + i) i) (i := i + 1) (s := q - min k (q - k) + i + 1) (by omega) hcp (choose_step (q - min k (q - k)) i); have hgp : 0 < Nat.gcd (choose (q - min k (q - k) + i) i) (i + 1) := Nat.gcd_pos_of_pos_right _ (by omega); have hd1 := Nat.div_le_self (choose (q - min k (q - k) + i) i) (Nat.gcd (choose (q - min k (q - k) + i) i) (i + 1)); have hd2 := Nat.div_le_self (i + 1) (Nat.gcd (choose (q - min k (q - k) + i) i) (i + 1)); have hd3 := Nat.div_le_self (q - min k (q - k) + i + 1) ((i + 1) / Nat.gcd (choose (q - min k (q - k) + i) i) (i + 1)); have hup : 0 < ((q - min k (q - k) + i + 1) / ((i + 1) / Nat.gcd (choose (q - min k (q - k) + i) i) (i + 1))) := Nat.div_pos (Nat.le_of_dvd (by omega) hdv) hip; have hgt := @gt_div ((choose (q - min k (q - k) + i) i) / Nat.gcd (choose (q - min k (q - k) + i) i) (i + 1)) ((q - min k (q - k) + i + 1) / ((i + 1) / Nat.gcd (choose (q - min k (q - k) + i) i) (i + 1))) m hup; rw [hval] at hgt; have hcj := choose_mono (q - min k (q - k)) (show i + 1 ≤ min k (q - k) by omega); rw [← Nat.add_assoc] at hcj; have hco : choose (q - min k (q - k) + (i + 1)) (i + 1) = choose (q - min k (q - k) + i + 1) (i + 1) := rfl
                · refine W.region ?_
                  refine WL.move rfl rfl ?_
                  refine WL.move rfl rfl ?_
                  refine WL.call Try.func58 rfl Try.nm58 rfl rfl (rgcd_c (choose (q - min k (q - k) + i) i) (by omega) (i + 1) (by omega) (by omega) (by omega)) ?_
                  rintro _ w18 ⟨rfl, hGw18⟩
                  have hB := ext_trans hB hGw18
                  refine WL.assign rfl rfl ?_
                  refine WL.done ?_
                  refine W.seq ?_
                  refine W.region ?_
                  refine WL.move rfl rfl ?_
                  refine WL.move rfl rfl ?_
                  refine WL.sub (r := ((q - min k (q - k) : Nat) : Int)) rfl rfl (wi64 (by omega) (by omega) (by omega)) rfl ?_
                  refine WL.move rfl rfl ?_
                  refine WL.add (r := ((q - min k (q - k) + i + 1 : Nat) : Int)) rfl rfl (wi64 (by omega) (by omega) (by omega)) rfl ?_
                  refine WL.move rfl rfl ?_
                  refine WL.move rfl rfl ?_
                  refine WL.quo (r := (((i + 1) / Nat.gcd (choose (q - min k (q - k) + i) i) (i + 1) : Nat) : Int)) rfl rfl (by omega) (qi64 (by omega) (by omega) (by omega)) rfl ?_
                  refine WL.quo (r := (((q - min k (q - k) + i + 1) / ((i + 1) / Nat.gcd (choose (q - min k (q - k) + i) i) (i + 1)) : Nat) : Int)) rfl rfl (by omega) (qi64 (by omega) (by omega) (by omega)) rfl ?_
                  refine WL.assign rfl rfl ?_
                  refine WL.done ?_
                  refine W.seq ?_
                  refine W.region ?_
                  refine WL.move rfl rfl ?_
                  refine WL.move rfl rfl ?_
                  refine WL.quo (r := (((choose (q - min k (q - k) + i) i) / Nat.gcd (choose (q - min k (q - k) + i) i) (i + 1) : Nat) : Int)) rfl rfl (by omega) (qi64 (by omega) (by omega) (by omega)) rfl ?_
                  refine WL.assign rfl rfl ?_
                  refine WL.done ?_
                  refine W.seq ?_
                  refine W.seq ?_
                  refine W.region ?_
                  refine WL.move rfl rfl ?_
                  refine WL.move rfl rfl ?_
                  refine WL.move rfl rfl ?_
                  refine WL.quo (r := ((m / ((q - min k (q - k) + i + 1) / ((i + 1) / Nat.gcd (choose (q - min k (q - k) + i) i) (i + 1))) : Nat) : Int)) rfl rfl (by omega) (qi64 (by omega) (by omega) (by omega)) rfl ?_
                  refine WL.gtr rfl rfl rfl (fun c19 => ?_) (fun c19 => ?_)
                  · refine WL.done ?_
                    refine W.condT rfl ?_
                    refine W.seq ?_
                    refine W.region ?_
                    refine WL.assign rfl rfl ?_
                    refine WL.assign rfl rfl ?_
                    refine WL.done ?_
                    refine W.ret ?_
                    refine ⟨_, rfl, ?_⟩
                    first
                    | (rw [chooseS_zero (by omega) (by omega)]; exact ⟨rfl, hB⟩)
                    | (rw [hX, hY, hZ, chooseS_pos (by omega), prS_big (show m < choose q k by omega)]; exact ⟨rfl, hB⟩)
                    | (have hie : i = min k (q - k) := by omega
                       have hcc : choose (q - min k (q - k) + i) i = choose q k := (by rw [hie]; exact hce)
                       rw [hX, hY, hZ, chooseS_pos (by omega), ← hcc]; first | (rw [prS_ok (by omega)]; exact ⟨rfl, hB⟩) | (rw [prS_big (by omega)]; exact ⟨rfl, hB⟩))
                  · refine WL.done ?_
                    refine W.condF rfl ?_
                    refine W.skip ?_
                    refine W.region ?_
                    refine WL.move rfl rfl ?_
                    refine WL.move rfl rfl ?_
                    refine WL.mul (r := ((choose (q - min k (q - k) + (i + 1)) (i + 1) : Nat) : Int)) rfl rfl (by rw [← Int.natCast_mul, hval]; exact wi64n (by omega)) rfl ?_
                    refine WL.assign rfl rfl ?_
                    refine WL.done ?_
                    refine W.region ?_
                    refine WL.move rfl rfl ?_
                    refine WL.add (r := (((i + 1) + 1 : Nat) : Int)) rfl rfl (wi64 (by omega) (by omega) (by omega)) rfl ?_
                    refine WL.assign rfl rfl ?_
                    refine WL.done ?_
                    refine ⟨(i + 1), ⟨iv (by omega), iv (by omega), iv (by omega), iv (by omega), iv (by omega), trivial⟩, by omega, ?_⟩
                    exact ⟨hB, by omega, by omega⟩
              · refine WL.pick rfl rfl rfl ?_
                refine WL.done ?_
                refine W.condF rfl ?_
                refine W.exit ?_
                refine W.seq ?_
                refine W.seq ?_
                refine W.region ?_
                refine WL.move rfl rfl ?_
                refine WL.move rfl rfl ?_
                refine WL.gtr rfl rfl rfl (fun c20 => ?_) (fun c20 => ?_)
                · refine WL.done ?_
                  refine W.condT rfl ?_
                  refine W.seq ?_
                  refine W.region ?_
                  refine WL.assign rfl rfl ?_
                  refine WL.assign rfl rfl ?_
                  refine WL.done ?_
                  refine W.ret ?_
                  refine ⟨_, rfl, ?_⟩
                  first
                  | (rw [chooseS_zero (by omega) (by omega)]; exact ⟨rfl, hB⟩)
                  | (rw [hX, hY, hZ, chooseS_pos (by omega), prS_big (show m < choose q k by omega)]; exact ⟨rfl, hB⟩)
                  | (have hie : i = min k (q - k) := by omega
                     have hcc : choose (q - min k (q - k) + i) i = choose q k := (by rw [hie]; exact hce)
                     rw [hX, hY, hZ, chooseS_pos (by omega), ← hcc]; first | (rw [prS_ok (by omega)]; exact ⟨rfl, hB⟩) | (rw [prS_big (by omega)]; exact ⟨rfl, hB⟩))
                · refine WL.done ?_
                  refine W.condF rfl ?_
                  refine W.skip ?_
                  refine W.seq ?_
                  refine W.region ?_
                  refine WL.move rfl rfl ?_
                  refine WL.assign rfl rfl ?_
                  refine WL.assign rfl rfl ?_
                  refine WL.done ?_
                  refine W.ret ?_
                  refine ⟨_, rfl, ?_⟩
                  first
                  | (rw [chooseS_zero (by omega) (by omega)]; exact ⟨rfl, hB⟩)
                  | (rw [hX, hY, hZ, chooseS_pos (by omega), prS_big (show m < choose q k by omega)]; exact ⟨rfl, hB⟩)
                  | (have hie : i = min k (q - k) := by omega
                     have hcc : choose (q - min k (q - k) + i) i = choose q k := (by rw [hie]; exact hce)
                     rw [hX, hY, hZ, chooseS_pos (by omega), ← hcc]; first | (rw [prS_ok (by omega)]; exact ⟨rfl, hB⟩) | (rw [prS_big (by omega)]; exact ⟨rfl, hB⟩))
            · refine WL.move rfl rfl ?_
              refine WL.pass rfl rfl rfl ?_
              refine WL.pass rfl rfl rfl ?_
              refine WL.pass rfl rfl rfl ?_
              refine WL.pick rfl rfl rfl ?_
              refine WL.done ?_
              refine W.condF rfl ?_
              refine W.exit ?_
              refine W.seq ?_
              refine W.seq ?_
              refine W.region ?_
              refine WL.move rfl rfl ?_
              refine WL.move rfl rfl ?_
              refine WL.gtr rfl rfl rfl (fun c21 => ?_) (fun c21 => ?_)
              · refine WL.done ?_
                refine W.condT rfl ?_
                refine W.seq ?_
                refine W.region ?_
                refine WL.assign rfl rfl ?_
                refine WL.assign rfl rfl ?_
                refine WL.done ?_
                refine W.ret ?_
                refine ⟨_, rfl, ?_⟩
                first
                | (rw [chooseS_zero (by omega) (by omega)]; exact ⟨rfl, hB⟩)
                | (rw [hX, hY, hZ, chooseS_pos (by omega), prS_big (show m < choose q k by omega)]; exact ⟨rfl, hB⟩)
                | (have hie : i = min k (q - k) := by omega
                   have hcc : choose (q - min k (q - k) + i) i = choose q k := (by rw [hie]; exact hce)
                   rw [hX, hY, hZ, chooseS_pos (by omega), ← hcc]; first | (rw [prS_ok (by omega)]; exact ⟨rfl, hB⟩) | (rw [prS_big (by omega)]; exact ⟨rfl, hB⟩))
              · refine WL.done ?_
                refine W.condF rfl ?_
                refine W.skip ?_
                refine W.seq ?_
                refine W.region ?_
                refine WL.move rfl rfl ?_
                refine WL.assign rfl rfl ?_
                refine WL.assign rfl rfl ?_
                refine WL.done ?_
                refine W.ret ?_
                refine ⟨_, rfl, ?_⟩
                first
                | (rw [chooseS_zero (by omega) (by omega)]; exact ⟨rfl, hB⟩)
                | (rw [hX, hY, hZ, chooseS_pos (by omega), prS_big (show m < choose q k by omega)]; exact ⟨rfl, hB⟩)
                | (have hie : i = min k (q - k) := by omega
                   have hcc : choose (q - min k (q - k) + i) i = choose q k := (by rw [hie]; exact hce)
                   rw [hX, hY, hZ, chooseS_pos (by omega), ← hcc]; first | (rw [prS_ok (by omega)]; exact ⟨rfl, hB⟩) | (rw [prS_big (by omega)]; exact ⟨rfl, hB⟩))

theorem rChoose_c {w : World} {X : Int} (hX : -9223372036854775808 ≤ X ∧ X ≤ 9223372036854775807) {Y : Int} (hY : -9223372036854775808 ≤ Y ∧ Y ≤ 9223372036854775807) {Z : Int} (hZ : -9223372036854775808 ≤ Z ∧ Z ≤ 9223372036854775807) : Calls Try.prog 47 #[.int .i64 X, .int .i64 Y, .int .i64 Z] w fun e w2 => ∃ v, e = .returned v ∧ (fun v w2 => v = .tuple #[.int .i64 (((chooseS X Y Z).1 : Nat) : Int), .int .i64 (((chooseS X Y Z).2 : Nat) : Int)] ∧ w.grownBy w2 none) v w2 := by
  by_cases h : X < 0 ∨ Y < 0 ∨ Z < 0
  · exact rChoose_neg hX hY hZ h
  · exact rChoose_nn X.toNat (by omega) Y.toNat (by omega) Z.toNat (by omega) (by omega) (by omega) (by omega)

theorem rChinese_c {w : World} {Br : Nat} {Ar : Option Addr} {mr cr : Nat} {xr : List Int} (hr : Rd Br w 1 Ar mr cr (is xr)) {Bm : Nat} {Am : Option Addr} {mm cm : Nat} {xm : List Int} (hm : Rd Bm w 1 Am mm cm (is xm)) (hIr : ILim xr) (hIm : ILim xm) (X Q er : Nat) (hR : ChiR xr xm X Q er) :
    Calls Try.prog 41 #[.slice Ar mr cr, .slice Am mm cm] w fun e w2 => ∃ v, e = .returned v ∧ (fun v w2 => v = .tuple #[.int .i64 ((X : Nat) : Int), .int .i64 ((Q : Nat) : Int), .int .i64 ((er : Nat) : Int)] ∧ w.grownBy w2 none) v w2 := by
  have hr := hr.norm
  have hr_l := hr.ilen
  have hr_x := hr.max
  simp only [maxLen] at hr_x
  have hr_c := hr.cap
  have hr0 := hr
  have hm := hm.norm
  have hm_l := hm.ilen
  have hm_x := hm.max
  simp only [maxLen] at hm_x
  have hm_c := hm.cap
  have hm0 := hm
  have hB := ext_refl w
  refine calls_of_W (vs := [.slice Ar mr cr, .slice Am mm cm]) [4, 5, 6] Try.func41 rfl rfl rfl rfl ?_
  refine W.seq ?_
  refine W.region ?_
  refine WL.assign rfl rfl ?_
  refine WL.assign rfl rfl ?_
  refine WL.assign rfl rfl ?_
  refine WL.done ?_
  refine W.seq ?_
  refine W.seq ?_
  refine W.region ?_
  refine WL.move rfl rfl ?_
  refine WL.len Try.underlying29 rfl rfl ?_
  refine WL.move rfl rfl ?_
  refine WL.len Try.underlying29 rfl rfl ?_
  refine WL.neq rfl rfl rfl (fun c11 => ?_) (fun c11 => ?_)
  · refine WL.done ?_
    refine W.condT rfl ?_
    refine W.seq ?_
    refine W.region ?_
    refine WL.assign rfl rfl ?_
    refine WL.assign rfl rfl ?_
    refine WL.assign rfl rfl ?_
    refine WL.done ?_
    refine W.ret ?_
    refine ⟨_, rfl, ?_⟩
    first
    | (obtain ⟨k1, k2, k3⟩ := chi_shape hR (by omega); subst k1 k2 k3; exact ⟨rfl, hB⟩)
    | (obtain ⟨k1, k2, k3⟩ := chi_range hR (by omega) (imem (l := xm) (j := i) (by omega)) z; subst k1 k2 k3; exact ⟨rfl, hB⟩)
    | (obtain ⟨k1, k2, k3⟩ := chi_big hR (by omega) hall (show 2147483647 < prodI xm by omega); subst k1 k2 k3; exact ⟨rfl, hB⟩)
    | (have k0 := hC.failI (by omega) (by rw [show xm.getD i 0 = (((xm.getD i 0).toNat : Nat) : Int) by omega, Int.natAbs_natCast]; omega)
       rcases hRR with ⟨_, k1, k2, k3⟩ | ⟨k1, _⟩
       · subst k1 k2 k3; exact ⟨rfl, hB⟩
       · rw [k0] at k1; cases k1)
    | (have k0 := hC.doneI (by omega)
       rcases hRR with ⟨k1, _⟩ | ⟨k1, k3⟩
       · rw [k0] at k1; cases k1
       · rw [k0] at k1; cases k1; subst k3; exact ⟨rfl, hB⟩)
  · refine WL.done ?_
    refine W.condF rfl ?_
    refine W.skip ?_
    refine W.seq ?_
    refine W.seq ?_
    refine W.region ?_
    refine WL.assign rfl rfl ?_
    refine WL.done ?_
    refine W.block ?_
    refine W.loop (σ := Nat) (fun i w1 => w.grownBy w1 none ∧ i ≤ mm ∧ (∀ j, j < i → 1 ≤ xm.getD j 0 ∧ xm.getD j 0 ≤ 2147483647)) (fun i => [(0, .slice Ar mr cr), (1, .slice Am mm cm), (7, .int .i64 ((i : Nat) : Int))]) (fun i => mm - i) 0 ?_ ?_ ?_
    · exact ⟨hB, by omega, fun j h => by omega⟩
    · exact ⟨rfl, rfl, iv (by omega), trivial⟩
    · rintro i w12 ⟨hB, hi, hal⟩
      have hr := hr0.ext hB
      have hm := hm0.ext hB
      refine W.seq ?_
      refine W.seq ?_
      refine W.region ?_
      refine WL.move rfl rfl ?_
      refine WL.move rfl rfl ?_
      refine WL.len Try.underlying29 rfl rfl ?_
      refine WL.lss rfl rfl rfl (fun c13 => ?_) (fun c13 => ?_)
      · refine WL.done ?_
        refine W.condT rfl ?_
        refine W.skip ?_
        refine W.seq ?_
        refine W.block ?_
        refine W.seq ?_
        have hIi := hIm.getD i
        · refine W.region ?_
          refine WL.move rfl rfl ?_
          refine WL.move rfl rfl ?_
          refine WL.index1 (i) Try.underlying29 Try.el3 rfl rfl (by omega) (by omega) hm rfl ?_
          refine WL.load Try.underlying3 rfl rfl (Rd.at_ hm (is_at (by omega))) rfl ?_
          refine WL.call Try.func50 rfl Try.nm50 rfl rfl (rin_c (by omega)) ?_
          rintro _ w14 ⟨bz, rfl, hGw14, z_t, z_f⟩
          have hB := ext_trans hB hGw14
          rcases bz with _ | _
          · have z := z_f rfl
            refine WL.not rfl rfl ?_
            refine WL.done ?_
            refine W.condT rfl ?_
            refine W.seq ?_
            refine W.region ?_
            refine WL.assign rfl rfl ?_
            refine WL.assign rfl rfl ?_
            refine WL.assign rfl rfl ?_
            refine WL.done ?_
            refine W.ret ?_
            refine ⟨_, rfl, ?_⟩
            first
            | (obtain ⟨k1, k2, k3⟩ := chi_shape hR (by omega); subst k1 k2 k3; exact ⟨rfl, hB⟩)
            | (obtain ⟨k1, k2, k3⟩ := chi_range hR (by omega) (imem (l := xm) (j := i) (by omega)) z; subst k1 k2 k3; exact ⟨rfl, hB⟩)
            | (obtain ⟨k1, k2, k3⟩ := chi_big hR (by omega) hall (show 2147483647 < prodI xm by omega); subst k1 k2 k3; exact ⟨rfl, hB⟩)
            | (have k0 := hC.failI (by omega) (by rw [show xm.getD i 0 = (((xm.getD i 0).toNat : Nat) : Int) by omega, Int.natAbs_natCast]; omega)
               rcases hRR with ⟨_, k1, k2, k3⟩ | ⟨k1, _⟩
               · subst k1 k2 k3; exact ⟨rfl, hB⟩
               · rw [k0] at k1; cases k1)
            | (have k0 := hC.doneI (by omega)
               rcases hRR with ⟨k1, _⟩ | ⟨k1, k3⟩
               · rw [k0] at k1; cases k1
               · rw [k0] at k1; cases k1; subst k3; exact ⟨rfl, hB⟩)
          · have z := z_t rfl
            refine WL.not rfl rfl ?_
            refine WL.done ?_
            refine W.condF rfl ?_
            refine W.skip ?_
            refine W.region ?_
            refine WL.move rfl rfl ?_
            refine WL.add (r := ((i + 1 : Nat) : Int)) rfl rfl (wi64 (by omega) (by omega) (by omega)) rfl ?_
            refine WL.assign rfl rfl ?_
            refine WL.done ?_
            refine ⟨i + 1, ⟨rfl, rfl, iv (by omega), trivial⟩, by omega, ?_⟩
            exact ⟨hB, by omega, fun j h => by
              rcases Nat.lt_succ_iff_lt_or_eq.1 h with h1 | h1
              · exact hal j h1
              · rw [h1]; exact z⟩
      · refine WL.done ?_
        refine W.condF rfl ?_
        refine W.exit ?_
        refine W.seq ?_
        refine W.region ?_
        have hall := of_iget (P := fun m => 1 ≤ m ∧ m ≤ 2147483647) (l := xm) (fun j hj => hal j (by omega))
        have hmono := prodI_mono (l := xm) (fun x hx => by have := hall x hx; omega)
        refine WL.assign rfl rfl ?_
        refine WL.done ?_
        refine W.seq ?_
        refine W.seq ?_
        refine W.region ?_
        have hp00 : prodI (xm.take 0) = 1 := rfl
        refine WL.assign rfl rfl ?_
        refine WL.done ?_
        refine W.block ?_
        refine W.loop (σ := Nat) (fun i w1 => w.grownBy w1 none ∧ i ≤ mm ∧ prodI (xm.take i) ≤ 2147483647) (fun i => [(0, .slice Ar mr cr), (1, .slice Am mm cm), (8, .int .i64 ((prodI (xm.take i) : Nat) : Int)), (9, .int .i64 ((i : Nat) : Int))]) (fun i => mm - i) 0 ?_ ?_ ?_
        · exact ⟨hB, by omega, (show 1 ≤ 2147483647 by decide)⟩
        · exact ⟨rfl, rfl, iv (by omega), iv (by omega), trivial⟩
        · rintro i w15 ⟨hB, hi, hpi⟩
          have hr := hr0.ext hB
          have hm := hm0.ext hB
          refine W.seq ?_
          refine W.seq ?_
          refine W.region ?_
          refine WL.move rfl rfl ?_
          refine WL.move rfl rfl ?_
          refine WL.len Try.underlying29 rfl rfl ?_
          refine WL.lss rfl rfl rfl (fun c16 => ?_) (fun c16 => ?_)
          · refine WL.done ?_
            refine W.condT rfl ?_
            refine W.skip ?_
            refine W.seq ?_
            refine W.block ?_
            refine W.seq ?_
            refine W.seq ?_
            have hil : i < xm.length := (by omega); have hmr := hall _ (imem hil); have hpt := prodI_take hil; have hgt := @gt_div (prodI (xm.take i)) ((xm.getD i 0).toNat) 2147483647 (by omega); have hmj := hmono (i + 1)
            · refine W.region ?_
              refine WL.move rfl rfl ?_
              refine WL.move rfl rfl ?_
              refine WL.move rfl rfl ?_
              refine WL.index1 (i) Try.underlying29 Try.el3 rfl rfl (by omega) (by omega) hm rfl ?_
              refine WL.load Try.underlying3 rfl rfl (Rd.at_ hm (is_at (by omega))) rfl ?_
              refine WL.quo (r := ((2147483647 / (xm.getD i 0).toNat : Nat) : Int)) rfl rfl (by omega) (qi64 (a := 2147483647) (b := (xm.getD i 0).toNat) (by omega) (by omega) (by omega)) rfl ?_
              refine WL.gtr rfl rfl rfl (fun c17 => ?_) (fun c17 => ?_)
              · refine WL.done ?_
                refine W.condT rfl ?_
                refine W.seq ?_
                refine W.region ?_
                refine WL.assign rfl rfl ?_
                refine WL.assign rfl rfl ?_
                refine WL.assign rfl rfl ?_
                refine WL.done ?_
                refine W.ret ?_
                refine ⟨_, rfl, ?_⟩
                first
                | (obtain ⟨k1, k2, k3⟩ := chi_shape hR (by omega); subst k1 k2 k3; exact ⟨rfl, hB⟩)
                | (obtain ⟨k1, k2, k3⟩ := chi_range hR (by omega) (imem (l := xm) (j := i) (by omega)) z; subst k1 k2 k3; exact ⟨rfl, hB⟩)
                | (obtain ⟨k1, k2, k3⟩ := chi_big hR (by omega) hall (show 2147483647 < prodI xm by omega); subst k1 k2 k3; exact ⟨rfl, hB⟩)
                | (have k0 := hC.failI (by omega) (by rw [show xm.getD i 0 = (((xm.getD i 0).toNat : Nat) : Int) by omega, Int.natAbs_natCast]; omega)
                   rcases hRR with ⟨_, k1, k2, k3⟩ | ⟨k1, _⟩
                   · subst k1 k2 k3; exact ⟨rfl, hB⟩
                   · rw [k0] at k1; cases k1)
                | (have k0 := hC.doneI (by omega)
                   rcases hRR with ⟨k1, _⟩ | ⟨k1, k3⟩
                   · rw [k0] at k1; cases k1
                   · rw [k0] at k1; cases k1; subst k3; exact ⟨rfl, hB⟩)
              · refine WL.done ?_
                refine W.condF rfl ?_
                refine W.skip ?_
                refine W.region ?_
                refine WL.move rfl rfl ?_
                refine WL.move rfl rfl ?_
                refine WL.move rfl rfl ?_
                refine WL.index1 (i) Try.underlying29 Try.el3 rfl rfl (by omega) (by omega) hm rfl ?_
                refine WL.load Try.underlying3 rfl rfl (Rd.at_ hm (is_at (by omega))) rfl ?_
                refine WL.mul (r := ((prodI (xm.take (i + 1)) : Nat) : Int)) rfl rfl (by rw [show (xm.getD i 0) = (((xm.getD i 0).toNat : Nat) : Int) by omega, ← Int.natCast_mul, ← hpt]; exact wi64n (by omega)) rfl ?_
                refine WL.assign rfl rfl ?_
                refine WL.done ?_
                refine W.region ?_
                refine WL.move rfl rfl ?_
                refine WL.add (r := ((i + 1 : Nat) : Int)) rfl rfl (wi64 (by omega) (by omega) (by omega)) rfl ?_
                refine WL.assign rfl rfl ?_
                refine WL.done ?_
                refine ⟨(i + 1), ⟨rfl, rfl, iv (by omega), iv (by omega), trivial⟩, by omega, ?_⟩
                exact ⟨hB, by omega, by omega⟩
          · refine WL.done ?_
            refine W.condF rfl ?_
            refine W.exit ?_
            refine W.seq ?_
            refine W.region ?_
            have hie0 : i = xm.length := by omega
            rw [hie0, List.take_length] at hpi
            obtain ⟨R0, hC0, hRR⟩ := chi_fin hR (by omega) hall hpi
            refine WL.assign rfl rfl ?_
            refine WL.assign rfl rfl ?_
            refine WL.done ?_
            refine W.seq ?_
            refine W.seq ?_
            refine W.region ?_
            refine WL.assign rfl rfl ?_
            refine WL.done ?_
            refine W.block ?_
            refine W.loop (σ := Nat × Nat × Nat) (fun s w1 => match s with | (i, x, p) => w.grownBy w1 none ∧ i ≤ mm ∧ Chin xr xm i x p R0 ∧ p = prodI (xm.take i) ∧ x < p) (fun s => match s with | (i, x, p) => [(0, .slice Ar mr cr), (1, .slice Am mm cm), (8, .int .i64 ((p : Nat) : Int)), (10, .int .i64 ((x : Nat) : Int)), (11, .int .i64 ((i : Nat) : Int))]) (fun s => match s with | (i, x, p) => mm - i) (0, 0, 1) ?_ ?_ ?_
            · exact ⟨hB, by omega, hC0, rfl, by omega⟩
            · exact ⟨rfl, rfl, iv (by omega), iv (by omega), iv (by omega), trivial⟩
            · rintro ⟨i, x, p⟩ w18 ⟨hB, hi, hC, hp, hxp⟩
              have hr := hr0.ext hB
              have hm := hm0.ext hB
              refine W.seq ?_
              refine W.seq ?_
              refine W.region ?_
              refine WL.move rfl rfl ?_
              refine WL.move rfl rfl ?_
              refine WL.len Try.underlying29 rfl rfl ?_
              refine WL.lss rfl rfl rfl (fun c19 => ?_) (fun c19 => ?_)
              · refine WL.done ?_
                refine W.condT rfl ?_
                refine W.skip ?_
                refine W.seq ?_
                refine W.block ?_
                refine W.seq ?_
                have hil : i < xm.length := (by omega); have hmr := hall _ (imem hil); have hmt : (((xm.getD i 0).toNat : Nat) : Int) = xm.getD i 0 := (by omega); have hpt := prodI_take hil; have hpn := hmono (i + 1); have hpi := hmono i; have hIr := hIr.getD i; have hry := Int.emod_nonneg (xr.getD i 0) (show (((xm.getD i 0).toNat : Nat) : Int) ≠ 0 by omega); have hrz := Int.emod_lt_of_pos (xr.getD i 0) (show 0 < (((xm.getD i 0).toNat : Nat) : Int) by omega); have hrx := Int.emod_nonneg (x : Int) (show (((xm.getD i 0).toNat : Nat) : Int) ≠ 0 by omega); have hrw := Int.emod_lt_of_pos (x : Int) (show 0 < (((xm.getD i 0).toNat : Nat) : Int) by omega)
                · refine W.region ?_
                  refine WL.move rfl rfl ?_
                  refine WL.move rfl rfl ?_
                  refine WL.index1 (i) Try.underlying29 Try.el3 rfl rfl (by omega) (by omega) hm rfl ?_
                  refine WL.load Try.underlying3 rfl rfl (Rd.at_ hm (is_at (by omega))) rfl ?_
                  refine WL.assign rfl rfl ?_
                  refine WL.done ?_
                  refine W.seq ?_
                  refine W.seq ?_
                  refine W.region ?_
                  refine WL.move rfl rfl ?_
                  refine WL.move rfl rfl ?_
                  refine WL.call Try.func58 rfl Try.nm58 rfl rfl (rgcd_c p (by omega) (xm.getD i 0).toNat (by omega) (by omega) (by omega)) ?_
                  rintro _ w20 ⟨rfl, hGw20⟩
                  have hB := ext_trans hB hGw20
                  have hr := hr0.ext hB
                  refine WL.neq rfl rfl rfl (fun c21 => ?_) (fun c21 => ?_)
                  · refine WL.done ?_
                    refine W.condT rfl ?_
                    refine W.seq ?_
                    refine W.region ?_
                    refine WL.assign rfl rfl ?_
                    refine WL.assign rfl rfl ?_
                    refine WL.assign rfl rfl ?_
                    refine WL.done ?_
                    refine W.ret ?_
                    refine ⟨_, rfl, ?_⟩
                    first
                    | (obtain ⟨k1, k2, k3⟩ := chi_shape hR (by omega); subst k1 k2 k3; exact ⟨rfl, hB⟩)
                    | (obtain ⟨k1, k2, k3⟩ := chi_range hR (by omega) (imem (l := xm) (j := i) (by omega)) z; subst k1 k2 k3; exact ⟨rfl, hB⟩)
                    | (obtain ⟨k1, k2, k3⟩ := chi_big hR (by omega) hall (show 2147483647 < prodI xm by omega); subst k1 k2 k3; exact ⟨rfl, hB⟩)
                    | (have k0 := hC.failI (by omega) (by rw [show xm.getD i 0 = (((xm.getD i 0).toNat : Nat) : Int) by omega, Int.natAbs_natCast]; omega)
                       rcases hRR with ⟨_, k1, k2, k3⟩ | ⟨k1, _⟩
                       · subst k1 k2 k3; exact ⟨rfl, hB⟩
                       · rw [k0] at k1; cases k1)
                    | (have k0 := hC.doneI (by omega)
                       rcases hRR with ⟨k1, _⟩ | ⟨k1, k3⟩
                       · rw [k0] at k1; cases k1
                       · rw [k0] at k1; cases k1; subst k3; exact ⟨rfl, hB⟩)
                  · refine WL.done ?_
                    refine W.condF rfl ?_
                    refine W.skip ?_
                    refine W.seq ?_
                    refine W.region ?_
                    refine WL.move rfl rfl ?_
                    refine WL.move rfl rfl ?_
                    refine WL.index1 (i) Try.underlying29 Try.el3 rfl rfl (by omega) (by omega) hr rfl ?_
                    refine WL.load Try.underlying3 rfl rfl (Rd.at_ hr (is_at (by omega))) rfl ?_
                    refine WL.move rfl rfl ?_
                    refine WL.call Try.func38 rfl Try.nm38 rfl rfl (rMod_c (by omega) (xm.getD i 0).toNat (by omega) (by omega) (by omega)) ?_
                    rintro _ w22 ⟨rfl, hGw22⟩
                    have hB := ext_trans hB hGw22
                    refine WL.move rfl rfl ?_
                    refine WL.move rfl rfl ?_
                    refine WL.call Try.func38 rfl Try.nm38 rfl rfl (rMod_c (by omega) (xm.getD i 0).toNat (by omega) (by omega) (by omega)) ?_
                    rintro _ w23 ⟨rfl, hGw23⟩
                    have hB := ext_trans hB hGw23
                    refine WL.sub (r := (((((xr.getD i 0) % ((xm.getD i 0).toNat : Int)).toNat : Nat) : Int) - ((((x : Int) % ((xm.getD i 0).toNat : Int)).toNat : Nat) : Int))) rfl rfl (wi64 (by omega) (by omega) (by omega)) rfl ?_
                    refine WL.move rfl rfl ?_
                    refine WL.call Try.func38 rfl Try.nm38 rfl rfl (rMod_c (by omega) (xm.getD i 0).toNat (by omega) (by omega) (by omega)) ?_
                    rintro _ w24 ⟨rfl, hGw24⟩
                    have hB := ext_trans hB hGw24
                    rw [sub_emod_nat2 (show 0 < (xm.getD i 0).toNat by omega)]
                    obtain ⟨y, hinv⟩ := inv_exists (a := ((p : Nat) : Int)) (n := (xm.getD i 0).toNat) (by omega) (by rw [Int.natAbs_natCast]; omega)
                    refine WL.move rfl rfl ?_
                    refine WL.move rfl rfl ?_
                    refine WL.call Try.func62 rfl Try.nm62 rfl rfl (rinverse_ok (by omega) ((xm.getD i 0).toNat) (by omega) (by omega) (by omega) y hinv) ?_
                    rintro _ w25 ⟨rfl, hGw25⟩
                    have hB := ext_trans hB hGw25
                    have hyl := hinv.lt
                    obtain ⟨u, hu⟩ : ∃ u, u = ((xr.getD i 0 - x) % ((xm.getD i 0).toNat : Int)).toNat := ⟨_, rfl⟩
                    have hul : u < (xm.getD i 0).toNat := by
                      have h1 := Int.emod_lt_of_pos (xr.getD i 0 - x) (show 0 < (((xm.getD i 0).toNat : Nat) : Int) by omega)
                      have h2 := Int.emod_nonneg (xr.getD i 0 - x) (show (((xm.getD i 0).toNat : Nat) : Int) ≠ 0 by omega)
                      omega
                    have huy : u * y ≤ 2147483647 * 2147483647 := Nat.mul_le_mul (by omega) (by omega)
                    have hum := Nat.mod_lt (u * y) (show 0 < (xm.getD i 0).toNat by omega)
                    have hpk : p * (u * y % (xm.getD i 0).toNat + 1) ≤ p * (xm.getD i 0).toNat := Nat.mul_le_mul_left p hum
                    rw [Nat.mul_add, Nat.mul_one] at hpk
                    rw [← hp] at hpt
                    rw [hpt] at hpn
                    rw [hu] at hul huy hum hpk
                    clear hu
                    refine WL.mul (r := ((((xr.getD i 0 - x) % ((xm.getD i 0).toNat : Int)).toNat * y : Nat) : Int)) rfl rfl (by rw [← Int.natCast_mul]; exact wi64n (by omega)) rfl ?_
                    refine WL.move rfl rfl ?_
                    refine WL.rem (r := ((((xr.getD i 0 - x) % ((xm.getD i 0).toNat : Int)).toNat * y % (xm.getD i 0).toNat : Nat) : Int)) rfl rfl (by omega) (tmod_nat rfl (by omega)) rfl ?_
                    refine WL.assign rfl rfl ?_
                    refine WL.done ?_
                    refine W.seq ?_
                    refine W.region ?_
                    refine WL.move rfl rfl ?_
                    refine WL.move rfl rfl ?_
                    refine WL.move rfl rfl ?_
                    refine WL.mul (r := ((p * (((xr.getD i 0 - x) % ((xm.getD i 0).toNat : Int)).toNat * y % (xm.getD i 0).toNat) : Nat) : Int)) rfl rfl (by rw [← Int.natCast_mul]; exact wi64n (by omega)) rfl ?_
                    refine WL.add (r := ((x + p * (((xr.getD i 0 - x) % ((xm.getD i 0).toNat : Int)).toNat * y % (xm.getD i 0).toNat) : Nat) : Int)) rfl rfl (wi64 (by omega) (by omega) (by omega)) rfl ?_
                    refine WL.assign rfl rfl ?_
                    refine WL.done ?_
                    refine W.region ?_
                    refine WL.move rfl rfl ?_
                    refine WL.move rfl rfl ?_
                    refine WL.mul (r := ((p * (xm.getD i 0).toNat : Nat) : Int)) rfl rfl (by rw [← hmt, ← Int.natCast_mul]; exact wi64n (by omega)) rfl ?_
                    refine WL.assign rfl rfl ?_
                    refine WL.done ?_
                    refine W.region ?_
                    refine WL.move rfl rfl ?_
                    refine WL.add (r := ((i + 1 : Nat) : Int)) rfl rfl (wi64 (by omega) (by omega) (by omega)) rfl ?_
                    refine WL.assign rfl rfl ?_
                    refine WL.done ?_
                    refine ⟨(i + 1, x + p * (((xr.getD i 0 - x) % ((xm.getD i 0).toNat : Int)).toNat * y % (xm.getD i 0).toNat), p * (xm.getD i 0).toNat), ⟨rfl, rfl, iv (by omega), iv (by omega), iv (by omega), trivial⟩, by (dsimp only; omega), ?_⟩
                    exact ⟨hB, by omega, hC.stepI (by omega) (by omega) hinv, by rw [hpt, hp], by omega⟩
              · refine WL.done ?_
                refine W.condF rfl ?_
                refine W.exit ?_
                refine W.seq ?_
                refine W.region ?_
                refine WL.move rfl rfl ?_
                refine WL.move rfl rfl ?_
                refine WL.assign rfl rfl ?_
                refine WL.assign rfl rfl ?_
                refine WL.assign rfl rfl ?_
                refine WL.done ?_
                refine W.ret ?_
                refine ⟨_, rfl, ?_⟩
                first
                | (obtain ⟨k1, k2, k3⟩ := chi_shape hR (by omega); subst k1 k2 k3; exact ⟨rfl, hB⟩)
                | (obtain ⟨k1, k2, k3⟩ := chi_range hR (by omega) (imem (l := xm) (j := i) (by omega)) z; subst k1 k2 k3; exact ⟨rfl, hB⟩)
                | (obtain ⟨k1, k2, k3⟩ := chi_big hR (by omega) hall (show 2147483647 < prodI xm by omega); subst k1 k2 k3; exact ⟨rfl, hB⟩)
                | (have k0 := hC.failI (by omega) (by rw [show xm.getD i 0 = (((xm.getD i 0).toNat : Nat) : Int) by omega, Int.natAbs_natCast]; omega)
                   rcases hRR with ⟨_, k1, k2, k3⟩ | ⟨k1, _⟩
                   · subst k1 k2 k3; exact ⟨rfl, hB⟩
                   · rw [k0] at k1; cases k1)
                | (have k0 := hC.doneI (by omega)
                   rcases hRR with ⟨k1, _⟩ | ⟨k1, k3⟩
                   · rw [k0] at k1; cases k1
                   · rw [k0] at k1; cases k1; subst k3; exact ⟨rfl, hB⟩)
end Go.Proofs.Ytdmgbahognfhbaa
set_option linter.unusedSimpArgs false
set_option linter.unusedVariables false
namespace Go.Proofs.Ytdmgbahognfhbaa
open Go.RowKit
/-! ### what the laws lean on -/
theorem dec_t {p : Prop} [Decidable p] (h : p) : Value.bool (decide p) = .bool true := congrArg Value.bool (decide_eq_true h)
theorem dec_f {p : Prop} [Decidable p] (h : ¬ p) : Value.bool (decide p) = .bool false := congrArg Value.bool (decide_eq_false h)
theorem bez_y {X Y x y : Int} {g : Nat} (hY : Y ≠ 0) (h : Bez X Y g x y) : y.natAbs ≤ max X.natAbs 1 := by
  have hgp : 0 < g := by rw [h.gg]; exact Nat.gcd_pos_of_pos_right _ (by omega)
  have h0 := h.x0; have h1 := h.x1; have he := h.e
  have hd := Nat.div_mul_le_self Y.natAbs g
  have hgY : g ≤ Y.natAbs := by rw [h.gg]; exact Nat.gcd_le_right _ (by omega)
  have hyY : (Y * y).natAbs = Y.natAbs * y.natAbs := Int.natAbs_mul ..
  have hxX : (X * x).natAbs = X.natAbs * x.natAbs := Int.natAbs_mul ..
  rcases Int.lt_or_le 0 x with hx | hx
  · by_cases hX : X = 0
    · exfalso
      have hg2 : g = Y.natAbs := by rw [h.gg, hX]; simp
      rw [hg2, Nat.div_self (by omega)] at h1
      omega
    · have hgX : g ≤ X.natAbs := by rw [h.gg]; exact Nat.gcd_le_left _ (by omega)
      -- |Y||y| ≤ g + |X|x ≤ |X| (x + 1) ≤ |X||Y|
      have h2 : x.natAbs + 1 ≤ Y.natAbs := by
        have : Y.natAbs / g ≤ Y.natAbs := Nat.div_le_self _ _
        omega
      have h3 : X.natAbs * (x.natAbs + 1) ≤ X.natAbs * Y.natAbs := Nat.mul_le_mul_left _ h2
      rw [Nat.mul_add, Nat.mul_one] at h3
      have h4 : Y.natAbs * y.natAbs ≤ Y.natAbs * X.natAbs := by
        rw [← hyY, Nat.mul_comm Y.natAbs X.natAbs]
        have : (Y * y).natAbs ≤ g + (X * x).natAbs := by omega
        omega
      have h5 := Nat.le_of_mul_le_mul_left h4 (by omega)
      omega
  · have hx0 : x = 0 := by omega
    subst hx0
    rw [Int.mul_zero] at he
    have h6 : Y.natAbs * y.natAbs = g := by rw [← hyY]; omega
    rcases Nat.lt_or_ge 1 y.natAbs with h7 | h7
    · have := Nat.mul_le_mul_left Y.natAbs h7; omega
    · omega
theorem bezR_fin {X Y x y : Int} {g er : Nat} (hX : -2147483647 ≤ X ∧ X ≤ 2147483647) (hY : -2147483647 ≤ Y ∧ Y ≤ 2147483647) (hR : BezR X Y g x y er) :
    er = 0 ∧ g = Nat.gcd X.natAbs Y.natAbs ∧ (-2147483647 ≤ x ∧ x ≤ 2147483647) ∧ (-2147483647 ≤ y ∧ y ≤ 2147483647) ∧ X * x + Y * y = g ∧ (-4611686014132420609 ≤ X * x ∧ X * x ≤ 4611686014132420609) ∧ (-4611686014132420609 ≤ Y * y ∧ Y * y ≤ 4611686014132420609) := by
  have key : ∀ z : Int, ∀ t : Int, (-2147483647 ≤ z ∧ z ≤ 2147483647) → (-2147483647 ≤ t ∧ t ≤ 2147483647) → -4611686014132420609 ≤ z * t ∧ z * t ≤ 4611686014132420609 := by
    intro z t hz ht
    have : (z * t).natAbs ≤ 2147483647 * 2147483647 := by rw [Int.natAbs_mul]; exact Nat.mul_le_mul (by omega) (by omega)
    omega
  have fin : er = 0 → g = Nat.gcd X.natAbs Y.natAbs → (-2147483647 ≤ x ∧ x ≤ 2147483647) → (-2147483647 ≤ y ∧ y ≤ 2147483647) → X * x + Y * y = g → _ := fun h1 h2 h3 h4 h5 => (⟨h1, h2, h3, h4, h5, key _ _ hX h3, key _ _ hY h4⟩ : er = 0 ∧ g = Nat.gcd X.natAbs Y.natAbs ∧ (-2147483647 ≤ x ∧ x ≤ 2147483647) ∧ (-2147483647 ≤ y ∧ y ≤ 2147483647) ∧ X * x + Y * y = g ∧ (-4611686014132420609 ≤ X * x ∧ X * x ≤ 4611686014132420609) ∧ (-4611686014132420609 ≤ Y * y ∧ Y * y ≤ 4611686014132420609))
  cases hR with
  | out h => exact absurd ⟨hX, hY⟩ h
  | zero h1 h2 =>
    subst h2
    refine fin rfl (by rw [show ((0 : Int)).natAbs = 0 from rfl, Nat.gcd_zero_right]) ?_ (by decide) ?_
    · unfold sgI; split
      · omega
      · split <;> omega
    · unfold sgI; split
      · omega
      · split <;> omega
  | ok h1 h2 h3 hz =>
    have hy := bez_y h3 hz
    have := hz.x0; have := hz.x1
    have hd := Nat.div_le_self Y.natAbs g
    exact fin rfl hz.gg (by omega) (by omega) hz.e
theorem gcd_tmod {X Y D : Int} {g : Nat} (hg : g = Nat.gcd X.natAbs Y.natAbs) (h1 : X.tmod D = 0) (h2 : Y.tmod D = 0) : (g : Int).tmod D = 0 := by
  have d1 := Int.dvd_of_tmod_eq_zero h1
  have d2 := Int.dvd_of_tmod_eq_zero h2
  refine Int.tmod_eq_zero_of_dvd ?_
  rw [hg]
  refine Int.natAbs_dvd.1 ?_
  exact Int.ofNat_dvd.2 (Nat.dvd_gcd (Int.natAbs_dvd_natAbs.2 d1) (Int.natAbs_dvd_natAbs.2 d2))
theorem tmod_gcd {X Y : Int} {g : Nat} (hg : g = Nat.gcd X.natAbs Y.natAbs) : X.tmod (g : Int) = 0 ∧ Y.tmod (g : Int) = 0 :=
  ⟨Int.tmod_eq_zero_of_dvd (by rw [hg]; exact Int.ofNat_dvd_left.2 (Nat.gcd_dvd_left _ _)), Int.tmod_eq_zero_of_dvd (by rw [hg]; exact Int.ofNat_dvd_left.2 (Nat.gcd_dvd_right _ _))⟩
theorem rev_step {l : List Int} {j : Nat} (h0 : 0 < j) (hj : j ≤ l.length) : (l.drop j).reverse ++ [l.getD (j - 1) 0] = (l.drop (j - 1)).reverse := by
  have hd : l.drop (j - 1) = l.getD (j - 1) 0 :: l.drop j := by
    rw [List.drop_eq_getElem_cons (show j - 1 < l.length by omega), show j - 1 + 1 = j by omega]
    simp [List.getD_eq_getElem?_getD, List.getElem?_eq_getElem (show j - 1 < l.length by omega)]
  rw [hd, List.reverse_cons]
theorem ILim.rdrop {l : List Int} (h : ILim l) (j : Nat) : ILim (l.drop j).reverse := fun x hx => h x (List.mem_of_mem_drop (List.mem_reverse.1 hx))
/-! ### a prime number -/
theorem prime_tmod {P a b : Int} (hp : IsPr P) (h : (a.tmod P * b.tmod P).tmod P = 0) : a.tmod P = 0 ∨ b.tmod P = 0 := by
  obtain ⟨h1, h2, h3⟩ := hp
  have d := Int.natAbs_dvd_natAbs.2 (Int.dvd_of_tmod_eq_zero h)
  rw [Int.natAbs_mul, show P.natAbs = P.toNat by omega] at d
  have ra := tmod_range (a := a) (n := P) (by omega)
  have rb := tmod_range (a := b) (n := P) (by omega)
  rcases prime_dvd h3 d with h4 | h4
  · left
    rcases Nat.eq_zero_or_pos (a.tmod P).natAbs with h5 | h5
    · omega
    · have := Nat.le_of_dvd h5 h4; omega
  · right
    rcases Nat.eq_zero_or_pos (b.tmod P).natAbs with h5 | h5
    · omega
    · have := Nat.le_of_dvd h5 h4; omega
theorem mul_range {a b : Int} (ha : -2147483648 < a ∧ a < 2147483648) (hb : -2147483648 < b ∧ b < 2147483648) : -4611686018427387904 ≤ a * b ∧ a * b ≤ 4611686018427387904 := by
  have : (a * b).natAbs ≤ 2147483647 * 2147483647 := by rw [Int.natAbs_mul]; exact Nat.mul_le_mul (by omega) (by omega)
  omega
/-! ### the theorem of the Chinese remainders, as the law asks it -/
theorem chiR_err {rs ms : List Int} {X Q er : Nat} (hR : ChiR rs ms X Q er) (he : er ≠ 0) : X = 0 ∧ Q = 0 := by
  cases hR with
  | ok => exact absurd rfl he
  | _ => exact ⟨rfl, rfl⟩
structure ChiOk (rs ms : List Int) (X Q : Nat) : Prop where
  len : rs.length = ms.length
  rng : ∀ m ∈ ms, 1 ≤ m ∧ m ≤ 2147483647
  lt : X < Q
  all : ∀ j, j < ms.length → (X : Int) % ms.getD j 0 = rs.getD j 0 % ms.getD j 0
  uniq : ∀ z : Int, 0 ≤ z → z < Q → (∀ j, j < ms.length → z.tmod (ms.getD j 0) = (X : Int).tmod (ms.getD j 0)) → z = X
theorem chiR_ok {rs ms : List Int} {X Q er : Nat} (hR : ChiR rs ms X Q er) (he : er = 0) : ChiOk rs ms X Q := by
  cases hR with
  | shape => cases he
  | range => cases he
  | big => cases he
  | none => cases he
  | ok h1 h2 h3 h4 =>
    have hc := h4.ok
    refine ⟨h1, h2, hc.lt (by decide), fun j hj => hc.all j (by omega) hj, fun z hz hq ha => ?_⟩
    have hd := hc.uniq z ⟨_, (Int.one_mul _).symm⟩ (fun j _ hj => by
      have hm := hc.pos j (by omega) hj
      have e := ha j hj
      rw [Int.tmod_eq_emod_of_nonneg hz, Int.tmod_eq_emod_of_nonneg (by omega)] at e
      exact Int.dvd_of_emod_eq_zero (Int.emod_eq_emod_iff_emod_sub_eq_zero.1 e))
    have hl := hc.lt (by decide)
    have := dvd_small hd (by omega) (by omega)
    omega
end Go.Proofs.Ytdmgbahognfhbaa
