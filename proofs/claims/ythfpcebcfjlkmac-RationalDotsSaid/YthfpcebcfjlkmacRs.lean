/- Contracts of functions of the program, and what they lean on. -/
import Derived.Test.YthfpcebcfjlkmacRr
set_option linter.unusedSimpArgs false
set_option linter.unusedVariables false
namespace Go.Proofs.Ythfpcebcfjlkmac
open Go.RowKit
/-! ### floors -/
def fl (q : Rat) : Int := q.num / (q.den : Int)
theorem val_fl {n : Bool} {x y : Nat} (hy : y ≠ 0) : fl (val n x y) = sgn n x / (y : Int) := by
  unfold fl
  rw [val_num hy, val_den hy]
  have hg : 0 < Nat.gcd x y := Nat.gcd_pos_of_pos_right _ (by omega)
  obtain ⟨x1, hx⟩ := Nat.gcd_dvd_left x y
  obtain ⟨y1, hy1⟩ := Nat.gcd_dvd_right x y
  generalize Nat.gcd x y = g at *
  subst hx; subst hy1
  rw [Nat.mul_div_cancel_left _ hg, Nat.mul_div_cancel_left _ hg]
  have e : sgn n (g * x1) = (g : Int) * sgn n x1 := by cases n <;> simp [sgn, Int.mul_neg]
  rw [e, Int.natCast_mul, Int.mul_ediv_mul_of_pos _ _ (by omega)]
theorem flA {x y : Nat} {q : Rat} (hy : y ≠ 0) (hq : val false x y = q) : fl q = ((x / y : Nat) : Int) := by
  subst hq; rw [val_fl hy]; rfl
theorem flB {x y : Nat} {q : Rat} (hy : y ≠ 0) (hq : val true x y = q) (hr : x % y ≠ 0) : fl q = -((x / y + 1 : Nat) : Int) := by
  subst hq; rw [val_fl hy]
  have hd := Nat.div_add_mod x y
  have hl := Nat.mod_lt x (show 0 < y by omega)
  have h := (Int.ediv_emod_unique (a := sgn true x) (b := (y : Int)) (r := ((y - x % y : Nat) : Int)) (q := -((x / y + 1 : Nat) : Int)) (by omega)).2 ⟨by
    have e : (y : Int) * -((x / y + 1 : Nat) : Int) = -((y * (x / y) : Nat) : Int) - y := by push_cast; rw [Int.mul_neg, Int.mul_add]; omega
    rw [e]; simp only [sgn, if_true]; generalize y * (x / y) = k at *; omega, by omega, by omega⟩
  exact h.1
theorem flC {x y : Nat} {q : Rat} (hy : y ≠ 0) (hq : val true x y = q) (hr : x % y = 0) : fl q = -((x / y : Nat) : Int) := by
  subst hq; rw [val_fl hy]
  have hd := Nat.div_add_mod x y
  have h := (Int.ediv_emod_unique (a := sgn true x) (b := (y : Int)) (r := 0) (q := -((x / y : Nat) : Int)) (by omega)).2 ⟨by
    have e : (y : Int) * -((x / y : Nat) : Int) = -((y * (x / y) : Nat) : Int) := by push_cast; rw [Int.mul_neg]
    rw [e]; simp only [sgn, if_true]; generalize y * (x / y) = k at *; omega, by omega, by omega⟩
  exact h.1
theorem fl_zero : fl 0 = 0 := rfl
theorem int_can (z : Int) : qneg (z : Rat) = decide (z < 0) ∧ qnum (z : Rat) = z.natAbs ∧ (z : Rat).den = 1 := ⟨rfl, rfl, rfl⟩
theorem val_one (n : Bool) (m : Nat) : val n m 1 = ((sgn n m : Int) : Rat) := by
  unfold val; exact Rat.mkRat_one _
theorem fl_le (q : Rat) : sg (((fl q : Int) : Rat) - q) ≤ 0 := by
  rw [sg_sub]
  have h := Int.ediv_mul_le q.num (show (q.den : Int) ≠ 0 by have := den_pos q; omega)
  have e : ((fl q : Int) : Rat).num * (q.den : Int) - q.num * (((fl q : Int) : Rat).den : Int) = fl q * q.den - q.num := by
    show fl q * (q.den : Int) - q.num * ((1 : Nat) : Int) = _
    omega
  rw [e]
  exact Int.sign_nonpos_iff.2 (by unfold fl; omega)
theorem fl_gt (q : Rat) : 0 < sg (((fl q : Int) : Rat) + 1 - q) := by
  have e0 : ((fl q : Int) : Rat) + 1 = ((fl q + 1 : Int) : Rat) := by rw [Rat.intCast_add]; rfl
  rw [e0, sg_sub]
  have h := Int.lt_ediv_add_one_mul_self q.num (show 0 < (q.den : Int) by have := den_pos q; omega)
  have e : ((fl q + 1 : Int) : Rat).num * (q.den : Int) - q.num * (((fl q + 1 : Int) : Rat).den : Int) = (fl q + 1) * q.den - q.num := by
    show (fl q + 1) * (q.den : Int) - q.num * ((1 : Nat) : Int) = _
    omega
  rw [e, Int.sign_eq_one_of_pos (by unfold fl; omega)]
  decide
/-! ### whole numbers -/
def whole (q : Rat) : Prop := q.den = 1 ∧ qneg q = false
theorem whole_val {n : Bool} {x y : Nat} {q : Rat} (hx : x ≠ 0) (hy : y ≠ 0) (hq : val n x y = q) : whole q ↔ n = false ∧ x % y = 0 := by
  subst hq
  unfold whole
  rw [val_qneg hx hy, val_den hy]
  have hg : 0 < Nat.gcd x y := Nat.gcd_pos_of_pos_right _ (by omega)
  constructor
  · rintro ⟨h1, h2⟩
    refine ⟨h2, ?_⟩
    have h3 := Nat.div_mul_cancel (Nat.gcd_dvd_right x y)
    rw [h1, Nat.one_mul] at h3
    have h4 := Nat.gcd_dvd_left x y
    rw [h3] at h4
    exact Nat.mod_eq_zero_of_dvd h4
  · rintro ⟨h1, h2⟩
    refine ⟨?_, h1⟩
    rw [Nat.gcd_eq_right (Nat.dvd_of_mod_eq_zero h2)]
    exact Nat.div_self (by omega)
theorem whole_num {n : Bool} {x y : Nat} {q : Rat} (hx : x ≠ 0) (hy : y ≠ 0) (hq : val n x y = q) (h : x % y = 0) : qnum q = x / y := by
  subst hq; rw [val_qnum hy, Nat.gcd_eq_right (Nat.dvd_of_mod_eq_zero h)]
theorem whole_zero : whole 0 := ⟨rfl, rfl⟩
theorem whole_fl {q : Rat} (h : whole q) : ((fl q : Int) : Rat) = q := by
  have e : fl q = q.num := by unfold fl; rw [h.1]; simp
  rw [e]
  exact (Rat.ext rfl h.1.symm)
theorem digs_one {n : Nat} : digs n = [1] ↔ n = 1 := by
  constructor
  · intro h; rw [← nv_digs n, h]; rfl
  · rintro rfl; decide
/-! ### sums of products -/
def dsum (a b : List Fr3) : Nat → Rat | 0 => 0 | i + 1 => dsum a b i + qv (a.getD i fr0) * qv (b.getD i fr0)
theorem sq_nn (x : Rat) : 0 ≤ x * x := by
  rcases Rat.le_total (a := 0) (b := x) with h | h
  · exact Rat.mul_nonneg h h
  · have h1 : 0 ≤ -x := by grind
    have := Rat.mul_nonneg h1 h1
    grind
theorem lag_eq (a b : List Fr3) (t s : Rat) : ∀ n, 0 ≤ t * t * dsum a a n - (t * s + t * s) * dsum a b n + s * s * dsum b b n
  | 0 => by simp only [dsum]; grind
  | n + 1 => by
    have h := lag_eq a b t s n
    have h2 := sq_nn (qv (a.getD n fr0) * t - qv (b.getD n fr0) * s)
    simp only [dsum]
    generalize qv (a.getD n fr0) = x at *
    generalize qv (b.getD n fr0) = y at *
    generalize dsum a a n = A at *
    generalize dsum a b n = B at *
    generalize dsum b b n = D at *
    have e : t * t * (A + x * x) - (t * s + t * s) * (B + x * y) + s * s * (D + y * y) = (t * t * A - (t * s + t * s) * B + s * s * D) + (x * t - y * s) * (x * t - y * s) := by grind
    rw [e]; exact Rat.add_nonneg h h2
theorem schwarz (a b : List Fr3) (n : Nat) : dsum a b n * dsum a b n - dsum a a n * dsum b b n ≤ 0 := by
  have h := fun t s => lag_eq a b t s n
  have h0 : 0 ≤ dsum a a n := by have := h 1 0; grind
  generalize dsum a a n = A at *
  generalize dsum a b n = B at *
  generalize dsum b b n = D at *
  by_cases hA : A = 0
  · subst hA
    by_cases hB : B = 0
    · subst hB; grind
    · exfalso
      have h1 := h ((D + 1) * (B + B)⁻¹) 1
      have h2 : (B + B) * (B + B)⁻¹ = 1 := Rat.mul_inv_cancel _ (by grind)
      generalize (B + B)⁻¹ = I at *
      have e : (D + 1) * I * ((D + 1) * I) * 0 - ((D + 1) * I * 1 + (D + 1) * I * 1) * B + 1 * 1 * D = D - (D + 1) * ((B + B) * I) := by grind
      rw [e, h2] at h1
      grind
  · have h1 := h B A
    have e : B * B * A - (B * A + B * A) * B + A * A * D = A * (A * D - B * B) := by grind
    rw [e] at h1
    have hA2 : 0 < A := by grind
    rcases Rat.le_total (a := B * B - A * D) (b := 0) with h3 | h3
    · exact h3
    · by_cases h4 : B * B - A * D = 0
      · rw [h4]; exact Rat.le_refl
      · exfalso
        have h5 : 0 < B * B - A * D := by grind
        have := Rat.mul_pos hA2 h5
        grind
theorem sg_nonpos {q : Rat} (h : q ≤ 0) : sg q ≤ 0 := by
  rw [sg_le]
  have h1 : 0 ≤ -q := by grind
  have := Rat.num_nonneg.2 h1
  rw [Rat.neg_num] at this; omega
theorem can_nat (n : Nat) : qneg (((n : Nat) : Int) : Rat) = false ∧ qnum (((n : Nat) : Int) : Rat) = n ∧ (((n : Nat) : Int) : Rat).den = 1 := by
  refine ⟨?_, ?_, rfl⟩
  · show decide (((n : Nat) : Int) < 0) = false
    exact decide_eq_false (by omega)
  · show ((n : Nat) : Int).natAbs = n
    omega
theorem can_negn {n : Nat} (h : n ≠ 0) : qneg ((-((n : Nat) : Int) : Int) : Rat) = true ∧ qnum ((-((n : Nat) : Int) : Int) : Rat) = n ∧ ((-((n : Nat) : Int) : Int) : Rat).den = 1 := by
  refine ⟨?_, ?_, rfl⟩
  · show decide (-((n : Nat) : Int) < 0) = true
    exact decide_eq_true (by omega)
  · show (-((n : Nat) : Int)).natAbs = n
    omega
theorem div_ne {x y : Nat} (hx : x ≠ 0) (h : x % y = 0) : x / y ≠ 0 := by
  intro h0
  have := Nat.div_add_mod x y
  rw [h0, h] at this; omega
theorem fl_pos {q : Rat} (h : qneg q = false) : val false (qnum q / q.den) 1 = ((fl q : Int) : Rat) := by
  rw [val_one, flA q.den_nz (by rw [← h]; exact val_q q)]; rfl
theorem fl_neg_ne {q : Rat} (h : qneg q = true) (hr : qnum q % q.den ≠ 0) : val true (qnum q / q.den + 1) 1 = ((fl q : Int) : Rat) := by
  rw [val_one, flB q.den_nz (by rw [← h]; exact val_q q) hr]; rfl
theorem fl_neg_eq {q : Rat} (h : qneg q = true) (hr : qnum q % q.den = 0) : val true (qnum q / q.den) 1 = ((fl q : Int) : Rat) := by
  rw [val_one, flC q.den_nz (by rw [← h]; exact val_q q) hr]; rfl
theorem getD_frtake {rs : List Fr3} {k j : Nat} (h : j < k) : (rs.take k).getD j fr0 = rs.getD j fr0 := by simp only [List.getD_eq_getElem?_getD, List.getElem?_take, if_pos h]
theorem RatsR.take {B : Nat} {w : World} {cells : List Value} {rs : List Fr3} (h : RatsR B w cells rs) (k : Nat) : RatsR B w (cells.take (k * 3)) (rs.take k) := by
  have hl := h.len
  refine ⟨by rw [List.length_take, List.length_take, hl]; omega, fun j hj => ?_⟩
  have hj2 : j < k ∧ j < rs.length := by simp at hj; omega
  have e (i : Nat) (hi : i < 3) : (cells.take (k * 3)).getD (j * 3 + i) undef = cells.getD (j * 3 + i) undef := by
    simp only [List.getD_eq_getElem?_getD, List.getElem?_take]; rw [if_pos (by omega)]
  obtain ⟨h1, h2, h3⟩ := h.all j hj2.2
  rw [getD_frtake hj2.1]
  exact ⟨(e 0 (by omega)).trans h1, h2.of (e 1 (by omega)), h3.of (e 2 (by omega))⟩
theorem RLim.take {rs : List Fr3} (h : RLim rs) (k : Nat) : RLim (rs.take k) := fun j hj => by
  have hj2 : j < k ∧ j < rs.length := by simp at hj; omega
  rw [getD_frtake hj2.1]; exact h _ hj2.2
theorem RLen.take {K : Nat} {rs : List Fr3} (h : RLen K rs) (k : Nat) : RLen K (rs.take k) := fun j hj => by
  have hj2 : j < k ∧ j < rs.length := by simp at hj; omega
  rw [getD_frtake hj2.1]; exact h _ hj2.2
section
variable {P : Program} {n : Nat} {N : Post} {L : Fr} {w : World} {ops : Array Oper} {rest : List Oper}
variable {d : Nat} {ty : TypeId} {pos : String} {af : Array Edge}
theorem WL.min3 {x y z : Operand} {k : IntKind} {a b c r : Int} {ts : Array TypeId} (hx : ev L x = some (.int k a)) (hy : ev L y = some (.int k b)) (hz : ev L z = some (.int k c)) (hr : min (min a b) c = r) (hn : Nat.blt d n = true) (h : WL P n ops rest N ((d, .int k r) :: L) w) :
    WL P n ops (⟨some d, .call ⟨.builtin .min, #[x, y, z], ts⟩, ty, pos, af, none⟩ :: rest) N L w :=
  WL.val rfl rfl hn (fun a' ha => by
    have e1 : (if b < a then b else a) = min a b := by split <;> omega
    have e : (if c < min a b then c else min a b) = r := by rw [← hr]; split <;> omega
    simp [execOp, resolve, invoke, builtin, Builtin.min_, Builtin.min2, ha.ev hx, ha.ev hy, ha.ev hz, e1, e]) h
end
end Go.Proofs.Ythfpcebcfjlkmac
