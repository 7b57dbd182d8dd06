/- Contracts of functions of the program, and what they lean on. -/
import Derived.Test.YthfpcebcfjlkmabPL4
set_option linter.unusedSimpArgs false
set_option linter.unusedVariables false
namespace Go.Proofs.Ythfpcebcfjlkmab
/-- The number n, with a sign. -/
def sgn (b : Bool) (n : Nat) : Int := if b then -(n : Int) else n
/-- The value of a fraction; 0 where the denominator is 0. -/
def val (b : Bool) (n d : Nat) : Rat := mkRat (sgn b n) d
def qneg (q : Rat) : Bool := decide (q.num < 0)
def qnum (q : Rat) : Nat := q.num.natAbs
theorem sgn_abs (b : Bool) (n : Nat) : (sgn b n).natAbs = n := by cases b <;> simp [sgn]
theorem sgn_zero (b : Bool) : sgn b 0 = 0 := by cases b <;> rfl
theorem sgn_eq_zero {b : Bool} {n : Nat} : sgn b n = 0 ↔ n = 0 := by cases b <;> simp [sgn]
theorem sgn_q (q : Rat) : sgn (qneg q) (qnum q) = q.num := by
  unfold sgn qneg qnum
  by_cases h : q.num < 0
  · simp only [h, decide_true, if_true]; omega
  · simp only [h, decide_false]; simp; omega
theorem val_q (q : Rat) : val (qneg q) (qnum q) q.den = q := by
  unfold val; rw [sgn_q]; exact Rat.mkRat_self q
theorem val_canon (q : Rat) : val (qneg q) (nv (digs (qnum q))) (nv (digs q.den)) = q := by
  rw [nv_digs, nv_digs]; exact val_q q
theorem val_n0 (b : Bool) (d : Nat) : val b 0 d = 0 := by unfold val; rw [sgn_zero]; exact Rat.zero_mkRat d
theorem val_d0 (b : Bool) (n : Nat) : val b n 0 = 0 := by unfold val; exact Rat.mkRat_zero _
theorem val_ne {b : Bool} {n d : Nat} (hn : n ≠ 0) (hd : d ≠ 0) : val b n d ≠ 0 := by
  unfold val; exact (Rat.mkRat_ne_zero hd).2 (fun h => hn (sgn_eq_zero.1 h))
theorem val_zero {b : Bool} {n d : Nat} : val b n d = 0 ↔ n = 0 ∨ d = 0 := by
  constructor
  · intro h
    by_cases hn : n = 0
    · exact .inl hn
    · by_cases hd : d = 0
      · exact .inr hd
      · exact absurd h (val_ne hn hd)
  · rintro (rfl | rfl)
    · exact val_n0 b d
    · exact val_d0 b n
theorem qneg_zero : qneg 0 = false := rfl
theorem qnum_zero : qnum 0 = 0 := rfl
theorem qnum_eq_zero {q : Rat} : qnum q = 0 ↔ q = 0 := by
  unfold qnum; rw [Int.natAbs_eq_zero]; exact Rat.num_eq_zero
theorem val_num {b : Bool} {n d : Nat} (hd : d ≠ 0) : (val b n d).num = sgn b (n / Nat.gcd n d) := by
  unfold val
  rw [Rat.num_mkRat, if_neg hd, sgn_abs, Nat.gcd_comm]
  cases b
  · simp [sgn]
  · simp only [sgn, if_true]
    rw [Int.neg_ediv_of_dvd (Int.ofNat_dvd.2 (Nat.gcd_dvd_left n d))]
    simp
theorem val_den {b : Bool} {n d : Nat} (hd : d ≠ 0) : (val b n d).den = d / Nat.gcd n d := by
  unfold val
  rw [Rat.den_mkRat, if_neg hd, sgn_abs, Nat.gcd_comm]
theorem val_qnum {b : Bool} {n d : Nat} (hd : d ≠ 0) : qnum (val b n d) = n / Nat.gcd n d := by
  unfold qnum; rw [val_num hd, sgn_abs]
theorem val_qneg {b : Bool} {n d : Nat} (hn : n ≠ 0) (hd : d ≠ 0) : qneg (val b n d) = b := by
  unfold qneg
  rw [val_num hd]
  have h : 0 < n / Nat.gcd n d := Nat.div_gcd_pos_of_pos_left _ (by omega)
  cases b
  · simp [sgn]; omega
  · simp only [sgn, if_true]; rw [decide_eq_true]; omega
theorem den_pos (q : Rat) : 0 < q.den := Nat.pos_of_ne_zero q.den_nz
theorem q_coprime (q : Rat) : Nat.gcd (qnum q) q.den = 1 := q.reduced
/-! ### operations -/
theorem sgn_mul (a b : Bool) (n m : Nat) : sgn a n * sgn b m = sgn (a != b) (n * m) := by
  cases a <;> cases b <;> simp [sgn, Int.neg_mul, Int.mul_neg]
theorem val_mul (a b : Bool) (n d m e : Nat) : val a n d * val b m e = val (a != b) (n * m) (d * e) := by
  unfold val; rw [Rat.mkRat_mul_mkRat, sgn_mul]
theorem val_add {a b : Bool} {n d m e : Nat} (hd : d ≠ 0) (he : e ≠ 0) : val a n d + val b m e = mkRat (sgn a (n * e) + sgn b (m * d)) (d * e) := by
  unfold val
  rw [Rat.mkRat_add_mkRat _ _ hd he]
  congr 2
  · cases a <;> simp [sgn, Int.neg_mul]
  · cases b <;> simp [sgn, Int.neg_mul]
theorem val_add_same {a b : Bool} {n d m e : Nat} (hd : d ≠ 0) (he : e ≠ 0) (hab : a = b) : val a n d + val b m e = val a (n * e + m * d) (d * e) := by
  rw [val_add hd he]; subst hab
  unfold val; congr 1
  cases a <;> simp [sgn]; omega
theorem val_add_gt {a b : Bool} {n d m e : Nat} (hd : d ≠ 0) (he : e ≠ 0) (hab : a ≠ b) (h : m * d ≤ n * e) : val a n d + val b m e = val a (n * e - m * d) (d * e) := by
  rw [val_add hd he]
  unfold val; congr 1
  generalize n * e = u at *; generalize m * d = v at *
  cases a <;> cases b <;> simp [sgn] at hab ⊢ <;> omega
theorem val_add_lt {a b : Bool} {n d m e : Nat} (hd : d ≠ 0) (he : e ≠ 0) (hab : a ≠ b) (h : n * e ≤ m * d) : val a n d + val b m e = val b (m * d - n * e) (d * e) := by
  rw [val_add hd he]
  unfold val; congr 1
  generalize n * e = u at *; generalize m * d = v at *
  cases a <;> cases b <;> simp [sgn] at hab ⊢ <;> omega
theorem val_neg (a : Bool) (n d : Nat) : val (!a) n d = - val a n d := by
  unfold val; rw [Rat.neg_mkRat]; congr 1; cases a <;> simp [sgn]
theorem val_inv {a : Bool} {n d : Nat} (hn : n ≠ 0) (hd : d ≠ 0) : val a d n = (val a n d)⁻¹ := by
  symm
  apply Rat.inv_eq_of_mul_eq_one
  rw [val_mul, Nat.mul_comm d n]
  unfold val
  rw [show (a != a) = false by cases a <;> rfl]
  rw [Rat.mkRat_eq_div]
  have h : ((n * d : Nat) : Rat) ≠ 0 := by
    intro h
    have h2 : n * d = 0 := by exact_mod_cast h
    rcases Nat.mul_eq_zero.1 h2 with h | h <;> omega
  have e1 : ((sgn false (n * d) : Int) : Rat) = ((n * d : Nat) : Rat) := by simp only [sgn]; rfl
  rw [e1, Rat.div_def, Rat.mul_inv_cancel _ h]
/-- The sign of a value. -/
def sg (q : Rat) : Int := if q.num < 0 then -1 else if q.num = 0 then 0 else 1
theorem sg_zero {q : Rat} : sg q = 0 ↔ q = 0 := by
  unfold sg; rw [← Rat.num_eq_zero (q := q)]
  by_cases h1 : q.num < 0
  · rw [if_pos h1]; omega
  · by_cases h2 : q.num = 0
    · simp [h2]
    · simp [h1, h2]
theorem sg_neg {q : Rat} (h : qneg q = true) : sg q = -1 := by
  unfold sg; unfold qneg at h; rw [if_pos (of_decide_eq_true h)]
theorem sg_pos {q : Rat} (h : qneg q = false) (h0 : q ≠ 0) : sg q = 1 := by
  unfold sg; unfold qneg at h
  rw [if_neg (of_decide_eq_false h), if_neg (fun e => h0 (Rat.num_eq_zero.1 e))]
end Go.Proofs.Ythfpcebcfjlkmab
