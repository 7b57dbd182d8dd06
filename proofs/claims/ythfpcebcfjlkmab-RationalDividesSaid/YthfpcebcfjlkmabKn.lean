/- Contracts of functions of the program, and what they lean on. -/
import Derived.Test.YthfpcebcfjlkmabCh
namespace Go.Proofs.Ythfpcebcfjlkmab
open Go.RowKit
/-! ### the digits of a long division -/
/-- The estimate never falls below the digit. -/
theorem est_low {D W P v1 v2 D' top w2 W' dg left q : Nat} (hD : D = (v1 * 4294967296 + v2) * P + D') (hW : W = (top * 4294967296 + w2) * P + W') (hW' : W' < P)
    (hq : q * D ≤ W) (hinv : dg * v1 + left = top) (htest : left * 4294967296 + w2 < dg * v2) : q < dg := by
  rcases Nat.lt_or_ge q dg with h | h
  · exact h
  · exfalso
    have h1 : dg * D ≤ q * D := Nat.mul_le_mul_right D h
    have h2 : dg * (v1 * 4294967296 + v2) = (dg * v1) * 4294967296 + dg * v2 := by rw [Nat.mul_add, Nat.mul_assoc]
    have h3 : top * 4294967296 + w2 + 1 ≤ dg * (v1 * 4294967296 + v2) := by rw [h2]; omega
    have h4 : (top * 4294967296 + w2 + 1) * P ≤ dg * (v1 * 4294967296 + v2) * P := Nat.mul_le_mul_right P h3
    have h5 : dg * D = dg * (v1 * 4294967296 + v2) * P + dg * D' := by rw [hD, Nat.mul_add, Nat.mul_assoc]
    rw [Nat.add_mul, Nat.one_mul] at h4
    omega
theorem est_first {D W P v1 v2 D' top w2 W' q : Nat} (hD : D = (v1 * 4294967296 + v2) * P + D') (hW : W = (top * 4294967296 + w2) * P + W') (hW' : W' < P) (hw2 : w2 < 4294967296) (hv : 0 < v1) (hq : q * D ≤ W) : q ≤ top / v1 := by
  rw [Nat.le_div_iff_mul_le hv]
  rcases Nat.lt_or_ge top (q * v1) with h | h
  · exfalso
    have h1 : (top + 1) * (4294967296 * P) ≤ q * v1 * (4294967296 * P) := Nat.mul_le_mul_right _ h
    have h2 : q * D = q * v1 * (4294967296 * P) + q * v2 * P + q * D' := by rw [hD]; simp only [Nat.mul_add, Nat.add_mul, Nat.mul_assoc]
    have h3 : (top * 4294967296 + w2) * P + P ≤ (top + 1) * (4294967296 * P) := by
      have h4 : (top * 4294967296 + w2 + 1) * P ≤ ((top + 1) * 4294967296) * P := Nat.mul_le_mul_right _ (by omega)
      rw [Nat.add_mul _ 1, Nat.one_mul, Nat.mul_assoc (top + 1)] at h4
      exact h4
    omega
  · exact h
/-- At the end it is the digit, or one more. -/
theorem est_high {D W P v1 v2 D' top w2 W' dg left : Nat} (hD : D = (v1 * 4294967296 + v2) * P + D') (hW : W = (top * 4294967296 + w2) * P + W') (hD' : D' < P) (hv : 2147483648 ≤ v1)
    (hinv : dg * v1 + left = top) (hdg : dg < 4294967296) (htest : dg * v2 ≤ left * 4294967296 + w2) : dg * D < W + D := by
  have h2 : dg * (v1 * 4294967296 + v2) = (dg * v1) * 4294967296 + dg * v2 := by rw [Nat.mul_add, Nat.mul_assoc]
  have h3 : dg * (v1 * 4294967296 + v2) ≤ top * 4294967296 + w2 := by rw [h2]; omega
  have h4 := Nat.mul_le_mul_right P h3
  have h5 : dg * D = dg * (v1 * 4294967296 + v2) * P + dg * D' := by rw [hD, Nat.mul_add, Nat.mul_assoc]
  have h6 : dg * D' ≤ 4294967296 * D' := Nat.mul_le_mul_right _ (by omega)
  have h7 : 4294967296 * P ≤ v1 * 4294967296 * P := Nat.mul_le_mul_right _ (by omega)
  have h8 : D = v1 * 4294967296 * P + v2 * P + D' := by rw [hD, Nat.add_mul]
  omega
/-- The digit is below the base where the rest has grown past it. -/
theorem est_stop {D W P v1 v2 D' top w2 W' dg left : Nat} (hD : D = (v1 * 4294967296 + v2) * P + D') (hW : W = (top * 4294967296 + w2) * P + W') (hD' : D' < P) (hv2 : v2 < 4294967296)
    (hWD : W < 4294967296 * D) (hinv : dg * v1 + left = top) (hl : 4294967296 ≤ left) : dg < 4294967296 ∧ dg * v2 ≤ left * 4294967296 + w2 := by
  have h1 : top < 4294967296 * (v1 + 1) := by
    rcases Nat.lt_or_ge top (4294967296 * (v1 + 1)) with h | h
    · exact h
    · exfalso
      have h2 : 4294967296 * (v1 + 1) * (4294967296 * P) ≤ top * (4294967296 * P) := Nat.mul_le_mul_right _ h
      have h3 : D < (v1 + 1) * (4294967296 * P) := by
        have h4 : (v1 * 4294967296 + v2 + 1) * P ≤ ((v1 + 1) * 4294967296) * P := Nat.mul_le_mul_right _ (by omega)
        rw [Nat.add_mul _ 1, Nat.one_mul, Nat.mul_assoc (v1 + 1)] at h4
        omega
      have h5 : 4294967296 * D < 4294967296 * (v1 + 1) * (4294967296 * P) := by rw [Nat.mul_assoc]; omega
      have h6 : top * (4294967296 * P) ≤ W := by
        rw [hW, Nat.add_mul, Nat.mul_assoc]; omega
      omega
  have h2 : dg < 4294967296 := by
    rcases Nat.lt_or_ge dg 4294967296 with h | h
    · exact h
    · exfalso
      have := Nat.mul_le_mul_right v1 h
      omega
  refine ⟨h2, ?_⟩
  have h3 : dg * v2 ≤ 4294967296 * 4294967296 := Nat.mul_le_mul (by omega) (by omega)
  omega
theorem dig_ends {D W q dg : Nat} (hq : q = W / D) (hD : 0 < D) (h1 : q ≤ dg) (h2 : dg * D < W + D) : dg = q ∨ dg = q + 1 := by
  have h3 := Nat.div_add_mod W D
  have h4 := Nat.mod_lt W hD
  rcases Nat.lt_or_ge dg (q + 2) with h | h
  · omega
  · exfalso
    have h5 := Nat.mul_le_mul_right D h
    rw [Nat.add_mul] at h5
    rw [← hq, Nat.mul_comm] at h3
    omega
/-- One step of the subtraction of a multiple. -/
theorem subm_step {zs : List Nat} {o i x c b lo hi v b' base dg l t : Nat} (hk : o + i < zs.length) (hx : zs.getD (o + i) 0 = x) (h : nv zs + 4294967296 ^ o * (dg * t) = base + 4294967296 ^ (o + i) * (c + b))
    (hs : c + dg * l = lo + 4294967296 * hi) (hv : v + lo + b = x + 4294967296 * b') :
    nv (zs.set (o + i) v) + 4294967296 ^ o * (dg * (t + 4294967296 ^ i * l)) = base + 4294967296 ^ (o + (i + 1)) * (hi + b') := by
  have h1 := nv_set v hk
  rw [hx] at h1
  have h2 : 4294967296 ^ o * (dg * (t + 4294967296 ^ i * l)) = 4294967296 ^ o * (dg * t) + 4294967296 ^ (o + i) * (dg * l) := by
    rw [Nat.mul_add, Nat.mul_add, Nat.pow_add, Nat.mul_left_comm dg, Nat.mul_assoc]
  have h3 : 4294967296 ^ (o + (i + 1)) * (hi + b') = 4294967296 ^ (o + i) * (4294967296 * hi + 4294967296 * b') := by
    rw [show o + (i + 1) = (o + i) + 1 by omega, Nat.pow_succ, Nat.mul_assoc, Nat.mul_add 4294967296]
  have h4 : 4294967296 ^ (o + i) * v + 4294967296 ^ (o + i) * (c + dg * l) + 4294967296 ^ (o + i) * b = 4294967296 ^ (o + i) * x + 4294967296 ^ (o + i) * (4294967296 * hi + 4294967296 * b') := by
    rw [← Nat.mul_add, ← Nat.mul_add, ← Nat.mul_add]
    congr 1
    omega
  rw [h2, h3]
  rw [Nat.mul_add] at h h4
  omega
/-- One step of adding back. -/
theorem addb_step {zs : List Nat} {o i x c v c' base l t : Nat} (hk : o + i < zs.length) (hx : zs.getD (o + i) 0 = x) (h : nv zs + 4294967296 ^ (o + i) * c = base + 4294967296 ^ o * t)
    (hv : v + 4294967296 * c' = x + l + c) :
    nv (zs.set (o + i) v) + 4294967296 ^ (o + (i + 1)) * c' = base + 4294967296 ^ o * (t + 4294967296 ^ i * l) := by
  have h1 := nv_set v hk
  rw [hx] at h1
  have h2 : 4294967296 ^ o * (t + 4294967296 ^ i * l) = 4294967296 ^ o * t + 4294967296 ^ (o + i) * l := by rw [Nat.mul_add, Nat.pow_add, Nat.mul_assoc]
  have h3 : 4294967296 ^ (o + (i + 1)) * c' = 4294967296 ^ (o + i) * (4294967296 * c') := by
    rw [show o + (i + 1) = (o + i) + 1 by omega, Nat.pow_succ, Nat.mul_assoc]
  have h4 : 4294967296 ^ (o + i) * v + 4294967296 ^ (o + i) * (4294967296 * c') = 4294967296 ^ (o + i) * x + 4294967296 ^ (o + i) * l + 4294967296 ^ (o + i) * c := by
    rw [← Nat.mul_add, ← Nat.mul_add, ← Nat.mul_add, hv]
  rw [h2, h3]
  omega
/-- One digit of the quotient. -/
theorem digit_none {R F X M : Nat} {b : Nat} (h : F + X = R + M * b) (hX : X ≤ R) (hF : F < M) (hb : b ≤ 1) : b = 0 ∧ F = R - X := by
  rcases (by omega : b = 0 ∨ b = 1) with rfl | rfl
  · omega
  · exfalso; omega
theorem digit_one {R F X M : Nat} {b : Nat} (h : F + X = R + M * b) (hX : R < X) (hb : b ≤ 1) : b = 1 := by
  rcases (by omega : b = 0 ∨ b = 1) with rfl | rfl
  · exfalso; omega
  · rfl
end Go.Proofs.Ythfpcebcfjlkmab
