/- Contracts of functions of the program, and what they lean on. -/
import Derived.Test.YthfpcebcfjlkmabPL4
set_option linter.unusedSimpArgs false
set_option linter.unusedVariables false
namespace Go.Proofs.Ythfpcebcfjlkmab
theorem lr1 (e D X Y a b u v : Int) : e * (u * (D * X + a) - v * (D * Y + b)) = D * (e * (u * X - v * Y)) + e * (u * a - v * b) := by grind
theorem lr2 (e p q r s k A B : Int) : e * (p * A - q * B) - k * (e * (s * B - r * A)) = e * ((p + k * r) * A - (q + k * s) * B) := by grind
theorem lr3 (e u v A B : Int) : e * (u * A - v * B) = -e * (v * B - u * A) := by grind
/-- What is known of the cofactors that Euclid's algorithm has led to: e p, -e q and -e r, e s; x and y are the leading digits that are left, R0 and R1 the whole numbers. -/
structure Lh (A B D : Nat) (e : Int) (p q r s x y R0 R1 : Nat) : Prop where
  sg : e = 1 ∨ e = -1
  r0 : (R0 : Int) = e * (p * A - q * B)
  r1 : (R1 : Int) = e * (s * B - r * A)
  x0 : (x : Int) = e * (p * (A / D : Nat) - q * (B / D : Nat))
  y0 : (y : Int) = e * (s * (B / D : Nat) - r * (A / D : Nat))
  hX : A / D = s * x + q * y
  rs : r ≤ s
  s1 : 1 ≤ s
  pq : p ≤ q ∨ (p = 1 ∧ q = 0 ∧ r = 0 ∧ s = 1)
  yx : y ≤ x
  g : Nat.gcd R0 R1 = Nat.gcd A B
  dn : q ≠ 0 → R0 ≤ B ∧ R1 < R0
  q31 : q < 2147483648
  s31 : s < 2147483648

theorem Lh.start {A B D : Nat} (hBA : B ≤ A) : Lh A B D 1 1 0 0 1 (A / D) (B / D) A B :=
  ⟨.inl rfl, by simp, by simp, by simp, by simp, by simp, by omega, by omega, .inr ⟨rfl, rfl, rfl, rfl⟩, Nat.div_le_div_right hBA, rfl, fun h => absurd rfl h, by omega, by omega⟩

section
variable {A B D : Nat} {e : Int} {p q r s x y R0 R1 : Nat}
theorem Lh.p31 (h : Lh A B D e p q r s x y R0 R1) : p < 2147483648 := by
  have := h.pq; have := h.q31; omega
theorem Lh.r31 (h : Lh A B D e p q r s x y R0 R1) : r < 2147483648 := by
  have := h.rs; have := h.s31; omega
/-- What the next step reckons with stays small. -/
theorem Lh.small (h : Lh A B D e p q r s x y R0 R1) (hX : A / D < 4611686018427387904) (hy : y ≠ 0) :
    x / y * s < 4611686018427387904 ∧ x / y * r < 4611686018427387904 ∧ x / y * y ≤ x ∧ x < 4611686018427387904 ∧ 1 ≤ x / y ∧ x / y < 4611686018427387904 ∧ x / y * y + x % y = x := by
  have h1 : x / y * s ≤ x * s := Nat.mul_le_mul_right s (Nat.div_le_self x y)
  have h2 : s * x ≤ A / D := by have := h.hX; omega
  have h3 : x / y * r ≤ x / y * s := Nat.mul_le_mul_left _ h.rs
  have h4 : x / y * y ≤ x := Nat.div_mul_le_self x y
  have h5 : 1 * x ≤ s * x := Nat.mul_le_mul_right x h.s1
  have h6 : x / y ≤ x := Nat.div_le_self x y
  have h7 : 1 ≤ x / y := (Nat.le_div_iff_mul_le (by omega)).2 (by have := h.yx; omega)
  have h8 := Nat.div_add_mod x y
  rw [Nat.mul_comm x s] at h1
  rw [Nat.mul_comm y] at h8
  refine ⟨by omega, by omega, h4, by omega, h7, by omega, h8⟩
theorem Lh.step (h : Lh A B D e p q r s x y R0 R1) (hX : A / D < 4611686018427387904) (hD : 0 < D) (hBA : B ≤ A) (hy : y ≠ 0) (h1 : q + x / y * s ≤ x % y) (h2 : q + x / y * s + s ≤ y - x % y) :
    Lh A B D (-e) r s (p + x / y * r) (q + x / y * s) y (x % y) R1 (R0 - x / y * R1) := by
  obtain ⟨k, hk⟩ : ∃ k, k = x / y := ⟨_, rfl⟩
  obtain ⟨t, ht⟩ : ∃ t, t = x % y := ⟨_, rfl⟩
  obtain ⟨X, hXe⟩ : ∃ X, X = A / D := ⟨_, rfl⟩
  obtain ⟨Y, hYe⟩ : ∃ Y, Y = B / D := ⟨_, rfl⟩
  obtain ⟨hs1, hs2, hs3, hs4, hs5, hs6, hs7⟩ := h.small hX hy
  obtain ⟨sg, r0, r1, x0, y0, hXX, rs, s1, pq, yx, g, dn, q31, s31⟩ := h
  rw [← hXe] at x0 y0 hXX hX
  rw [← hYe] at x0 y0
  rw [← hk, ← ht] at hs7
  rw [← hk] at hs1 hs2 hs3 hs5 hs6 h1 h2 ⊢
  rw [← ht] at h1 h2 ⊢
  have htl : t < y := by rw [ht]; exact Nat.mod_lt _ (by omega)
  obtain ⟨a, ha⟩ : ∃ a, a = A % D := ⟨_, rfl⟩
  obtain ⟨b, hb⟩ : ∃ b, b = B % D := ⟨_, rfl⟩
  have hal : a < D := by rw [ha]; exact Nat.mod_lt _ hD
  have hbl : b < D := by rw [hb]; exact Nat.mod_lt _ hD
  have hA : D * X + a = A := by rw [hXe, ha]; exact Nat.div_add_mod A D
  have hB : D * Y + b = B := by rw [hYe, hb]; exact Nat.div_add_mod B D
  -- the next cofactors
  obtain ⟨na, hna⟩ : ∃ na, na = p + k * r := ⟨_, rfl⟩
  obtain ⟨nb, hnb⟩ : ∃ nb, nb = q + k * s := ⟨_, rfl⟩
  rw [← hnb] at h1 h2 ⊢
  rw [← hna]
  have hkr : k * r ≤ k * s := Nat.mul_le_mul_left k rs
  have hks : 1 * s ≤ k * s := Nat.mul_le_mul_right s hs5
  have hnn : na ≤ nb := by
    rcases pq with h | ⟨h3, h4, h5, h6⟩
    · omega
    · subst h5; subst h6; simp at hkr; rw [hna, hnb]; simp; omega
  -- the next number
  obtain ⟨N, hN⟩ : ∃ N : Int, N = R0 - k * R1 := ⟨_, rfl⟩
  have hN1 : N = e * (na * A - nb * B) := by rw [hN, r0, r1, hna, hnb]; push_cast; exact lr2 ..
  have ht1 : (t : Int) = e * (na * X - nb * Y) := by
    have : (t : Int) = x - k * y := by have : ((k * y + t : Nat) : Int) = x := by rw [hs7]
                                       push_cast at this; omega
    rw [this, x0, y0, hna, hnb]; push_cast; exact lr2 ..
  have hAz : (A : Int) = D * X + a := by rw [← hA]; push_cast; rfl
  have hBz : (B : Int) = D * Y + b := by rw [← hB]; push_cast; rfl
  have hN2 : N = D * t + e * (na * a - nb * b) := by rw [hN1, hAz, hBz, ht1]; exact lr1 ..
  have hR2 : (R1 : Int) = D * y + e * (s * b - r * a) := by rw [r1, hAz, hBz, y0]; exact lr1 e D Y X b a s r
  -- bounds of products
  have m1 : D * nb ≤ D * t := Nat.mul_le_mul_left D h1
  have m2 : nb * b ≤ nb * (D - 1) := Nat.mul_le_mul_left nb (by omega)
  have m3 : na * a ≤ nb * (D - 1) := Nat.mul_le_mul hnn (by omega)
  have m4 : nb * (D - 1) + nb = D * nb := by rw [Nat.mul_comm D nb, ← Nat.mul_succ]; congr 1; omega
  have m5 : D * (nb + s) + D * t ≤ D * y := by rw [← Nat.mul_add]; exact Nat.mul_le_mul_left D (by omega)
  have m6 : s * b ≤ s * (D - 1) := Nat.mul_le_mul_left s (by omega)
  have m7 : r * a ≤ s * (D - 1) := Nat.mul_le_mul rs (by omega)
  have m8 : s * (D - 1) + s = D * s := by rw [Nat.mul_comm D s, ← Nat.mul_succ]; congr 1; omega
  have m9 : D * (nb + s) = D * nb + D * s := Nat.mul_add _ _ _
  have hN0 : 0 ≤ N := by
    rcases sg with e1 | e1 <;> subst e1 <;> rw [hN2] <;> (try simp only [Int.one_mul, Int.neg_mul]) <;> norm_cast <;> omega
  have hNlt : N < R1 := by
    rcases sg with e1 | e1 <;> subst e1 <;> rw [hN2, hR2] <;> (try simp only [Int.one_mul, Int.neg_mul]) <;> norm_cast <;> omega
  have hkR : k * R1 ≤ R0 := by
    have : ((k * R1 : Nat) : Int) ≤ R0 := by push_cast; omega
    omega
  have hNn : ((R0 - k * R1 : Nat) : Int) = N := by rw [Int.ofNat_sub hkR, hN]; push_cast; rfl
  have hX2 : X = nb * y + s * t := by
    rw [hXX, hnb, ← hs7, Nat.mul_add, Nat.add_mul]
    have : s * (k * y) = k * s * y := by ac_rfl
    omega
  refine ⟨by omega, ?_, ?_, ?_, ?_, ?_, hnn, by omega, .inl rs, by omega, ?_, ?_, s31, ?_⟩
  · rw [r1]; exact lr3 e s r B A
  · rw [hNn, hN1]; exact lr3 ..
  · rw [← hXe, ← hYe, y0]; exact lr3 ..
  · rw [← hXe, ← hYe, ht1]; exact lr3 ..
  · rw [← hXe]; exact hX2
  · rw [← g]
    have e1 : R0 = (R0 - k * R1) + k * R1 := by omega
    conv => rhs; rw [e1]
    rw [Nat.gcd_add_mul_right_left, Nat.gcd_comm]
  · intro _
    refine ⟨?_, by omega⟩
    rcases Nat.eq_zero_or_pos q with hq0 | hq0
    · rcases pq with h3 | ⟨h3, h4, h5, h6⟩
      · have hp0 : p = 0 := by omega
        subst hq0; subst hp0; simp at x0; omega
      · subst h3; subst h4; subst h5; subst h6
        simp at r0 r1
        rcases sg with e1 | e1 <;> subst e1 <;> omega
    · have := dn (by omega); omega
  · rcases Nat.lt_or_ge nb 2147483648 with h3 | h3
    · exact h3
    · exfalso
      have h4 : 2147483648 * 2147483648 ≤ nb * y := Nat.mul_le_mul h3 (by omega)
      omega
end
end Go.Proofs.Ythfpcebcfjlkmab
