/- Contracts of functions of the program, and what they lean on. -/
import Derived.Test.YthfpcebcfjlkmabWin
namespace Go.Proofs.Ythfpcebcfjlkmab
open Go.RowKit
theorem getD_zero {l : List Nat} {k t : Nat} (h : nv l < 4294967296 ^ k) (ht : k ≤ t) : l.getD t 0 = 0 := by
  rcases Nat.eq_zero_or_pos (l.getD t 0) with h0 | h0
  · exact h0
  · exfalso
    have h1 := nv_split l t
    have h2 := nv_drop l t
    have h3 : 4294967296 ^ k ≤ 4294967296 ^ t := Nat.pow_le_pow_right (by decide) ht
    have h4 : 4294967296 ^ t * 1 ≤ 4294967296 ^ t * nv (l.drop t) := Nat.mul_le_mul_left _ (by omega)
    omega
theorem nv_take_zero {l : List Nat} {k : Nat} (h : ∀ t, k ≤ t → l.getD t 0 = 0) : nv (l.take k) = nv l := by
  have h1 := trimL_zeros l k h
  have h2 := nv_trimL l
  have h3 := nv_trimL (l.take k)
  rw [← h1] at h3
  omega
theorem nv_take_lt {l : List Nat} {k : Nat} (h : nv l < 4294967296 ^ k) : nv (l.take k) = nv l := nv_take_zero fun _ ht => getD_zero h ht
theorem nv_lt_zero {l : List Nat} (hL : Lim l) {k : Nat} (h : ∀ t, k ≤ t → l.getD t 0 = 0) : nv l < 4294967296 ^ k := by
  rw [← nv_take_zero h]; exact hL.take_lt k
/-- What a window reads. -/
theorem win_val {l : List Nat} {o k : Nat} (h : nv l < 4294967296 ^ (o + k)) : nv l = nv (l.take o) + 4294967296 ^ o * nv ((l.drop o).take k) := by
  have h1 := nv_split l o
  have h2 : nv (l.drop o) < 4294967296 ^ k := by
    rcases Nat.lt_or_ge (nv (l.drop o)) (4294967296 ^ k) with h3 | h3
    · exact h3
    · exfalso
      have h4 := Nat.mul_le_mul_left (4294967296 ^ o) h3
      rw [← Nat.pow_add] at h4
      omega
  rw [nv_take_lt h2]
  exact h1
theorem own_ne {b e m c : Nat} {w : World} {A A2 : Option Addr} {cs : List Value} (h : Own b w e 1 A m c cs) (hm : 0 < m) (h2 : ∀ g, bl A2 = some g → g < b) : bl A ≠ bl A2 := by
  intro he
  rcases h.form with ⟨_, h0, _⟩ | ⟨g, rfl, h3, _⟩
  · omega
  · have := h2 g he.symm; omega
/-- The divisor, shifted. -/
theorem norm_div {xb yd : List Nat} {n u : Nat} (hLb : Lim xb) (hLy : Lim yd) (hn : 0 < n) (hl : xb.length = n) (hl2 : yd.length = n + 1) (ht : xb.getD (n - 1) 0 ≠ 0) (hu : u = 32 - bitn (xb.getD (n - 1) 0)) (hv : nv yd = nv xb * 2 ^ u) :
    nv (yd.take n) = nv xb * 2 ^ u ∧ 2147483648 ≤ (yd.take n).getD (n - 1) 0 ∧ u ≤ 31 := by
  have hb := bitn_32 (hLb.getD (n - 1))
  have hb1 : 0 < bitn (xb.getD (n - 1) 0) := bitn_lt.2 (by omega)
  have hs : sigL xb = n := by
    rcases Nat.lt_or_ge (n - 1) (sigL xb) with h | h
    · have := sigL_le xb; omega
    · exact absurd (sigL_zero h) ht
  have hbn := bitn_nv hLb (by omega)
  rw [hs] at hbn
  have h1 : nv xb < 2 ^ bitn (nv xb) := bitn_le.1 (Nat.le_refl _)
  have h2 : 2 ^ (bitn (nv xb) - 1) ≤ nv xb := bitn_lt.1 (by omega)
  have h3 : nv yd < 4294967296 ^ n := by
    rw [hv, pow32, show 32 * n = bitn (nv xb) + u by omega, Nat.pow_add]
    exact (Nat.mul_lt_mul_right (Nat.pow_pos (by decide))).2 h1
  have h4 : 2 ^ (32 * n - 1) ≤ nv yd := by
    rw [hv, show 32 * n - 1 = bitn (nv xb) - 1 + u by omega, Nat.pow_add]
    exact Nat.mul_le_mul_right _ h2
  have h5 := nv_take_lt h3
  refine ⟨by rw [h5, hv], ?_, by omega⟩
  rcases Nat.lt_or_ge ((yd.take n).getD (n - 1) 0) 2147483648 with h6 | h6
  · exfalso
    have hLt := hLy.take n
    have h7 := nv_take_succ (yd.take n) (n - 1)
    rw [show n - 1 + 1 = n by omega, nv_take_all (l := yd.take n) (by rw [List.length_take]; omega)] at h7
    have h8 := hLt.take_lt (n - 1)
    have h9 : 4294967296 ^ (n - 1) * ((yd.take n).getD (n - 1) 0 + 1) ≤ 4294967296 ^ (n - 1) * 2 ^ 31 := Nat.mul_le_mul_left _ (by omega)
    have h10 : 4294967296 ^ (n - 1) * 2 ^ 31 = 2 ^ (32 * n - 1) := by rw [pow32, ← Nat.pow_add]; congr 1; omega
    rw [Nat.mul_add, h10] at h9
    omega
  · exact h6
/-- One digit of the quotient, and what is left. -/
theorem ld_step {N Q Z Z' D o dg : Nat} (heq : N = Q * (4294967296 ^ (o + 1) * D) + Z) (hz : Z' + 4294967296 ^ o * (dg * D) = Z) : N = (dg + 4294967296 * Q) * (4294967296 ^ o * D) + Z' := by
  rw [heq, ← hz, Nat.add_mul, Nat.pow_succ]
  have e1 : Q * (4294967296 ^ o * 4294967296 * D) = 4294967296 * Q * (4294967296 ^ o * D) := by ac_rfl
  have e2 : 4294967296 ^ o * (dg * D) = dg * (4294967296 ^ o * D) := by ac_rfl
  omega
theorem ld_less {Z Z' D o lw W q : Nat} (hD : 0 < D) (hZ : Z = lw + 4294967296 ^ o * W) (hlw : lw < 4294967296 ^ o) (hq : q = W / D) (hz : Z' + 4294967296 ^ o * (q * D) = Z) : Z' < 4294967296 ^ o * D := by
  have h1 := Nat.div_add_mod W D
  have h2 := Nat.mod_lt W hD
  rw [← hq, Nat.mul_comm] at h1
  have h3 : 4294967296 ^ o * W = 4294967296 ^ o * (q * D) + 4294967296 ^ o * (W % D) := by rw [← Nat.mul_add, h1]
  have h4 : 4294967296 ^ o * (W % D + 1) ≤ 4294967296 ^ o * D := Nat.mul_le_mul_left _ h2
  rw [Nat.mul_add] at h4
  omega
theorem ld_none {Z ys D o lw W q dg M : Nat} (hD : 0 < D) (hZ : Z = lw + 4294967296 ^ o * W) (hlw : lw < 4294967296 ^ o) (hq : q = W / D) (hdg : dg = q ∨ dg = q + 1) (h : ys + 4294967296 ^ o * (dg * D) = Z + M * 0) : dg = q := by
  rcases hdg with h1 | h1
  · exact h1
  · exfalso
    subst h1
    have h2 := Nat.mod_lt W hD
    have h3 := Nat.div_add_mod W D
    rw [← hq, Nat.mul_comm] at h3
    have h4 : 4294967296 ^ o * (W + 1) ≤ 4294967296 ^ o * ((q + 1) * D) := Nat.mul_le_mul_left _ (by rw [Nat.add_mul]; omega)
    rw [Nat.mul_add] at h4
    omega
theorem ld_over {Z ys D o lw W q dg M : Nat} (hZ : Z = lw + 4294967296 ^ o * W) (hq : q = W / D) (hdg : dg = q ∨ dg = q + 1) (hy : ys < M) (h : ys + 4294967296 ^ o * (dg * D) = Z + M * 1) : dg = q + 1 := by
  rcases hdg with h1 | h1
  · exfalso
    subst h1
    have h2 : dg * D ≤ W := by rw [hq]; exact Nat.div_mul_le_self _ _
    have h3 := Nat.mul_le_mul_left (4294967296 ^ o) h2
    omega
  · exact h1
theorem ld_back {Z ys ys2 D o lw W q dg M e : Nat} (hZ : Z = lw + 4294967296 ^ o * W) (hq : q = W / D) (hdg : dg = q + 1) (hy2 : ys2 < M) (he : e ≤ 1) (h : ys + 4294967296 ^ o * (dg * D) = Z + M * 1) (h2 : ys2 + M * e = ys + 4294967296 ^ o * D) :
    ys2 + 4294967296 ^ o * (q * D) = Z := by
  subst hdg
  rw [Nat.add_mul, Nat.one_mul, Nat.mul_add] at h
  have h3 : q * D ≤ W := by rw [hq]; exact Nat.div_mul_le_self _ _
  have h4 := Nat.mul_le_mul_left (4294967296 ^ o) h3
  rcases (by omega : e = 0 ∨ e = 1) with rfl | rfl
  · exfalso; omega
  · omega
theorem ld_end {a b q Z u : Nat} (h : a * 2 ^ u = q * (b * 2 ^ u) + Z) (hZ : Z < b * 2 ^ u) : q = a / b ∧ Z / 2 ^ u = a % b := by
  have hp : 0 < 2 ^ u := Nat.pow_pos (by decide)
  have hb : 0 < b := by
    rcases Nat.eq_zero_or_pos b with h0 | h0
    · subst h0; omega
    · exact h0
  rw [← Nat.mul_assoc] at h
  have h1 : Z = (a - q * b) * 2 ^ u := by rw [Nat.sub_mul]; omega
  have h2 : q * b ≤ a := by
    rcases Nat.lt_or_ge a (q * b) with h3 | h3
    · have := (Nat.mul_lt_mul_right hp).2 h3; omega
    · exact h3
  have h3 : a - q * b < b := by
    rw [h1] at hZ
    exact (Nat.mul_lt_mul_right hp).1 hZ
  obtain ⟨e1, e2⟩ := div_end (a := a) (q := q) (d := b) (r := a - q * b) (by omega) h3
  exact ⟨e1, by rw [h1, Nat.mul_div_cancel _ hp, e2]⟩
theorem ld_init {xa xd : List Nat} {m n u : Nat} (hLa : Lim xa) (hla : xa.length = m) (hld : xd.length = n) (hn : 0 < n) (hmn : n ≤ m) (hu : u ≤ 31) (hv : 2147483648 ≤ xd.getD (n - 1) 0) : nv xa * 2 ^ u < 4294967296 ^ (m - n + 1) * nv xd := by
  have h1 := nv_lt hLa
  rw [hla] at h1
  have h2 := nv_take_succ xd (n - 1)
  rw [show n - 1 + 1 = n by omega, nv_take_all (l := xd) (by omega)] at h2
  have h3 : 4294967296 ^ (n - 1) * 2147483648 ≤ nv xd := by
    have := Nat.mul_le_mul_left (4294967296 ^ (n - 1)) hv
    omega
  have h4 := Nat.mul_le_mul_left (4294967296 ^ (m - n + 1)) h3
  rw [← Nat.mul_assoc, ← Nat.pow_add, show m - n + 1 + (n - 1) = m by omega] at h4
  have h5 : 2 ^ u ≤ 2147483648 := Nat.pow_le_pow_right (n := 2) (by decide) hu
  have h6 : nv xa * 2 ^ u ≤ nv xa * 2147483648 := Nat.mul_le_mul_left _ h5
  have h7 : nv xa * 2147483648 < 4294967296 ^ m * 2147483648 := (Nat.mul_lt_mul_right (by decide)).2 h1
  omega
theorem ld_room {Z D j n : Nat} (hj : 0 < j) (hZ : Z < 4294967296 ^ j * D) (hD : D < 4294967296 ^ n) : Z < 4294967296 ^ (j - 1 + (n + 1)) := by
  have h1 : 4294967296 ^ j * D ≤ 4294967296 ^ j * 4294967296 ^ n := Nat.mul_le_mul_left _ (by omega)
  rw [← Nat.pow_add, show j + n = j - 1 + (n + 1) by omega] at h1
  omega
theorem ld_win {Z D j lw W : Nat} (hj : 0 < j) (hZ : Z < 4294967296 ^ j * D) (h : Z = lw + 4294967296 ^ (j - 1) * W) : W < 4294967296 * D := by
  rw [show j = (j - 1) + 1 by omega, Nat.pow_succ, Nat.mul_assoc] at hZ
  exact Nat.lt_of_mul_lt_mul_left (a := 4294967296 ^ (j - 1)) (by omega)
end Go.Proofs.Ythfpcebcfjlkmab
