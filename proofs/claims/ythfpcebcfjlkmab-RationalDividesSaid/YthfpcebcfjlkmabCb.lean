/- Contracts of functions of the program, and what they lean on. -/
import Derived.Test.YthfpcebcfjlkmabLm
import Derived.Test.YthfpcebcfjlkmabLd
set_option linter.unusedSimpArgs false
set_option linter.unusedVariables false
namespace Go.Proofs.Ythfpcebcfjlkmab
open Go.RowKit
/-! ### the leading digits -/
theorem lead_eq {l : List Nat} (hL : Lim l) {i s : Nat} (hs : s ≤ 31) (h : nv l < 2 ^ (32 * i + s + 62)) :
    (l.getD (i + 1) 0 + 4294967296 * l.getD (i + 2) 0) * 2 ^ (32 - s) + l.getD i 0 / 2 ^ s = nv l / 2 ^ (32 * i + s) ∧ l.getD (i + 1) 0 + 4294967296 * l.getD (i + 2) 0 < 2 ^ (30 + s) := by
  have h1 := nv_split l i
  have h2 := hL.take_lt i
  have hp : 0 < 4294967296 ^ i := Nat.pow_pos (by decide)
  have h3 : nv l / 2 ^ (32 * i + s) = nv (l.drop i) / 2 ^ s := by
    rw [Nat.pow_add, ← pow32, ← Nat.div_div_eq_div_mul]
    congr 1
    rw [h1, Nat.add_mul_div_left _ _ hp, Nat.div_eq_of_lt h2, Nat.zero_add]
  have h4 : nv (l.drop i) < 2 ^ (62 + s) := by
    have h5 : 4294967296 ^ i * nv (l.drop i) < 4294967296 ^ i * 2 ^ (62 + s) := by
      rw [pow32, ← Nat.pow_add, ← pow32, show 32 * i + (62 + s) = 32 * i + s + 62 by omega]
      omega
    exact Nat.lt_of_mul_lt_mul_left h5
  have h6 : 2 ^ (62 + s) ≤ 2 ^ 93 := Nat.pow_le_pow_right (by decide) (by omega)
  have h7 := nv_drop l i
  have h8 : nv (l.drop (i + 1)) = l.getD (i + 1) 0 + 4294967296 * nv (l.drop (i + 2)) := nv_drop l (i + 1)
  have h9 : nv (l.drop (i + 2)) = l.getD (i + 2) 0 + 4294967296 * nv (l.drop (i + 3)) := nv_drop l (i + 2)
  have h10 : nv (l.drop (i + 3)) = 0 := by
    rcases Nat.eq_zero_or_pos (nv (l.drop (i + 3))) with h | h
    · exact h
    · exfalso
      have : 2 ^ 93 = 9903520314283042199192993792 := by decide
      omega
  replace h9 : nv (l.drop (i + 2)) = l.getD (i + 2) 0 := by omega
  rw [h9] at h8
  rw [h8] at h7
  obtain ⟨ab, hab⟩ : ∃ ab, ab = l.getD (i + 1) 0 + 4294967296 * l.getD (i + 2) 0 := ⟨_, rfl⟩
  rw [← hab] at h7 ⊢
  have e1 : 4294967296 = 2 ^ s * 2 ^ (32 - s) := by rw [← Nat.pow_add, show s + (32 - s) = 32 by omega]
  have hps : 0 < 2 ^ s := Nat.pow_pos (by decide)
  refine ⟨?_, ?_⟩
  · rw [h3, h7]
    have e2 : 4294967296 * ab = 2 ^ s * (ab * 2 ^ (32 - s)) := by rw [e1]; ac_rfl
    rw [e2, Nat.add_mul_div_left _ _ hps, Nat.add_comm]
  · have e3 : 2 ^ (62 + s) = 4294967296 * 2 ^ (30 + s) := by rw [show 62 + s = 32 + (30 + s) by omega, Nat.pow_add]
    omega
theorem lead_room {ab s : Nat} (hs : s ≤ 31) (h : ab < 2 ^ (30 + s)) : ab * 2 ^ (32 - s) < 4611686018427387904 := by
  have h1 : ab * 2 ^ (32 - s) < 2 ^ (30 + s) * 2 ^ (32 - s) := (Nat.mul_lt_mul_right (Nat.pow_pos (by decide))).2 h
  rw [← Nat.pow_add, show 30 + s + (32 - s) = 62 by omega] at h1
  exact h1
theorem lead_low {x s : Nat} (hs : s ≤ 31) (hx : x < 4294967296) : x / 2 ^ s < 2 ^ (32 - s) := by
  rw [Nat.div_lt_iff_lt_mul (Nat.pow_pos (by decide)), ← Nat.pow_add, show 32 - s + s = 32 by omega]
  exact hx
/-- Two numbers whose digits do not meet: their bits together are their sum. -/
theorem or_apart {P : Program} {w : World} {a b k : Nat} (hb : b < 2 ^ k) (hm : a * 2 ^ k + b < 18446744073709551616) :
    (Op.intBits .or .u64 ((a * 2 ^ k : Nat) : Int) ((b : Nat) : Int)).run P w = .ok (.int .u64 ((a * 2 ^ k + b : Nat) : Int)) w := by
  have h0 : a * 2 ^ k ||| b = a * 2 ^ k + b := by rw [Nat.mul_comm, ← Nat.two_pow_add_eq_or_of_lt hb]
  generalize a * 2 ^ k = c at *
  have e1 : (BitVec.ofInt 64 ((c : Nat) : Int) ||| BitVec.ofInt 64 (b : Int)).toNat = c + b := by
    rw [BitVec.ofInt_natCast, BitVec.ofInt_natCast, BitVec.toNat_or, BitVec.toNat_ofNat, BitVec.toNat_ofNat, Nat.mod_eq_of_lt (by omega), Nat.mod_eq_of_lt (by omega), h0]
  have e2 : IntKind.u64.wrap ((c + b : Nat) : Int) = ((c + b : Nat) : Int) := wu64 (by omega) (by omega) rfl
  show Result.ok (Value.int .u64 (IntKind.u64.wrap ((BitVec.ofInt 64 ((c : Nat) : Int) ||| BitVec.ofInt 64 (b : Int)).toNat : Int))) w = _
  rw [e1, e2]
/-! ### combine -/
theorem cmb_step {zs : List Nat} {i : Nat} {c s T u : Int} (hi : i < zs.length) (h0 : zs.getD i 0 = 0) (h : (nv zs : Int) + 4294967296 ^ i * c = T) (hs : s = c + u) :
    (nv (zs.set i (s % 4294967296).toNat) : Int) + 4294967296 ^ (i + 1) * (s / 4294967296) = T + 4294967296 ^ i * u := by
  have h1 := nv_set (l := zs) (k := i) (s % 4294967296).toNat hi
  rw [h0, Nat.mul_zero, Nat.add_zero] at h1
  have h2 : (((s % 4294967296).toNat : Nat) : Int) = s % 4294967296 := Int.toNat_of_nonneg (Int.emod_nonneg _ (by decide))
  have h3 := Int.emod_add_mul_ediv s 4294967296
  rw [h1, Int.natCast_add, Int.natCast_mul, Int.natCast_pow, h2, ← h]
  rw [show ((4294967296 : Nat) : Int) = 4294967296 from rfl]
  have h4 : (4294967296 : Int) ^ (i + 1) = 4294967296 ^ i * 4294967296 := Int.pow_succ ..
  rw [h4]
  generalize (4294967296 : Int) ^ i = Q at *
  have h5 : Q * 4294967296 * (s / 4294967296) = Q * (4294967296 * (s / 4294967296)) := Int.mul_assoc ..
  rw [h5, Int.add_assoc, ← Int.mul_add, h3, hs, Int.mul_add]
  omega
/-- Cofactors of unlike signs. -/
def Un (a b : Int) : Prop := (0 ≤ a ∧ a ≤ 2147483647 ∧ b ≤ 0 ∧ -2147483647 ≤ b) ∨ (0 ≤ b ∧ b ≤ 2147483647 ∧ a ≤ 0 ∧ -2147483647 ≤ a)
theorem mul_pos_room {x : Nat} {a : Int} (hx : x < 4294967296) (h0 : 0 ≤ a) (h1 : a ≤ 2147483647) : 0 ≤ (x : Int) * a ∧ (x : Int) * a ≤ 9223372030412324865 := by
  refine ⟨Int.mul_nonneg (by omega) h0, ?_⟩
  have h2 : (x : Int) * a ≤ 4294967295 * a := Int.mul_le_mul_of_nonneg_right (by omega) h0
  omega
theorem mul_neg_room {x : Nat} {a : Int} (hx : x < 4294967296) (h0 : a ≤ 0) (h1 : -2147483647 ≤ a) : (x : Int) * a ≤ 0 ∧ -9223372030412324865 ≤ (x : Int) * a := by
  have := mul_pos_room (x := x) (a := -a) hx (by omega) (by omega)
  rw [Int.mul_neg] at this
  omega
theorem un_room {x y : Nat} {a b : Int} (hx : x < 4294967296) (hy : y < 4294967296) (h : Un a b) :
    (-9223372030412324865 ≤ (x : Int) * a ∧ (x : Int) * a ≤ 9223372030412324865) ∧ (-9223372030412324865 ≤ (y : Int) * b ∧ (y : Int) * b ≤ 9223372030412324865) ∧ (-9223372030412324865 ≤ (x : Int) * a + (y : Int) * b ∧ (x : Int) * a + (y : Int) * b ≤ 9223372030412324865) := by
  rcases h with ⟨h1, h2, h3, h4⟩ | ⟨h1, h2, h3, h4⟩
  · have := mul_pos_room hx h1 h2; have := mul_neg_room hy h3 h4; omega
  · have := mul_pos_room hy h1 h2; have := mul_neg_room hx h3 h4; omega
theorem cmb_end {z M : Nat} {c R : Int} (h : (z : Int) + M * c = R) (hz : z < M) (h0 : 0 ≤ R) (hR : R < M) : (z : Int) = R := by
  have hM : (0 : Int) < M := by omega
  have hc : c = 0 := by
    rcases Int.lt_trichotomy c 0 with h1 | h1 | h1
    · have : (M : Int) * c ≤ M * (-1) := Int.mul_le_mul_of_nonneg_left (by omega) (by omega)
      omega
    · exact h1
    · have : (M : Int) * 1 ≤ M * c := Int.mul_le_mul_of_nonneg_left (by omega) (by omega)
      omega
  subst hc; omega
/-- What the cofactors are. -/
theorem Lh.un0 {A B D : Nat} {e : Int} {p q r s x y R0 R1 : Nat} (h : Lh A B D e p q r s x y R0 R1) : Un (e * p) (-(e * q)) := by
  have h1 := h.p31; have h2 := h.q31
  rcases h.sg with e1 | e1 <;> subst e1 <;> unfold Un <;> omega
theorem Lh.un1 {A B D : Nat} {e : Int} {p q r s x y R0 R1 : Nat} (h : Lh A B D e p q r s x y R0 R1) : Un (-(e * r)) (e * s) := by
  have h1 := h.r31; have h2 := h.s31
  rcases h.sg with e1 | e1 <;> subst e1 <;> unfold Un <;> omega
end Go.Proofs.Ythfpcebcfjlkmab
