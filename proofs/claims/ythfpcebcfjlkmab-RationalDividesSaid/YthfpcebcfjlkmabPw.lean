/- Contracts of functions of the program, and what they lean on. -/
import Derived.Test.YthfpcebcfjlkmabBl
namespace Go.Proofs.Ythfpcebcfjlkmab
open Go.RowKit
/-- The greatest number of limbs, and twice that. -/
def c4 : Nat := 4096
def c8 : Nat := 8192
theorem c4_eq : c4 = 4096 := rfl
theorem c8_eq : c8 = 8192 := rfl
theorem c48 : c8 = c4 + c4 := rfl
/-- The least number with more than 4096 limbs. -/
def bigN : Nat := 4294967296 ^ c4
theorem bigN_eq : bigN = 4294967296 ^ c4 := by unfold bigN; rfl
theorem bigN_two : bigN = 2 ^ (32 * c4) := by rw [bigN_eq, pow32]
theorem bigN_gt : 4294967296 ≤ bigN := by
  rw [bigN_eq]
  have : 4294967296 ^ 1 ≤ 4294967296 ^ c4 := Nat.pow_le_pow_right (by decide) (by rw [c4_eq]; decide)
  rwa [Nat.pow_one] at this
theorem digs_len_iff {n k : Nat} : (digs n).length ≤ k ↔ n < 4294967296 ^ k := by
  constructor
  · intro h
    have h1 := nv_lt (digs_lim n)
    rw [nv_digs] at h1
    exact Nat.lt_of_lt_of_le h1 (Nat.pow_le_pow_right (by decide) h)
  · exact digs_len
theorem digs_big {n : Nat} : (digs n).length ≤ 4096 ↔ n < bigN := by rw [← c4_eq, bigN_eq]; exact digs_len_iff
theorem pow_big {a n : Nat} (hb : 2 ≤ bitn a) (h : 131071 / (bitn a - 1) < n) : bigN ≤ a ^ n := by
  have h1 : 2 ^ (bitn a - 1) ≤ a := bitn_lt.1 (by omega)
  have h2 := (Nat.div_lt_iff_lt_mul (by omega : 0 < bitn a - 1)).1 h
  have h3 : (2 ^ (bitn a - 1)) ^ n ≤ a ^ n := Nat.pow_le_pow_left h1 n
  rw [← Nat.pow_mul] at h3
  rw [bigN_two]
  exact Nat.le_trans (Nat.pow_le_pow_right (by decide) (by rw [Nat.mul_comm] at h2; rw [c4_eq]; omega)) h3
theorem pow_small {a n : Nat} (hb : 2 ≤ bitn a) (h : n ≤ 131071 / (bitn a - 1)) : a ^ n < 4294967296 ^ c8 := by
  have h1 : a < 2 ^ bitn a := bitn_le.1 (Nat.le_refl _)
  have h2 := (Nat.le_div_iff_mul_le (by omega : 0 < bitn a - 1)).1 h
  have h3 : a ^ n ≤ (2 ^ bitn a) ^ n := Nat.pow_le_pow_left (by omega) n
  rw [← Nat.pow_mul] at h3
  have h4 : n * bitn a ≤ n * (2 * (bitn a - 1)) := Nat.mul_le_mul_left n (by omega)
  have h5 : n * (2 * (bitn a - 1)) = 2 * (n * (bitn a - 1)) := by rw [Nat.mul_left_comm]
  rw [Nat.mul_comm] at h3
  rw [pow32]
  exact Nat.lt_of_le_of_lt h3 (Nat.pow_lt_pow_right (by decide) (by rw [c8_eq]; omega))
theorem pow_big2 {a n : Nat} (ha : 2 ≤ a) (h : 131072 ≤ n) : bigN ≤ a ^ n := by
  rw [bigN_two]
  have e : 32 * c4 ≤ n := by rw [c4_eq]; omega
  exact Nat.le_trans (Nat.pow_le_pow_right (by decide) e) (Nat.pow_le_pow_left ha n)
theorem pow_len {a k n c : Nat} (ha : 0 < a) (hk : k ≤ n) (h : a ^ n < 4294967296 ^ c) : (digs (a ^ k)).length ≤ c :=
  digs_len (Nat.lt_of_le_of_lt (Nat.pow_le_pow_right ha hk) h)
theorem sq_len {a q : Nat} (h : (digs (a ^ q)).length ≤ 4096) : (digs (a ^ (q + q))).length ≤ 8192 := by
  rw [← c4_eq, digs_len_iff] at h
  rw [← c8_eq, digs_len_iff, Nat.pow_add, c48, Nat.pow_add]
  exact Nat.mul_lt_mul'' h h
theorem half_pow {n j : Nat} (hj : 0 < j) : n / 2 ^ (j - 1) / 2 = n / 2 ^ j := by
  rw [Nat.div_div_eq_div_mul, ← Nat.pow_succ, show (j - 1).succ = j by omega]
theorem top_one {n : Nat} (h : 0 < n) : n / 2 ^ (bitn n - 1) = 1 := by
  have hp : 0 < bitn n := bitn_lt.2 (by omega)
  have h1 : 2 ^ (bitn n - 1) ≤ n := bitn_lt.1 (by omega)
  have h2 : n < 2 ^ (bitn n - 1 + 1) := bitn_le.1 (by omega)
  rw [Nat.pow_succ] at h2
  rw [Nat.div_eq_iff (Nat.pow_pos (by decide))]
  omega
theorem pw_half {k : Nat} (h : 0 < k) : 2 ^ k / 2 = 2 ^ (k - 1) := by
  obtain ⟨j, rfl⟩ : ∃ j, k = j + 1 := ⟨k - 1, by omega⟩
  rw [Nat.pow_succ]; simp
theorem pw_zero {k : Nat} (h : 0 < 2 ^ k / 2) : 0 < k := by
  rcases Nat.eq_zero_or_pos k with h0 | h0
  · subst h0; simp at h
  · exact h0
theorem pw_none {k : Nat} (h : 2 ^ k / 2 = 0) : k = 0 := by
  rcases Nat.eq_zero_or_pos k with h0 | h0
  · exact h0
  · rw [pw_half h0] at h
    have := Nat.pow_pos (n := k - 1) (show 0 < 2 by decide)
    omega
theorem and1_i64 {P : Program} {w : World} {a : Nat} {x : Int} (hx : x = a) (ha : a < 9223372036854775808) : (Op.intBits .and .i64 x 1).run P w = .ok (.int .i64 ((a % 2 : Nat) : Int)) w := by
  subst hx
  have e1 : (BitVec.ofInt 64 (a : Int) &&& BitVec.ofInt 64 (1 : Int)).toNat = a % 2 := by
    rw [show (1 : Int) = ((1 : Nat) : Int) from rfl, BitVec.ofInt_natCast, BitVec.ofInt_natCast, BitVec.toNat_and, BitVec.toNat_ofNat, BitVec.toNat_ofNat, Nat.mod_eq_of_lt (by omega), Nat.mod_eq_of_lt (by omega), Nat.and_one_is_mod]
  have e2 : IntKind.i64.wrap ((a % 2 : Nat) : Int) = ((a % 2 : Nat) : Int) := wi64 (by omega) (by omega) rfl
  show Result.ok (Value.int .i64 (IntKind.i64.wrap ((BitVec.ofInt 64 (a : Int) &&& BitVec.ofInt 64 (1 : Int)).toNat : Int))) w = _
  rw [e1, e2]
theorem bitn_one {a : Nat} (h : bitn a ≤ 1) : a ≤ 1 := by have := bitn_le.1 h; omega
theorem pow_le_one {a n : Nat} (h : a ≤ 1) (hn : 0 < n) : a ^ n = a := by
  rcases (by omega : a = 0 ∨ a = 1) with rfl | rfl
  · exact Nat.zero_pow hn
  · simp
theorem exp_ok {v k : Nat} (h : v < 4294967296 ^ 8) (hk : k ≤ 510) : v ^ k < bigN := by
  have h1 : v ^ k ≤ (4294967296 ^ 8) ^ k := Nat.pow_le_pow_left (by omega) k
  rw [← Nat.pow_mul] at h1
  rw [bigN_eq]
  exact Nat.lt_of_le_of_lt h1 (Nat.pow_lt_pow_right (by decide) (by rw [c4_eq]; omega))
theorem nv_lt8 {l : List Nat} (h : Lim l) (hl : l.length ≤ 8) : nv l < 4294967296 ^ 8 := Nat.lt_of_lt_of_le (nv_lt h) (Nat.pow_le_pow_right (by decide) hl)
theorem prod_lt8 {a b : List Nat} (ha : Lim a) (hb : Lim b) (hl : a.length + b.length ≤ 8) : prodN [a, b] < 4294967296 ^ 8 := by
  have h := Nat.mul_lt_mul'' (nv_lt ha) (nv_lt hb)
  rw [← Nat.pow_add] at h
  simp only [prodN_cons, prodN_nil, Nat.mul_one]
  exact Nat.lt_of_lt_of_le h (Nat.pow_le_pow_right (by decide) hl)
end Go.Proofs.Ythfpcebcfjlkmab
