/- Contracts of functions of the program, and what they lean on. -/
import Derived.Test.YthfpcebcfjlkmabPw
namespace Go.Proofs.Ythfpcebcfjlkmab
open Go.RowKit
/-- Binomial coefficients. -/
def choose : Nat → Nat → Nat
  | _, 0 => 1
  | 0, _ + 1 => 0
  | n + 1, k + 1 => choose n k + choose n (k + 1)
theorem choose_zero (n : Nat) : choose n 0 = 1 := by cases n <;> rfl
theorem choose_succ (n k : Nat) : choose (n + 1) (k + 1) = choose n k + choose n (k + 1) := rfl
theorem choose_big : ∀ {n k : Nat}, n < k → choose n k = 0
  | 0, k + 1, _ => rfl
  | n + 1, k + 1, h => by rw [choose_succ, choose_big (by omega : n < k), choose_big (by omega : n < k + 1)]
theorem choose_self : ∀ n : Nat, choose n n = 1
  | 0 => rfl
  | n + 1 => by rw [choose_succ, choose_self n, choose_big (by omega)]
theorem choose_absorb : ∀ n k : Nat, (n + 1) * choose n k = choose (n + 1) (k + 1) * (k + 1)
  | 0, 0 => rfl
  | 0, k + 1 => by rw [choose_big (by omega : 0 < k + 1), choose_big (by omega : 0 + 1 < k + 1 + 1)]; simp
  | n + 1, 0 => by
    have h := choose_absorb n 0
    rw [choose_zero] at h ⊢
    rw [choose_succ (n + 1) 0, choose_zero]
    omega
  | n + 1, k + 1 => by
    have h1 := choose_absorb n k
    have h2 := choose_absorb n (k + 1)
    rw [choose_succ (n + 1) (k + 1), Nat.add_mul (choose (n + 1) (k + 1)), ← h2]
    rw [show choose (n + 1) (k + 1) * (k + 1 + 1) = choose (n + 1) (k + 1) * (k + 1) + choose (n + 1) (k + 1) by rw [Nat.mul_add, Nat.mul_one], ← h1]
    rw [show (n + 1 + 1) * choose (n + 1) (k + 1) = (n + 1) * choose (n + 1) (k + 1) + choose (n + 1) (k + 1) by rw [Nat.add_mul (n + 1) 1, Nat.one_mul]]
    rw [choose_succ n k, Nat.mul_add]
    omega
theorem choose_next {n k : Nat} (h : k ≤ n) : choose n k * (n - k) = choose n (k + 1) * (k + 1) := by
  have h1 := choose_absorb n k
  rw [choose_succ, Nat.add_mul (choose n k)] at h1
  obtain ⟨d, rfl⟩ : ∃ d, n = k + d := ⟨n - k, by omega⟩
  rw [show k + d - k = d by omega]
  have e : (k + d + 1) * choose (k + d) k = choose (k + d) k * (k + 1) + choose (k + d) k * d := by rw [Nat.mul_comm, show k + d + 1 = (k + 1) + d by omega, Nat.mul_add]
  omega
theorem choose_symm_add : ∀ a b : Nat, choose (a + b) a = choose (a + b) b
  | 0, b => by rw [Nat.zero_add, choose_zero, choose_self]
  | a + 1, 0 => by rw [Nat.add_zero, choose_zero, choose_self]
  | a + 1, b + 1 => by
    have h1 := choose_symm_add a (b + 1)
    have h2 := choose_symm_add (a + 1) b
    rw [show a + 1 + (b + 1) = (a + (b + 1)) + 1 by omega, choose_succ, choose_succ, h1]
    rw [show a + 1 + b = a + (b + 1) by omega] at h2
    rw [h2]; omega
theorem choose_symm {n k : Nat} (h : k ≤ n) : choose n (n - k) = choose n k := by
  have := choose_symm_add (n - k) k
  rw [show n - k + k = n by omega] at this
  exact this
theorem choose_pow : ∀ n k : Nat, choose n k ≤ 2 ^ n
  | _, 0 => by rw [choose_zero]; exact Nat.pow_pos (by decide)
  | 0, k + 1 => by rw [choose_big (by omega)]; exact Nat.zero_le _
  | n + 1, k + 1 => by rw [choose_succ, Nat.pow_succ]; have := choose_pow n k; have := choose_pow n (k + 1); omega
def c129 : Nat := 129
theorem choose_len {n k : Nat} (h : n ≤ 4097) : (digs (choose n k)).length ≤ 129 := by
  have e : n < 32 * c129 := by rw [show c129 = 129 from rfl]; omega
  refine digs_len (k := c129) ?_
  rw [pow32]
  exact Nat.lt_of_le_of_lt (choose_pow n k) (Nat.pow_lt_pow_right (by decide) e)
/-- The same at every whole number below. -/
def chz (n : Nat) (k : Int) : Nat := if k < 0 then 0 else choose n k.toNat
theorem chz_nat (n k : Nat) {K : Int} (h : K = k) : chz n K = choose n k := by
  subst h; unfold chz; rw [if_neg (by omega)]; simp
theorem chz_neg (n : Nat) {K : Int} (h : K < 0) : chz n K = 0 := by unfold chz; rw [if_pos h]
theorem chz_big {n : Nat} {K : Int} (h : (n : Int) < K) : chz n K = 0 := by unfold chz; rw [if_neg (by omega)]; exact choose_big (by omega)
/-! ### division by one limb -/
theorem div_lim {h l y : Nat} (hh : h < y) (hl : l < 4294967296) : (l + 4294967296 * h) / y < 4294967296 := by
  rw [Nat.div_lt_iff_lt_mul (by omega)]
  have : 4294967296 * (h + 1) ≤ 4294967296 * y := Nat.mul_le_mul_left _ hh
  omega
theorem drop_set {l : List Nat} {i : Nat} (v : Nat) (h : i < l.length) : nv ((l.set i v).drop i) = v + 4294967296 * nv (l.drop (i + 1)) := by
  rw [nv_drop, List.drop_set_of_lt (by omega)]
  simp [h]
theorem div_step {xa zs : List Nat} {i d r x q : Nat} (hi : i < zs.length) (h : nv (xa.drop (i + 1)) = nv (zs.drop (i + 1)) * d + r) (hx : xa.getD i 0 = x) (hq : q = (x + 4294967296 * r) / d) :
    nv (xa.drop i) = nv ((zs.set i q).drop i) * d + (x + 4294967296 * r) % d := by
  rw [drop_set _ hi, nv_drop, hx, h]
  have h1 := Nat.div_add_mod (x + 4294967296 * r) d
  rw [← hq, Nat.mul_comm] at h1
  rw [Nat.add_mul, Nat.mul_add, Nat.mul_assoc]
  omega
theorem div_end {a q d r : Nat} (h : a = q * d + r) (hr : r < d) : q = a / d ∧ r = a % d := by
  subst h
  have hd : 0 < d := by omega
  constructor
  · rw [Nat.mul_comm, Nat.mul_add_div hd, Nat.div_eq_of_lt hr]; omega
  · rw [Nat.mul_comm, Nat.mul_add_mod, Nat.mod_eq_of_lt hr]
/-- One step of the multiplication by a limb. -/
theorem smul_step {zs xa : List Nat} {i c f x t s : Nat} (hi : i < zs.length) (hg : zs.getD i 0 = x) (hxa : xa.getD i 0 = x) (h : nv zs + 4294967296 ^ i * c + nv (xa.take i) = nv (xa.take i) * f + t + nv xa) (hs : s = c + x * f) :
    nv (zs.set i (s % 4294967296)) + 4294967296 ^ (i + 1) * (s / 4294967296) + nv (xa.take (i + 1)) = nv (xa.take (i + 1)) * f + t + nv xa := by
  subst hs
  have h1 := nv_set ((c + x * f) % 4294967296) hi
  rw [hg] at h1
  have h2 := Nat.div_add_mod (c + x * f) 4294967296
  have h3 : 4294967296 ^ (i + 1) * ((c + x * f) / 4294967296) + 4294967296 ^ i * ((c + x * f) % 4294967296) = 4294967296 ^ i * c + 4294967296 ^ i * (x * f) := by
    rw [Nat.pow_succ, Nat.mul_assoc, ← Nat.mul_add, h2, Nat.mul_add]
  rw [nv_take_succ, hxa, Nat.add_mul, Nat.mul_assoc]
  omega
theorem wu32n {n : Nat} (h : n < 4294967296) : IntKind.u32.wrap (n : Int) = (n : Int) := wu32 (by omega) (by omega) rfl
theorem wu64n {n : Nat} (h : n < 18446744073709551616) : IntKind.u64.wrap (n : Int) = (n : Int) := wu64 (by omega) (by omega) rfl
theorem wi64n {n : Nat} (h : n < 9223372036854775808) : IntKind.i64.wrap (n : Int) = (n : Int) := wi64 (by omega) (by omega) rfl
end Go.Proofs.Ythfpcebcfjlkmab
