/- Contracts of functions of the program, and what they lean on. -/
import Derived.Test.YthfpcebcfjlkmabCh
namespace Go.Proofs.Ythfpcebcfjlkmab
open Go.RowKit
def sumTo (f : Nat → Nat) : Nat → Nat
  | 0 => 0
  | j + 1 => sumTo f j + f j
theorem sumTo_add (f g : Nat → Nat) : ∀ j, sumTo (fun i => f i + g i) j = sumTo f j + sumTo g j
  | 0 => rfl
  | j + 1 => by simp only [sumTo]; rw [sumTo_add f g j]; omega
theorem sumTo_shift (f : Nat → Nat) : ∀ j, sumTo f (j + 1) = f 0 + sumTo (fun i => f (i + 1)) j
  | 0 => by simp [sumTo]
  | j + 1 => by rw [sumTo, sumTo_shift f j]; simp only [sumTo]; omega
theorem sumTo_zero : ∀ j, sumTo (fun _ => 0) j = 0
  | 0 => rfl
  | j + 1 => by simp only [sumTo]; rw [sumTo_zero j]
theorem sumTo_congr {f g : Nat → Nat} : ∀ {j : Nat}, (∀ i, i < j → f i = g i) → sumTo f j = sumTo g j
  | 0, _ => rfl
  | j + 1, h => by simp only [sumTo]; rw [sumTo_congr (fun i hi => h i (by omega)), h j (by omega)]
theorem sumTo_le (f : Nat → Nat) {j k : Nat} (h : j ≤ k) : sumTo f j ≤ sumTo f k := by
  induction h with
  | refl => exact Nat.le_refl _
  | step _ ih => simp only [sumTo]; omega
/-- The first terms of the identity of Vandermonde. -/
def vs (p q r j : Nat) : Nat := sumTo (fun i => choose p i * choose q (r - i)) j
theorem vs_all : ∀ p q r : Nat, vs p q r (r + 1) = choose (p + q) r
  | 0, q, r => by
    unfold vs
    rw [sumTo_shift, sumTo_congr (g := fun _ => 0) (fun i _ => by rw [choose_big (by omega)]; simp), sumTo_zero, choose_zero]
    simp
  | p + 1, q, 0 => by simp [vs, sumTo, choose_zero]
  | p + 1, q, r + 1 => by
    have h1 := vs_all p q r
    have h2 := vs_all p q (r + 1)
    rw [show p + 1 + q = (p + q) + 1 by omega, choose_succ, ← h1, ← h2]
    unfold vs
    rw [sumTo_shift, sumTo_shift (fun i => choose p i * choose q (r + 1 - i)), choose_zero, choose_zero]
    rw [sumTo_congr (g := fun i => choose p i * choose q (r - i) + choose p (i + 1) * choose q (r + 1 - (i + 1))) (fun i _ => by rw [choose_succ, Nat.add_mul, show r + 1 - (i + 1) = r - i by omega]), sumTo_add]
    omega
theorem vs_len {p q r j : Nat} (h : p + q ≤ 4096) (hj : j ≤ r + 1) : (digs (vs p q r j)).length ≤ 129 := by
  have h1 : vs p q r j ≤ choose (p + q) r := by rw [← vs_all]; exact sumTo_le _ hj
  have h2 := choose_len (n := p + q) (k := r) (by omega)
  rw [show 129 = c129 from rfl] at h2 ⊢
  exact digs_len (Nat.lt_of_le_of_lt h1 (digs_len_iff.1 h2))
theorem vs_step (p q r j : Nat) : vs p q r (j + 1) = vs p q r j + choose p j * choose q (r - j) := rfl
theorem choose_pos : ∀ {n k : Nat}, k ≤ n → 0 < choose n k
  | n, 0, _ => by rw [choose_zero]; decide
  | n + 1, k + 1, h => by rw [choose_succ]; have := choose_pos (show k ≤ n by omega); omega
theorem chz_len {n r : Nat} {K : Int} (h : K = r) : (n < r → (digs (chz n K)).length = 0) ∧ (r ≤ n → 0 < (digs (chz n K)).length) := by
  rw [chz_nat n r h]
  constructor
  · intro h1; rw [choose_big h1]; rfl
  · intro h1
    have h2 := choose_pos h1
    rcases Nat.eq_zero_or_pos (digs (choose n r)).length with h3 | h3
    · have h4 := nv_digs (choose n r)
      rw [List.eq_nil_of_length_eq_zero h3] at h4
      simp at h4; omega
    · exact h3
end Go.Proofs.Ythfpcebcfjlkmab
