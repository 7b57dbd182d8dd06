/- Contracts of functions of the program, and what they lean on. -/
import Derived.Test.YthfpcebcfjlkmabPure
namespace Go.Proofs.Ythfpcebcfjlkmab
/-- The number of limbs without the zeros at the end. -/
def sigL (l : List Nat) : Nat := (trimL l).length
theorem sigL_le (l : List Nat) : sigL l ≤ l.length := trimL_len l
theorem trimL_take (l : List Nat) : trimL l = l.take (sigL l) := by
  unfold sigL
  induction l with
  | nil => rfl
  | cons x l ih =>
    unfold trimL
    split
    · split <;> simp
    · rename_i y r h; rw [h] at ih; simp only [List.length_cons, List.take_succ_cons] at ih ⊢; rw [← ih]
theorem trimL_zeros (l : List Nat) (k : Nat) (h : ∀ j, k ≤ j → l.getD j 0 = 0) : trimL l = trimL (l.take k) := by
  induction l generalizing k with
  | nil => simp
  | cons x l ih =>
    cases k with
    | zero =>
      have h0 := h 0 (Nat.le_refl _)
      have := ih 0 (fun j _ => by have := h (j + 1) (by omega); simpa using this)
      simp at h0
      subst h0
      simp only [List.take_zero] at this ⊢
      unfold trimL; rw [this]; rfl
    | succ k =>
      have := ih k (fun j hj => by have := h (j + 1) (by omega); simpa using this)
      simp only [List.take_succ_cons]
      unfold trimL; rw [this]
theorem sigL_zero {l : List Nat} {j : Nat} (h : sigL l ≤ j) : l.getD j 0 = 0 := by
  unfold sigL at h
  induction l generalizing j with
  | nil => simp
  | cons x l ih =>
    unfold trimL at h
    split at h
    · rename_i h0
      cases j with
      | zero => split at h
                · rename_i h1; subst h1; rfl
                · simp at h
      | succ j => rw [h0] at ih; simpa using ih (by simp : ([] : List Nat).length ≤ j)
    · rename_i y r h0
      cases j with
      | zero => simp at h
      | succ j => rw [h0] at ih; simpa using ih (by simpa using h)
theorem sigL_last {l : List Nat} (h : 0 < sigL l) : l.getD (sigL l - 1) 0 ≠ 0 := by
  unfold sigL at *
  induction l with
  | nil => simp [trimL] at h
  | cons x l ih =>
    unfold trimL at h ⊢
    split
    · rename_i h0; rw [h0] at h
      split
      · rename_i h1; simp [h1] at h
      · simpa
    · rename_i y r h0
      rw [h0] at ih
      have := ih (by simp)
      simpa using this
theorem sigL_step {l : List Nat} {k : Nat} (h : sigL l ≤ k) (hk : 0 < k) (h0 : l.getD (k - 1) 0 = 0) : sigL l ≤ k - 1 := by
  rcases Nat.lt_or_ge (k - 1) (sigL l) with h1 | h1
  · have e : k = sigL l := by omega
    subst e
    exact absurd h0 (sigL_last hk)
  · exact h1
theorem sigL_stop {l : List Nat} {k : Nat} (h : sigL l ≤ k) (hk : 0 < k) (h0 : l.getD (k - 1) 0 ≠ 0) : k = sigL l := by
  rcases Nat.lt_or_ge (sigL l) k with h1 | h1
  · exact absurd (sigL_zero (by omega)) h0
  · omega
theorem take_succ' {l : List Nat} {k : Nat} (h : k < l.length) : l.take (k + 1) = l.take k ++ [l.getD k 0] := by
  rw [List.take_succ_eq_append_getElem h]; simp [h]
theorem take_step {a b : List Nat} {k : Nat} (h : a.take k = b.take k) (ha : k < a.length) (hb : k < b.length) (he : a.getD k 0 = b.getD k 0) : a.take (k + 1) = b.take (k + 1) := by
  rw [take_succ' ha, take_succ' hb, h, he]
theorem take_all {a b : List Nat} {k : Nat} (h : a.take k = b.take k) (ha : a.length ≤ k) (hb : b.length ≤ k) : a = b := by
  rwa [List.take_of_length_le ha, List.take_of_length_le hb] at h
theorem getD_out {l : List Nat} {i : Nat} (h : l.length ≤ i) : l.getD i 0 = 0 := by simp [List.getD_eq_getElem?_getD, List.getElem?_eq_none h]
end Go.Proofs.Ythfpcebcfjlkmab
