/- Plain arithmetic. -/
namespace Go.Proofs.Ythfpcebcfjlkmab
/-- The value of a list of limbs. -/
def nv : List Nat → Nat
  | [] => 0
  | x :: l => x + 4294967296 * nv l
def Lim (l : List Nat) : Prop := ∀ x ∈ l, x < 4294967296
/-- Canonical limbs of a number, with fuel. -/
def digsF : Nat → Nat → List Nat
  | 0, _ => []
  | f + 1, n => if n = 0 then [] else n % 4294967296 :: digsF f (n / 4294967296)
def digs (n : Nat) : List Nat := digsF n n
/-- The list without zeros at its end. -/
def trimL : List Nat → List Nat
  | [] => []
  | x :: l => match trimL l with
    | [] => if x = 0 then [] else [x]
    | y :: r => x :: y :: r
theorem Lim.nil : Lim [] := fun _ h => by cases h
theorem Lim.cons {x : Nat} {l : List Nat} (hx : x < 4294967296) (h : Lim l) : Lim (x :: l) := fun y hy => by
  rcases List.mem_cons.1 hy with rfl | hy
  · exact hx
  · exact h _ hy
theorem Lim.tail {x : Nat} {l : List Nat} (h : Lim (x :: l)) : Lim l := fun y hy => h y (List.mem_cons_of_mem _ hy)
theorem Lim.head {x : Nat} {l : List Nat} (h : Lim (x :: l)) : x < 4294967296 := h x (List.mem_cons_self ..)
theorem nv_append (a b : List Nat) : nv (a ++ b) = nv a + 4294967296 ^ a.length * nv b := by
  induction a with
  | nil => simp [nv]
  | cons x l ih => simp only [List.cons_append, nv, ih, List.length_cons, Nat.pow_succ, Nat.mul_add]; rw [Nat.add_assoc]; congr 2; rw [← Nat.mul_assoc, Nat.mul_comm 4294967296]
theorem nv_lt {l : List Nat} (h : Lim l) : nv l < 4294967296 ^ l.length := by
  induction l with
  | nil => simp [nv]
  | cons x l ih => 
    have h1 := ih h.tail
    have h2 := h.head
    simp only [nv, List.length_cons, Nat.pow_succ]
    omega
theorem nv_zeros (n : Nat) : nv (List.replicate n 0) = 0 := by
  induction n with
  | zero => rfl
  | succ n ih => simp [List.replicate_succ, nv, ih]
theorem digsF_eq (f n : Nat) (h : n ≤ f) : nv (digsF f n) = n := by
  induction f generalizing n with
  | zero => simp [digsF, nv]; omega
  | succ f ih =>
    unfold digsF
    split
    · rename_i h0; subst h0; rfl
    · simp only [nv]; rw [ih _ (by omega)]; omega
theorem nv_digs (n : Nat) : nv (digs n) = n := digsF_eq n n (Nat.le_refl _)
theorem digsF_more (f g n : Nat) (hf : n ≤ f) (hg : n ≤ g) : digsF f n = digsF g n := by
  induction f generalizing g n with
  | zero => have : n = 0 := by omega
            subst this; cases g <;> simp [digsF]
  | succ f ih => 
    cases g with
    | zero => have : n = 0 := by omega
              subst this; simp [digsF]
    | succ g => 
      unfold digsF
      split
      · rfl
      · rw [ih g (n / 4294967296) (by omega) (by omega)]
theorem digs_zero : digs 0 = [] := rfl
theorem digs_pos (n : Nat) (h : 0 < n) : digs n = n % 4294967296 :: digs (n / 4294967296) := by
  unfold digs
  cases n with
  | zero => omega
  | succ n => rw [digsF, if_neg (by omega), digsF_more n _ _ (by omega) (Nat.le_refl _)]
theorem digs_lim (n : Nat) : Lim (digs n) := by
  induction n using Nat.strongRecOn with
  | _ n ih =>
    rcases Nat.eq_zero_or_pos n with rfl | h
    · exact Lim.nil
    · rw [digs_pos n h]; exact Lim.cons (Nat.mod_lt _ (by decide)) (ih _ (by omega))
theorem nv_trimL (l : List Nat) : nv (trimL l) = nv l := by
  induction l with
  | nil => rfl
  | cons x l ih =>
    unfold trimL
    split
    · rename_i h; rw [h] at ih; split
      · rename_i h0; subst h0; simp [nv, ← ih]
      · simp [nv, ← ih]
    · rename_i h; rw [h] at ih; rw [nv, ih]; rfl
theorem trimL_digs (l : List Nat) (h : Lim l) : trimL l = digs (nv l) := by
  induction l with
  | nil => rfl
  | cons x l ih =>
    have ih := ih h.tail
    have hx := h.head
    unfold trimL
    simp only [nv]
    split
    · rename_i h0
      rw [h0] at ih
      have hz : nv l = 0 := by rw [← nv_trimL, h0]; rfl
      rw [hz]
      split
      · rename_i h1; subst h1; rfl
      · rw [digs_pos _ (by omega), show (x + 4294967296 * 0) / 4294967296 = 0 by omega, digs_zero]; congr 1; omega
    · rename_i y r h0
      have hz : nv l ≠ 0 := by
        intro hz; rw [ih, hz] at h0; cases h0
      rw [digs_pos _ (by omega), show (x + 4294967296 * nv l) / 4294967296 = nv l by omega, ← ih, h0]; congr 1; omega
/-- A canonical list of a value is the list of its digits. -/
theorem eq_digs {l : List Nat} (h : Lim l) (hc : trimL l = l) : l = digs (nv l) := by rw [← trimL_digs l h, hc]
theorem trimL_len (l : List Nat) : (trimL l).length ≤ l.length := by
  induction l with
  | nil => simp [trimL]
  | cons x l ih => unfold trimL; split
                   · split <;> simp
                   · rename_i h; rw [h] at ih; simpa using ih
theorem trimL_snoc_zero (l : List Nat) : trimL (l ++ [0]) = trimL l := by
  induction l with
  | nil => rfl
  | cons x l ih => simp only [List.cons_append, trimL, ih]
theorem trimL_snoc_pos (l : List Nat) (x : Nat) (h : x ≠ 0) : trimL (l ++ [x]) = l ++ [x] := by
  induction l with
  | nil => simp [trimL, h]
  | cons y l ih => simp only [List.cons_append, trimL, ih]; cases l <;> rfl
end Go.Proofs.Ythfpcebcfjlkmab
