/- Contracts of functions of the program, and what they lean on. -/
import Derived.Test.YthfpcebcfjlkmabPL
namespace Go.Proofs.Ythfpcebcfjlkmab
theorem nv_take_succ (l : List Nat) (i : Nat) : nv (l.take (i + 1)) = nv (l.take i) + 4294967296 ^ i * l.getD i 0 := by
  rcases Nat.lt_or_ge i l.length with h | h
  · rw [take_succ' h, nv_append, List.length_take, Nat.min_eq_left (by omega)]; simp [nv]
  · rw [List.take_of_length_le (by omega), List.take_of_length_le (by omega), getD_out h]; simp
theorem nv_take_all {l : List Nat} {i : Nat} (h : l.length ≤ i) : nv (l.take i) = nv l := by rw [List.take_of_length_le h]
theorem Lim.getD {l : List Nat} (h : Lim l) (i : Nat) : l.getD i 0 < 4294967296 := by
  rcases Nat.lt_or_ge i l.length with h1 | h1
  · simp only [List.getD_eq_getElem?_getD, List.getElem?_eq_getElem h1, Option.getD_some]; exact h _ (List.getElem_mem h1)
  · rw [getD_out h1]; decide
theorem Lim.append {a b : List Nat} (ha : Lim a) (hb : Lim b) : Lim (a ++ b) := fun x hx => by
  rcases List.mem_append.1 hx with h | h
  · exact ha x h
  · exact hb x h
theorem Lim.one {x : Nat} (h : x < 4294967296) : Lim [x] := Lim.cons h Lim.nil
theorem Lim.take {l : List Nat} (h : Lim l) (k : Nat) : Lim (l.take k) := fun x hx => h x (List.mem_of_mem_take hx)
theorem Lim.drop {l : List Nat} (h : Lim l) (k : Nat) : Lim (l.drop k) := fun x hx => h x (List.mem_of_mem_drop hx)
theorem Lim.set {l : List Nat} (h : Lim l) (k : Nat) {x : Nat} (hx : x < 4294967296) : Lim (l.set k x) := fun y hy => by
  rcases List.mem_or_eq_of_mem_set hy with h1 | h1
  · exact h y h1
  · subst h1; exact hx
theorem Lim.zeros (n : Nat) : Lim (List.replicate n 0) := fun x hx => by rw [(List.mem_replicate.1 hx).2]; decide
theorem Lim.trim {l : List Nat} (h : Lim l) : Lim (trimL l) := by rw [trimL_take]; exact h.take _
theorem add_step {P c x y u v s : Nat} {ys : List Nat} (hl : 4294967296 ^ ys.length = P) (h : nv ys + P * c = u + v) (hs : s = x + y + c) :
    nv (ys ++ [s % 4294967296]) + P * 4294967296 * (s / 4294967296) = (u + P * x) + (v + P * y) := by
  rw [nv_append, hl]
  simp only [nv, Nat.mul_zero, Nat.add_zero]
  have h1 : P * (s % 4294967296) + P * 4294967296 * (s / 4294967296) = P * s := by
    rw [Nat.mul_assoc, ← Nat.mul_add, Nat.mod_add_div]
  have h2 : P * s = P * x + P * y + P * c := by rw [hs, Nat.mul_add, Nat.mul_add]
  omega
theorem sub_step {P c x y u v s : Nat} {ys : List Nat} (hl : 4294967296 ^ ys.length = P) (h : nv ys + v = u + P * c) (hc : c ≤ 1) (hy : y < 4294967296) (hs : s = x + 4294967296 - y - c) (hx : x < 4294967296) :
    nv (ys ++ [s % 4294967296]) + (v + P * y) = (u + P * x) + P * 4294967296 * (1 - s / 4294967296) ∧ 1 - s / 4294967296 ≤ 1 := by
  refine ⟨?_, by omega⟩
  rw [nv_append, hl]
  simp only [nv, Nat.mul_zero, Nat.add_zero]
  have h1 : s % 4294967296 + y + c = x + 4294967296 * (1 - s / 4294967296) := by omega
  have h2 : P * (s % 4294967296) + P * y + P * c = P * x + P * 4294967296 * (1 - s / 4294967296) := by
    rw [Nat.mul_assoc, ← Nat.mul_add, ← Nat.mul_add, ← Nat.mul_add, h1]
  omega
/-- The comparison of two numbers, as Go gives it. -/
def cmpI (a b : Nat) : Int := if a < b then -1 else if b < a then 1 else 0
theorem cmpI_lt {a b : Nat} (h : a < b) : cmpI a b = -1 := by simp [cmpI, h]
theorem cmpI_gt {a b : Nat} (h : b < a) : cmpI a b = 1 := by simp [cmpI, h, show ¬ a < b by omega]
theorem cmpI_eq {a b : Nat} (h : a = b) : cmpI a b = 0 := by simp [cmpI, h]
theorem nv_split (l : List Nat) (i : Nat) : nv l = nv (l.take i) + 4294967296 ^ i * nv (l.drop i) := by
  rcases Nat.le_total i l.length with h | h
  · have := nv_append (l.take i) (l.drop i)
    rw [List.take_append_drop, List.length_take, Nat.min_eq_left h] at this; exact this
  · rw [List.take_of_length_le h, List.drop_of_length_le h]; simp [nv]
theorem nv_drop (l : List Nat) (i : Nat) : nv (l.drop i) = l.getD i 0 + 4294967296 * nv (l.drop (i + 1)) := by
  rcases Nat.lt_or_ge i l.length with h | h
  · rw [List.drop_eq_getElem_cons h]; simp [nv, h]
  · rw [List.drop_of_length_le h, List.drop_of_length_le (by omega), getD_out h]; rfl
/-- The limbs from i on agree. -/
theorem nv_lt_at {a b : List Nat} {i : Nat} (ha : Lim a) (hd : nv (a.drop (i + 1)) = nv (b.drop (i + 1))) (h : a.getD i 0 < b.getD i 0) : nv a < nv b := by
  rw [nv_split a i, nv_split b i, nv_drop a i, nv_drop b i, hd]
  have h1 := nv_lt (ha.take i)
  have h2 : 4294967296 ^ (a.take i).length ≤ 4294967296 ^ i := Nat.pow_le_pow_right (by decide) (List.length_take_le ..)
  have h3 : 4294967296 ^ i * (a.getD i 0 + 4294967296 * nv (b.drop (i + 1))) + 4294967296 ^ i ≤ 4294967296 ^ i * (b.getD i 0 + 4294967296 * nv (b.drop (i + 1))) := by
    rw [← Nat.mul_succ]; exact Nat.mul_le_mul_left _ (by omega)
  omega
theorem drop_step {a b : List Nat} {i : Nat} (hd : nv (a.drop (i + 1)) = nv (b.drop (i + 1))) (h : a.getD i 0 = b.getD i 0) : nv (a.drop i) = nv (b.drop i) := by
  rw [nv_drop a i, nv_drop b i, hd, h]
theorem sigL_lt {a b : List Nat} (ha : Lim a) (h : sigL a < sigL b) : nv a < nv b := by
  have h0 := nv_lt ha.trim
  rw [nv_trimL] at h0
  have h1 : 4294967296 ^ (trimL a).length ≤ 4294967296 ^ (sigL b - 1) := Nat.pow_le_pow_right (by decide) (by unfold sigL at *; omega)
  have h2 := nv_split b (sigL b - 1)
  have h3 := nv_drop b (sigL b - 1)
  have h4 := sigL_last (l := b) (by omega)
  have h5 : 4294967296 ^ (sigL b - 1) * 1 ≤ 4294967296 ^ (sigL b - 1) * nv (b.drop (sigL b - 1)) := Nat.mul_le_mul_left _ (by omega)
  omega
theorem nv_drop_sig (l : List Nat) {i : Nat} (h : sigL l ≤ i) : nv (l.drop i) = 0 := by
  induction hn : l.length - i generalizing i with
  | zero => rw [List.drop_of_length_le (by omega)]; rfl
  | succ n ih => rw [nv_drop, sigL_zero h, ih (by omega) (by omega)]
theorem digs_trim {l : List Nat} (h : Lim l) : trimL l = digs (nv l) := trimL_digs l h
end Go.Proofs.Ythfpcebcfjlkmab
