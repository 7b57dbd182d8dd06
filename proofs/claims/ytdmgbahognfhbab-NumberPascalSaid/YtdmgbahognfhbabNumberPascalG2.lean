/- Contracts of functions of the program, and what they lean on: Nx, Draw2, Draw3, N1, N2. -/
import Derived.Test.YtdmgbahognfhbabNumberPascalG1
set_option linter.unusedSimpArgs false
set_option linter.unusedVariables false
namespace Go.Proofs.Ytdmgbahognfhbab
open Go.RowKit
/-! ### prime powers -/
theorem fac_exists : ∀ n : Nat, 0 < n → ∃ L, IsFac n L := by
  intro n
  induction n using Nat.strongRecOn with
  | _ n ih =>
    intro h0
    rcases Nat.lt_or_ge n 2 with h | h
    · have : n = 1 := by omega
      subst this; exact ⟨[], .one⟩
    · obtain ⟨p, hp⟩ := lf_exists h
      have key : ∀ k m, n = m * p ^ k → 0 < k → m ≤ n → ∃ m' e, n = m' * p ^ e ∧ m' % p ≠ 0 ∧ 0 < e := by
        intro k m
        induction m using Nat.strongRecOn generalizing k with
        | _ m ih2 =>
          intro hm hk hle
          by_cases hd : m % p = 0
          · obtain ⟨q, hq⟩ := Nat.dvd_of_mod_eq_zero hd
            have hq0 : 0 < q := by
              rcases Nat.eq_zero_or_pos q with h1 | h1
              · subst h1; rw [hq] at hm; simp at hm; omega
              · exact h1
            have hp2 := hp.two
            have hlt : q < m := by rw [hq]; exact (Nat.lt_mul_iff_one_lt_left hq0).2 (by omega)
            exact ih2 q hlt (k + 1) (by rw [hm, hq, Nat.pow_succ, Nat.mul_comm p q, Nat.mul_assoc, Nat.mul_comm p]) (by omega) (by omega)
          · exact ⟨m, k, hm, hd, hk⟩
      obtain ⟨q, hq⟩ := Nat.dvd_of_mod_eq_zero hp.dvd
      have hq0 : 0 < q := by
        rcases Nat.eq_zero_or_pos q with h1 | h1
        · subst h1; simp at hq; omega
        · exact h1
      obtain ⟨m', e, h1, h2, h3⟩ := key 1 q (by rw [Nat.pow_one, hq, Nat.mul_comm]) (by decide) (by rw [hq]; exact Nat.le_mul_of_pos_left _ (by have := hp.two; omega))
      have hm0 : 0 < m' := by
        rcases Nat.eq_zero_or_pos m' with h4 | h4
        · subst h4; simp at h1; omega
        · exact h4
      have := strip_lt hp h1 h3 hm0
      obtain ⟨L, hL⟩ := ih m' (by omega) hm0
      exact ⟨(p, e) :: L, .step hp h1 h2 h3 hL⟩
theorem IsFac.inv {n p e : Nat} {L : List (Nat × Nat)} (h : IsFac n ((p, e) :: L)) : ∃ m, IsLf n p ∧ n = m * p ^ e ∧ m % p ≠ 0 ∧ 0 < e ∧ IsFac m L := by
  cases h with
  | step hl hn hm he h2 => exact ⟨_, hl, hn, hm, he, h2⟩
theorem IsFac.cons_of {n : Nat} {L : List (Nat × Nat)} (h : IsFac n L) (hn : 1 < n) : ∃ p e L', L = (p, e) :: L' := by
  cases h with
  | one => omega
  | step hl hn hm he h2 => exact ⟨_, _, _, rfl⟩
theorem pw_down {m p e j : Nat} (hp : 2 ≤ p) (hj : j < e) : (m * p ^ (e - j)) % p = 0 ∧ m * p ^ (e - j) / p = m * p ^ (e - (j + 1)) := by
  obtain ⟨k, hk⟩ : ∃ k, e - j = k + 1 := ⟨e - j - 1, by omega⟩
  rw [hk, show e - (j + 1) = k by omega, Nat.pow_succ, ← Nat.mul_assoc]
  exact ⟨Nat.mul_mod_left _ _, Nat.mul_div_cancel _ (by omega)⟩
theorem IsFac.exp_lt {n p e : Nat} {L : List (Nat × Nat)} (h : IsFac n ((p, e) :: L)) : 2 ^ e ≤ n := by
  obtain ⟨m, hl, hn, hm, he, h2⟩ := h.inv
  have h3 := h2.pos
  have h4 : 2 ^ e ≤ p ^ e := Nat.pow_le_pow_left hl.two e
  rw [hn]
  exact Nat.le_trans h4 (Nat.le_mul_of_pos_left _ h3)
theorem IsFac.len_lt {n : Nat} {L : List (Nat × Nat)} (h : IsFac n L) (hn : n < 2147483648) : L.length < 31 := by
  have h1 := h.two_pow
  rcases Nat.lt_or_ge L.length 31 with h2 | h2
  · exact h2
  · have := Nat.pow_le_pow_right (show 0 < 2 by decide) h2
    omega
theorem IsFac.bd {n : Nat} {L : List (Nat × Nat)} (h : IsFac n L) (hn : n < 2147483648) : ∀ pe ∈ L, 2 ≤ pe.1 ∧ pe.1 ≤ n ∧ 0 < pe.2 ∧ pe.2 < 31 := by
  induction h with
  | one => intro _ h; cases h
  | step hl hn' hm he h2 ih =>
    rename_i n p e m L
    have hm0 := h2.pos
    have hlt := strip_lt hl hn' he hm0
    intro pe hpe
    rcases List.mem_cons.1 hpe with rfl | h3
    · have h1 := (IsFac.step hl hn' hm he h2).exp_lt
      refine ⟨hl.two, hl.le (by omega), he, ?_⟩
      show e < 31
      rcases Nat.lt_or_ge e 31 with h2 | h2
      · exact h2
      · have := Nat.pow_le_pow_right (show 0 < 2 by decide) h2
        omega
    · have := ih (by omega) pe h3; omega
/-! ### the wheel -/
theorem not_dvd_of {n e q : Nat} (hn : n % q ≠ 0) (he : e % q = 0) : n % e ≠ 0 := fun h => hn (Nat.mod_eq_zero_of_dvd (Nat.dvd_trans (Nat.dvd_of_mod_eq_zero he) (Nat.dvd_of_mod_eq_zero h)))
def NoDiv (n k : Nat) : Prop := ∀ e, e < k → 2 ≤ e → n % e ≠ 0
theorem NoDiv.next {n k k' : Nat} (h2 : n % 2 ≠ 0) (h3 : n % 3 ≠ 0) (h5 : n % 5 ≠ 0) (h : NoDiv n k) (hk : n % k ≠ 0) (hg : ∀ e, k < e → e < k' → e % 2 = 0 ∨ e % 3 = 0 ∨ e % 5 = 0) : NoDiv n k' := by
  intro e he h4
  rcases Nat.lt_trichotomy e k with h1 | h1 | h1
  · exact h e h1 h4
  · rw [h1]; exact hk
  · rcases hg e h1 he with h6 | h6 | h6
    · exact not_dvd_of h2 h6
    · exact not_dvd_of h3 h6
    · exact not_dvd_of h5 h6
theorem NoDiv.seven {n : Nat} (h2 : n % 2 ≠ 0) (h3 : n % 3 ≠ 0) (h5 : n % 5 ≠ 0) : NoDiv n 7 := by
  intro e he h4
  have : e = 2 ∨ e = 3 ∨ e = 4 ∨ e = 5 ∨ e = 6 := by omega
  rcases this with rfl | rfl | rfl | rfl | rfl
  · exact h2
  · exact h3
  · exact not_dvd_of h2 (by decide)
  · exact h5
  · exact not_dvd_of h2 (by decide)
theorem lf_two {n : Nat} (h : n % 2 = 0) : IsLf n 2 := ⟨by decide, h, fun e he _ => he⟩
theorem lf_three {n : Nat} (h2 : n % 2 ≠ 0) (h : n % 3 = 0) : IsLf n 3 := ⟨by decide, h, fun e he hm => by
  rcases Nat.lt_or_ge e 3 with h1 | h1
  · have : e = 2 := by omega
    subst this; exact absurd hm h2
  · exact h1⟩
theorem lf_five {n : Nat} (h2 : n % 2 ≠ 0) (h3 : n % 3 ≠ 0) (h : n % 5 = 0) : IsLf n 5 := ⟨by decide, h, fun e he hm => by
  rcases Nat.lt_or_ge e 5 with h1 | h1
  · have : e = 2 ∨ e = 3 ∨ e = 4 := by omega
    rcases this with rfl | rfl | rfl
    · exact absurd hm h2
    · exact absurd hm h3
    · exact absurd hm (not_dvd_of h2 (by decide))
  · exact h1⟩
theorem NoDiv.lf {n k : Nat} (h : NoDiv n k) (hk : 2 ≤ k) (hd : n % k = 0) : IsLf n k := .of_lt hk hd h
theorem NoDiv.self {n k : Nat} (h : NoDiv n k) (hn : 2 ≤ n) (hk : n < k * k) : IsLf n n := .self_of_root hn hk fun e h1 h2 h3 => absurd h3 (h e h1 h2)
/-! ### products with a bound -/
def prS (M n : Nat) : Nat × Nat := if n ≤ M then (n, 0) else (0, 8)
theorem prS_ok {M n : Nat} (h : n ≤ M) : prS M n = (n, 0) := if_pos h
theorem prS_big {M n : Nat} (h : M < n) : prS M n = (0, 8) := if_neg (by omega)
theorem prS_2 {M n : Nat} : (prS M n).2 = 0 ↔ n ≤ M := by
  unfold prS; split
  · simp; assumption
  · simp; omega
theorem prS_le (M n : Nat) : (prS M n).1 ≤ M ∧ (prS M n).2 ≤ 8 := by
  unfold prS; split
  · exact ⟨by assumption, Nat.zero_le 8⟩
  · exact ⟨Nat.zero_le _, Nat.le_refl 8⟩
theorem gt_div {a b M : Nat} (hb : 0 < b) : M / b < a ↔ M < a * b := Nat.div_lt_iff_lt_mul hb
def prodI (l : List Int) : Nat := (l.map Int.toNat).foldr (· * ·) 1
theorem prodI_cons (x : Int) (l : List Int) : prodI (x :: l) = x.toNat * prodI l := rfl
theorem prodI_append : ∀ a b : List Int, prodI (a ++ b) = prodI a * prodI b
  | [], b => by simp [prodI]
  | x :: a, b => by rw [List.cons_append, prodI_cons, prodI_append a b, prodI_cons, Nat.mul_assoc]
theorem prodI_take {l : List Int} {i : Nat} (h : i < l.length) : prodI (l.take (i + 1)) = prodI (l.take i) * (l.getD i 0).toNat := by
  rw [List.take_succ_eq_append_getElem h, prodI_append]
  simp [prodI, List.getD_eq_getElem?_getD, List.getElem?_eq_getElem h]
theorem prodI_pos : ∀ {l : List Int}, (∀ x ∈ l, 0 < x) → 0 < prodI l
  | [], _ => by decide
  | x :: l, h => by
    rw [prodI_cons]
    have := h x List.mem_cons_self
    exact Nat.mul_pos (by omega) (prodI_pos fun y hy => h y (List.mem_cons_of_mem _ hy))
theorem prodI_mono {l : List Int} (h : ∀ x ∈ l, 0 < x) (i : Nat) : prodI (l.take i) ≤ prodI l := by
  conv => rhs; rw [← List.take_append_drop i l, prodI_append]
  exact Nat.le_mul_of_pos_right _ (prodI_pos fun x hx => h x (List.mem_of_mem_drop hx))
def prodS (most : Int) (l : List Int) : Nat × Nat := if most < 0 ∨ ∃ x ∈ l, x < 0 then (0, 6) else if 0 ∈ l then (0, 0) else prS most.toNat (prodI l)
theorem prodS_most {most : Int} {l : List Int} (h : most < 0) : prodS most l = (0, 6) := if_pos (.inl h)
theorem prodS_neg {most : Int} {l : List Int} {x : Int} (h : x ∈ l) (hx : x < 0) : prodS most l = (0, 6) := if_pos (.inr ⟨x, h, hx⟩)
theorem prodS_zero {most : Int} {l : List Int} (hm : 0 ≤ most) (h : ∀ x ∈ l, 0 ≤ x) (h0 : 0 ∈ l) : prodS most l = (0, 0) := by
  unfold prodS
  rw [if_neg (by rintro (h1 | ⟨x, h1, h2⟩); omega; have := h x h1; omega), if_pos h0]
theorem prodS_pos {most : Int} {l : List Int} (hm : 0 ≤ most) (h : ∀ x ∈ l, 0 < x) : prodS most l = prS most.toNat (prodI l) := by
  unfold prodS
  rw [if_neg (by rintro (h1 | ⟨x, h1, h2⟩); omega; have := h x h1; omega), if_neg (fun h0 => by have := h 0 h0; omega)]
/-! ### powers with a bound -/
def expS (q k most : Int) : Nat × Nat := if q < 0 ∨ k < 0 ∨ most < 0 then (0, 6) else if q = 0 ∧ 0 < k then (0, 0) else prS most.toNat (q.toNat ^ k.toNat)
theorem expS_neg {q k most : Int} (h : q < 0 ∨ k < 0 ∨ most < 0) : expS q k most = (0, 6) := if_pos h
theorem expS_zero {q k most : Int} (h : 0 ≤ q ∧ 0 ≤ k ∧ 0 ≤ most) (h0 : q = 0 ∧ 0 < k) : expS q k most = (0, 0) := by
  unfold expS; rw [if_neg (by omega), if_pos h0]
theorem expS_pos {q k most : Nat} (h0 : q = 0 → k = 0) : expS q k most = prS most (q ^ k) := by
  unfold expS; rw [if_neg (by omega), if_neg (by omega)]; simp
/-! ### binomial coefficients with a bound -/
def chooseS (n k most : Int) : Nat × Nat := if n < 0 ∨ k < 0 ∨ most < 0 then (0, 6) else if n < k then (0, 0) else prS most.toNat (choose n.toNat k.toNat)
theorem chooseS_neg {q k most : Int} (h : q < 0 ∨ k < 0 ∨ most < 0) : chooseS q k most = (0, 6) := if_pos h
theorem chooseS_zero {n k most : Int} (h : 0 ≤ n ∧ 0 ≤ k ∧ 0 ≤ most) (h0 : n < k) : chooseS n k most = (0, 0) := by
  unfold chooseS; rw [if_neg (by omega), if_pos h0]
theorem chooseS_pos {n k most : Nat} (h : k ≤ n) : chooseS n k most = prS most (choose n k) := by
  unfold chooseS; rw [if_neg (by omega), if_neg (by omega)]; simp
theorem choose_min {n k : Nat} (h : k ≤ n) : choose n (min k (n - k)) = choose n k := by
  rcases Nat.le_total k (n - k) with h1 | h1
  · rw [Nat.min_eq_left h1]
  · rw [Nat.min_eq_right h1, choose_symm h]
theorem choose_step (m i : Nat) : choose (m + i + 1) (i + 1) * (i + 1) = choose (m + i) i * (m + i + 1) := by
  have := choose_absorb (m + i) i
  rw [← this, Nat.mul_comm]
theorem choose_up (m i : Nat) : choose (m + i) i ≤ choose (m + i + 1) (i + 1) := by
  rw [choose_succ]; omega
theorem choose_mono (m : Nat) {i k : Nat} (h : i ≤ k) : choose (m + i) i ≤ choose (m + k) k := by
  obtain ⟨d, rfl⟩ := Nat.exists_eq_add_of_le h
  clear h
  induction d with
  | zero => exact Nat.le_refl _
  | succ d ih => exact Nat.le_trans ih (choose_up m (i + d))
/-- The fraction is reduced ahead of the product. -/
theorem choose_red {c i s r : Nat} (hi : 0 < i) (hc : 0 < c) (h : r * i = c * s) : i / Nat.gcd c i ∣ s ∧ 0 < i / Nat.gcd c i ∧ c / Nat.gcd c i * (s / (i / Nat.gcd c i)) = r := by
  have hg : 0 < Nat.gcd c i := Nat.gcd_pos_of_pos_right _ hi
  obtain ⟨c1, hc1⟩ := Nat.gcd_dvd_left c i
  obtain ⟨i1, hi1⟩ := Nat.gcd_dvd_right c i
  have hcop : Nat.gcd c1 i1 = 1 := by
    have h2 := Nat.gcd_mul_left (Nat.gcd c i) c1 i1
    rw [← hc1, ← hi1] at h2
    have h3 : Nat.gcd c i * Nat.gcd c1 i1 = Nat.gcd c i * 1 := by omega
    exact Nat.eq_of_mul_eq_mul_left hg h3
  generalize Nat.gcd c i = g at *
  subst hc1; subst hi1
  rw [Nat.mul_div_cancel_left _ hg, Nat.mul_div_cancel_left _ hg]
  have hi10 : 0 < i1 := Nat.pos_of_mul_pos_left hi
  have h4 : r * i1 = c1 * s := by
    have h5 : g * (r * i1) = g * (c1 * s) := by rw [← Nat.mul_assoc, Nat.mul_comm g r, Nat.mul_assoc, h, Nat.mul_assoc]
    exact Nat.eq_of_mul_eq_mul_left hg h5
  have hd : i1 ∣ s := Nat.Coprime.dvd_of_dvd_mul_left (k := i1) (n := s) (m := c1) (by rw [Nat.Coprime, Nat.gcd_comm]; exact hcop) ⟨r, by rw [← h4, Nat.mul_comm]⟩
  refine ⟨hd, hi10, ?_⟩
  obtain ⟨t, rfl⟩ := hd
  rw [Nat.mul_div_cancel_left _ hi10]
  have h6 : i1 * (c1 * t) = i1 * r := by rw [Nat.mul_comm i1 r, h4, ← Nat.mul_assoc, ← Nat.mul_assoc, Nat.mul_comm i1 c1]
  exact Nat.eq_of_mul_eq_mul_left hi10 h6
/-! ### Euler's function, Moebius' function -/
theorem phiL_append : ∀ L M : List (Nat × Nat), phiL (L ++ M) = phiL L * phiL M
  | [], M => by simp [phiL]
  | (p, e) :: L, M => by simp [phiL, phiL_append L M, Nat.mul_assoc]
theorem phi_step {F m p e : Nat} (hp : 2 ≤ p) (he : 0 < e) : F * (m * p ^ e) / p = F * m * p ^ (e - 1) ∧ F * (m * p ^ e) - F * (m * p ^ e) / p = F * (p ^ (e - 1) * (p - 1)) * m ∧ F * (m * p ^ e) / p * (p - 1) = F * (p ^ (e - 1) * (p - 1)) * m := by
  obtain ⟨k, rfl⟩ : ∃ k, e = k + 1 := ⟨e - 1, by omega⟩
  obtain ⟨q, rfl⟩ : ∃ q, p = q + 1 := ⟨p - 1, by omega⟩
  have h1 : F * (m * (q + 1) ^ (k + 1)) = F * m * (q + 1) ^ k * (q + 1) := by rw [Nat.pow_succ]; simp only [Nat.mul_assoc]
  rw [h1, Nat.mul_div_cancel _ (by omega), Nat.add_sub_cancel, Nat.add_sub_cancel]
  have h2 : F * m * (q + 1) ^ k * q = F * ((q + 1) ^ k * q) * m := by
    rw [Nat.mul_assoc F m, Nat.mul_assoc F, Nat.mul_assoc F, Nat.mul_comm m ((q + 1) ^ k), Nat.mul_right_comm]
  refine ⟨rfl, ?_, h2⟩
  rw [← h2, Nat.mul_add, Nat.mul_one, Nat.add_sub_cancel]
def moeL : List (Nat × Nat) → Int
  | [] => 1
  | (_, e) :: L => if 1 < e then 0 else -moeL L
theorem moeL_range : ∀ L, -1 ≤ moeL L ∧ moeL L ≤ 1
  | [] => by decide
  | (_, e) :: L => by
    have := moeL_range L
    unfold moeL; split <;> omega
theorem moeL_split : ∀ (L M : List (Nat × Nat)), (∀ pe ∈ L, pe.2 ≤ 1) → ∃ s : Int, (s = 1 ∨ s = -1) ∧ (∀ M, moeL (L ++ M) = s * moeL M) ∧ s = moeL L
  | [], M, _ => ⟨1, .inl rfl, fun M => by simp, rfl⟩
  | (p, e) :: L, M, h => by
    obtain ⟨s, h1, h2, h3⟩ := moeL_split L M fun pe hpe => h pe (List.mem_cons_of_mem _ hpe)
    have he : ¬ 1 < e := by have := h (p, e) List.mem_cons_self; simp only at this; omega
    refine ⟨-s, by omega, fun M => ?_, ?_⟩
    · rw [List.cons_append, moeL, if_neg he, h2, Int.neg_mul]
    · rw [moeL, if_neg he, ← h3]
theorem moe_take {L : List (Nat × Nat)} {i : Nat} (hi : i < L.length) (h : ∀ j, j < i → (L.getD j (0, 0)).2 ≤ 1) :
    (1 < (L.getD i (0, 0)).2 → moeL L = 0) ∧ (¬ 1 < (L.getD i (0, 0)).2 → moeL (L.take (i + 1)) = -moeL (L.take i)) := by
  have hm : ∀ pe ∈ L.take i, pe.2 ≤ 1 := fun pe hpe => by
    obtain ⟨j, hj, rfl⟩ := List.mem_iff_getElem.1 hpe
    simp only [List.length_take] at hj
    have := h j (by omega)
    rw [List.getElem_take]
    simpa [List.getD_eq_getElem?_getD, List.getElem?_eq_getElem (show j < L.length by omega)] using this
  obtain ⟨s, h1, h2, h3⟩ := moeL_split (L.take i) [] hm
  have hd : L.drop i = L.getD i (0, 0) :: L.drop (i + 1) := by
    rw [List.drop_eq_getElem_cons hi]; simp [List.getD_eq_getElem?_getD, List.getElem?_eq_getElem hi]
  refine ⟨fun hc => ?_, fun hc => ?_⟩
  · have := h2 (L.drop i)
    rw [List.take_append_drop, hd] at this
    rw [this, moeL, if_pos hc]; simp
  · have e : L.take (i + 1) = L.take i ++ [L.getD i (0, 0)] := by
      rw [List.take_succ_eq_append_getElem hi]; simp [List.getD_eq_getElem?_getD, List.getElem?_eq_getElem hi]
    rw [e, h2, ← h3, moeL, if_neg hc]; simp [moeL]
end Go.Proofs.Ytdmgbahognfhbab
namespace Go.Proofs.Ytdmgbahognfhbab
theorem e_range63 {e : Int} {n : Nat} (he : e = 1 ∨ e = -1) (hn : n < 9223372036854775808) : -9223372036854775808 < e * (n : Int) ∧ e * (n : Int) ≤ 9223372036854775807 ∧ -9223372036854775808 < -(e * (n : Int)) ∧ -(e * (n : Int)) ≤ 9223372036854775807 := by
  rcases he with rfl | rfl <;> omega
theorem lkA {e : Int} {k r : Nat} : (k : Int) * (-(e * (r : Nat))) = -(e * ((k * r : Nat) : Int)) := by push_cast; grind
theorem lkB {e : Int} {p k : Nat} : e * (p : Nat) - -(e * ((k : Nat) : Int)) = e * ((p + k : Nat) : Int) := by push_cast; grind
theorem pow_even {r x k n : Nat} (h : k % 2 = 0) : r * (x * x % n) ^ (k / 2) % n = r * x ^ k % n := by
  have e : x ^ k = (x * x) ^ (k / 2) := by rw [← Nat.pow_two, ← Nat.pow_mul]; congr 1; omega
  rw [e, Nat.mul_mod, Nat.pow_mod, Nat.mod_mod, ← Nat.pow_mod, ← Nat.mul_mod]
theorem pow_odd {r x k n : Nat} (h : k % 2 = 1) : r * x % n * (x * x % n) ^ (k / 2) % n = r * x ^ k % n := by
  have e : x ^ k = x * (x * x) ^ (k / 2) := by
    rw [← Nat.pow_two, ← Nat.pow_mul, Nat.mul_comm, ← Nat.pow_succ]; congr 1; omega
  rw [e, ← Nat.mul_assoc, Nat.mul_mod, Nat.mod_mod, Nat.pow_mod, Nat.mod_mod, ← Nat.pow_mod, ← Nat.mul_mod]
end Go.Proofs.Ytdmgbahognfhbab
namespace Go.Proofs.Ytdmgbahognfhbab
theorem IsFac.nil_of {n : Nat} {L : List (Nat × Nat)} (h : IsFac n L) (hn : n < 2) : L = [] := by
  cases h with
  | one => rfl
  | step hl hn' hm he h2 => have := hl.le (by have := h2.pos; subst hn'; exact Nat.mul_pos this (Nat.pow_pos (by have := hl.two; omega))); have := hl.two; omega
theorem IsFac.inv' {n : Nat} {pe : Nat × Nat} {L : List (Nat × Nat)} (h : IsFac n (pe :: L)) : ∃ m, IsLf n pe.1 ∧ n = m * pe.1 ^ pe.2 ∧ m % pe.1 ≠ 0 ∧ 0 < pe.2 ∧ IsFac m L := h.inv
theorem pdrop {L : List (Nat × Nat)} {i : Nat} (h : i < L.length) : L.drop i = L.getD i (0, 0) :: L.drop (i + 1) := by
  rw [List.drop_eq_getElem_cons h]; simp [List.getD_eq_getElem?_getD, List.getElem?_eq_getElem h]
theorem ptake {L : List (Nat × Nat)} {i : Nat} (h : i < L.length) : L.take (i + 1) = L.take i ++ [L.getD i (0, 0)] := by
  rw [List.take_succ_eq_append_getElem h]; simp [List.getD_eq_getElem?_getD, List.getElem?_eq_getElem h]
theorem phi_take {L : List (Nat × Nat)} {i : Nat} (h : i < L.length) : phiL (L.take (i + 1)) = phiL (L.take i) * ((L.getD i (0, 0)).1 ^ ((L.getD i (0, 0)).2 - 1) * ((L.getD i (0, 0)).1 - 1)) := by
  rw [ptake h, phiL_append]; simp [phiL]
theorem sq_le {a n : Nat} (h : a * a ≤ n) (hn : n < 2147483648) : a ≤ 46340 := by
  rcases Nat.lt_or_ge a 46341 with h1 | h1
  · omega
  · have := Nat.mul_le_mul h1 h1; omega
def wa (m : Nat) : Nat := [7, 11, 13, 17, 19, 23, 29, 31, 37].getD m 0
def ppS : List (Nat × Nat) → Nat × Nat × Nat
  | [(p, e)] => (p, e, 0)
  | _ => (0, 0, 11)
theorem ppS_ne : ∀ {L : List (Nat × Nat)}, L.length ≠ 1 → ppS L = (0, 0, 11)
  | [], _ => rfl
  | [_], h => absurd rfl h
  | _ :: _ :: _, _ => rfl
theorem ppS_one : ∀ {L : List (Nat × Nat)}, L.length = 1 → ppS L = ((L.getD 0 (0, 0)).1, (L.getD 0 (0, 0)).2, 0)
  | [(p, e)], _ => rfl
  | [], h => by simp at h
  | _ :: _ :: _, h => by simp at h
/-- A prime in the range. -/
def IsPr (X : Int) : Prop := 2 ≤ X ∧ X ≤ 2147483647 ∧ IsLf X.toNat X.toNat
end Go.Proofs.Ytdmgbahognfhbab
namespace Go.Proofs.Ytdmgbahognfhbab
/-! ### what the functions answer -/
def gcdS (a b : Int) : Nat × Nat := if (-2147483647 ≤ a ∧ a ≤ 2147483647) ∧ (-2147483647 ≤ b ∧ b ≤ 2147483647) then (Nat.gcd a.natAbs b.natAbs, 0) else (0, 6)
inductive BezR (a b : Int) : Nat → Int → Int → Nat → Prop
  | out : ¬ ((-2147483647 ≤ a ∧ a ≤ 2147483647) ∧ (-2147483647 ≤ b ∧ b ≤ 2147483647)) → BezR a b 0 0 0 6
  | zero : (-2147483647 ≤ a ∧ a ≤ 2147483647) → b = 0 → BezR a b a.natAbs (sgI a) 0 0
  | ok {g : Nat} {x y : Int} : (-2147483647 ≤ a ∧ a ≤ 2147483647) → (-2147483647 ≤ b ∧ b ≤ 2147483647) → b ≠ 0 → Bez a b g x y → BezR a b g x y 0
inductive InvR (a n : Int) : Nat → Nat → Prop
  | out : ¬ (1 ≤ n ∧ n ≤ 2147483647) → InvR a n 0 6
  | none : (1 ≤ n ∧ n ≤ 2147483647) → Nat.gcd a.natAbs n.toNat ≠ 1 → InvR a n 0 11
  | ok {x : Nat} : (1 ≤ n ∧ n ≤ 2147483647) → IsInv a n.toNat x → InvR a n x 0
def powS (a e n : Int) : Nat × Nat := if e < 0 ∨ ¬ (1 ≤ n ∧ n ≤ 2147483647) then (0, 6) else ((a % n).toNat ^ e.toNat % n.toNat, 0)
theorem powS_out {a e n : Int} (h : e < 0 ∨ ¬ (1 ≤ n ∧ n ≤ 2147483647)) : powS a e n = (0, 6) := if_pos h
theorem powS_ok {a e n : Int} (h : ¬ (e < 0 ∨ ¬ (1 ≤ n ∧ n ≤ 2147483647))) : powS a e n = ((a % n).toNat ^ e.toNat % n.toNat, 0) := if_neg h
inductive OrdR (a n : Int) : Nat → Nat → Prop
  | out : ¬ (1 ≤ n ∧ n ≤ 2147483647) → OrdR a n 0 6
  | none : (1 ≤ n ∧ n ≤ 2147483647) → Nat.gcd a.natAbs n.toNat ≠ 1 → OrdR a n 0 11
  | ok {k : Nat} : (1 ≤ n ∧ n ≤ 2147483647) → Nat.gcd a.natAbs n.toNat = 1 → IsOrd (a % n).toNat n.toNat k → OrdR a n k 0
inductive ChiR (rs ms : List Int) : Nat → Nat → Nat → Prop
  | shape : rs.length ≠ ms.length → ChiR rs ms 0 0 10
  | range : rs.length = ms.length → (∃ m ∈ ms, ¬ (1 ≤ m ∧ m ≤ 2147483647)) → ChiR rs ms 0 0 6
  | big : rs.length = ms.length → (∀ m ∈ ms, 1 ≤ m ∧ m ≤ 2147483647) → 2147483647 < prodI ms → ChiR rs ms 0 0 8
  | none : rs.length = ms.length → (∀ m ∈ ms, 1 ≤ m ∧ m ≤ 2147483647) → prodI ms ≤ 2147483647 → Chin rs ms 0 0 1 .none → ChiR rs ms 0 0 11
  | ok {x n : Nat} : rs.length = ms.length → (∀ m ∈ ms, 1 ≤ m ∧ m ≤ 2147483647) → prodI ms ≤ 2147483647 → Chin rs ms 0 0 1 (some (x, n)) → ChiR rs ms x n 0
/-! ### there is an answer -/
theorem bez_exists : ∀ n m : Nat, ∃ Z : Int, (m : Int) ∣ Z * n - (Nat.gcd n m : Nat) := fun n m => by
  have key : ∀ n m : Nat, ∃ x y : Int, x * n + y * m = (Nat.gcd n m : Nat) := by
    intro n m
    induction n, m using Nat.gcd.induction with
    | H0 m => exact ⟨0, 1, by simp⟩
    | H1 n m h0 ih =>
      obtain ⟨x, y, h⟩ := ih
      rw [Nat.gcd_rec]
      refine ⟨y - x * (m / n : Nat), x, ?_⟩
      rw [← h]
      have h2 : (m : Int) = n * (m / n : Nat) + (m % n : Nat) := by exact_mod_cast (Nat.div_add_mod m n).symm
      conv => lhs; rw [h2]
      generalize ((m / n : Nat) : Int) = q
      generalize ((m % n : Nat) : Int) = r
      grind
  obtain ⟨x, y, h⟩ := key n m
  exact ⟨x, -y, by rw [Int.mul_neg, Int.mul_comm (m : Int) y]; omega⟩
theorem inv_exists {a : Int} {n : Nat} (hn : 0 < n) (h : Nat.gcd a.natAbs n = 1) : ∃ x, IsInv a n x := by
  obtain ⟨Z, hZ⟩ := bez_exists (a % n).toNat n
  rw [gcd_emod a hn, h] at hZ
  have h0 := Int.emod_nonneg a (show (n : Int) ≠ 0 by omega)
  rw [Int.toNat_of_nonneg h0] at hZ
  exact ⟨_, (IsInv.mk' hn (by simpa using hZ)).emod⟩
theorem InvR.ex (a n : Int) : ∃ x e, InvR a n x e := by
  by_cases h : 1 ≤ n ∧ n ≤ 2147483647
  · by_cases hg : Nat.gcd a.natAbs n.toNat = 1
    · obtain ⟨x, hx⟩ := inv_exists (n := n.toNat) (by omega) hg
      exact ⟨_, _, .ok h hx⟩
    · exact ⟨_, _, .none h hg⟩
  · exact ⟨_, _, .out h⟩
theorem bezout_exists {a b : Int} (hb : b ≠ 0) : ∃ g x y, Bez a b g x y := by
  obtain ⟨g, hg⟩ : ∃ g, g = Nat.gcd a.natAbs b.natAbs := ⟨_, rfl⟩
  have hgp : 0 < g := by rw [hg]; exact Nat.gcd_pos_of_pos_right _ (by omega)
  obtain ⟨a1, ha⟩ : (g : Int) ∣ a := by rw [hg]; exact Int.ofNat_dvd_left.2 (Nat.gcd_dvd_left _ _)
  obtain ⟨b1, hb1⟩ : (g : Int) ∣ b := by rw [hg]; exact Int.ofNat_dvd_left.2 (Nat.gcd_dvd_right _ _)
  have hc : Nat.gcd a1.natAbs b1.natAbs = 1 := by
    have h2 := hg
    rw [ha, hb1, Int.natAbs_mul, Int.natAbs_mul, Int.natAbs_natCast, Nat.gcd_mul_left] at h2
    have h3 : g * Nat.gcd a1.natAbs b1.natAbs = g * 1 := by omega
    exact Nat.eq_of_mul_eq_mul_left hgp h3
  have hB : b.natAbs / g = b1.natAbs := by rw [hb1, Int.natAbs_mul, Int.natAbs_natCast]; exact Nat.mul_div_cancel_left _ hgp
  have hb10 : 0 < b1.natAbs := by
    rcases Nat.eq_zero_or_pos b1.natAbs with h | h
    · have : b1 = 0 := by omega
      rw [this, Int.mul_zero] at hb1; omega
    · exact h
  obtain ⟨x, hx⟩ := inv_exists hb10 hc
  refine ⟨g, x, _, Bez.of hb hg (by omega) (by rw [hB]; have := hx.lt; omega) ?_⟩
  obtain ⟨k, hk⟩ := hx.dvd
  refine ⟨k, ?_⟩
  have h4 : (b.natAbs : Int) = g * b1.natAbs := by rw [hb1, Int.natAbs_mul, Int.natAbs_natCast]; push_cast; rfl
  rw [h4, Int.mul_assoc, ← hk, ha, Int.mul_sub, Int.mul_one, Int.mul_comm a1, ← Int.mul_assoc, ← Int.mul_assoc, Int.mul_comm (x : Int)]
theorem BezR.ex (a b : Int) : ∃ g x y e, BezR a b g x y e := by
  by_cases h : (-2147483647 ≤ a ∧ a ≤ 2147483647) ∧ (-2147483647 ≤ b ∧ b ≤ 2147483647)
  · by_cases hb : b = 0
    · exact ⟨_, _, _, _, .zero h.1 hb⟩
    · obtain ⟨g, x, y, hz⟩ := bezout_exists (a := a) hb
      exact ⟨_, _, _, _, .ok h.1 h.2 hb hz⟩
  · exact ⟨_, _, _, _, .out h⟩
theorem least_exists {p : Nat → Prop} (h : ∃ n, p n) : ∃ n, p n ∧ ∀ m, p m → n ≤ m := by
  obtain ⟨n, hn⟩ := h
  induction n using Nat.strongRecOn with
  | _ n ih =>
    by_cases hc : ∃ m, m < n ∧ p m
    · obtain ⟨m, h1, h2⟩ := hc; exact ih m h1 h2
    · exact ⟨n, hn, fun m hm => by
        rcases Nat.lt_or_ge m n with h1 | h1
        · exact absurd ⟨m, h1, hm⟩ hc
        · exact h1⟩
theorem ord_exists {a n : Nat} (hn : 0 < n) (h : Nat.gcd a n = 1) : ∃ k, IsOrd a n k := by
  obtain ⟨L, hL⟩ := fac_exists n hn
  obtain ⟨k, ⟨h1, h2⟩, h3⟩ := least_exists (p := fun k => 0 < k ∧ One n (a ^ k)) ⟨phiL L, (phiL_pos hL).1, euler hL h⟩
  exact ⟨k, h1, h2, fun j h4 h5 => h3 j ⟨h4, h5⟩⟩
theorem OrdR.ex (a n : Int) : ∃ k e, OrdR a n k e := by
  by_cases h : 1 ≤ n ∧ n ≤ 2147483647
  · by_cases hg : Nat.gcd a.natAbs n.toNat = 1
    · have h0 : 0 < n.toNat := by omega
      have h1 := gcd_emod a h0
      rw [show ((n.toNat : Nat) : Int) = n by omega, hg] at h1
      obtain ⟨k, hk⟩ := ord_exists h0 h1
      exact ⟨_, _, .ok h hg hk⟩
    · exact ⟨_, _, .none h hg⟩
  · exact ⟨_, _, .out h⟩
theorem chin_total {rs ms : List Int} (hp : ∀ m ∈ ms, 1 ≤ m) : ∀ d i x P, ms.length - i = d → ∃ R, Chin rs ms i x P R := by
  intro d
  induction d with
  | zero => intro i x P h; exact ⟨_, .done (by omega)⟩
  | succ d ih =>
    intro i x P h
    have hi : i < ms.length := by omega
    have hm : 1 ≤ ms.getD i 0 := hp _ (by simp [List.getD_eq_getElem?_getD, List.getElem?_eq_getElem hi])
    obtain ⟨m, hm2⟩ : ∃ m : Nat, ms.getD i 0 = m := ⟨(ms.getD i 0).toNat, by omega⟩
    by_cases hg : Nat.gcd P m = 1
    · obtain ⟨y, hy⟩ := inv_exists (a := (P : Int)) (n := m) (by omega) (by simpa using hg)
      obtain ⟨R, hR⟩ := ih (i + 1) (x + P * (((rs.getD i 0 - x) % m).toNat * y % m)) (P * m) (by omega)
      exact ⟨R, .step hi hm2 (by omega) hy hR⟩
    · exact ⟨_, .fail hi (by rw [hm2]; simpa using hg)⟩
theorem ChiR.ex (rs ms : List Int) : ∃ x n e, ChiR rs ms x n e := by
  by_cases hl : rs.length = ms.length
  · by_cases hr : ∀ m ∈ ms, 1 ≤ m ∧ m ≤ 2147483647
    · rcases Nat.lt_or_ge 2147483647 (prodI ms) with hp | hp
      · exact ⟨_, _, _, .big hl hr hp⟩
      · obtain ⟨R, hR⟩ := chin_total (rs := rs) (fun m hm => (hr m hm).1) _ 0 0 1 rfl
        cases R with
        | none => exact ⟨_, _, _, .none hl hr hp hR⟩
        | some q => exact ⟨q.1, q.2, _, .ok hl hr hp hR⟩
    · refine ⟨_, _, _, .range hl ?_⟩
      exact Classical.byContradiction fun h => hr fun m hm => Classical.byContradiction fun h2 => h ⟨m, hm, h2⟩
  · exact ⟨_, _, _, .shape hl⟩
end Go.Proofs.Ytdmgbahognfhbab
namespace Go.Proofs.Ytdmgbahognfhbab
theorem bez_fin2 {X Y x y : Int} {g er : Nat} (hY : Y ≠ 0) (hX : -2147483647 ≤ X ∧ X ≤ 2147483647) (hYr : -2147483647 ≤ Y ∧ Y ≤ 2147483647) (hR : BezR X Y g x y er) :
    g = Nat.gcd X.natAbs Y.natAbs ∧ er = 0 ∧ ((x.toNat : Nat) : Int) = x ∧ (-4611686018427387904 ≤ X * x ∧ X * x ≤ 4611686018427387904) ∧ g ≤ 2147483647 ∧ ((g : Int) - X * x).tdiv Y = y ∧ (-9223372036854775808 ≤ y ∧ y ≤ 9223372036854775807) ∧ Bez X Y g x y := by
  cases hR with
  | out h => exact absurd ⟨hX, hYr⟩ h
  | zero h1 h2 => exact absurd h2 hY
  | ok h1 h2 h3 hz =>
    have hx0 := hz.x0
    have hx1 := hz.x1
    have hle := Nat.div_le_self Y.natAbs g
    have hgle : g ≤ Y.natAbs := by rw [hz.gg]; exact Nat.gcd_le_right _ (by omega)
    have hb : (X * x).natAbs ≤ 2147483647 * 2147483647 := by
      rw [Int.natAbs_mul]; exact Nat.mul_le_mul (by omega) (by omega)
    have he := hz.e
    have hq : (g : Int) - X * x = Y * y := by omega
    have ht : ((g : Int) - X * x).tdiv Y = y := by rw [hq]; exact Int.mul_tdiv_cancel_left y hY
    have hy : y.natAbs ≤ (Y * y).natAbs := by
      rw [Int.natAbs_mul]; exact Nat.le_mul_of_pos_left _ (by omega)
    rw [← hq] at hy
    exact ⟨hz.gg, rfl, by omega, by omega, by omega, ht, by omega, hz⟩
theorem bez_fin {X Y Z x y : Int} {g er : Nat} (hY : Y ≠ 0) (hX : -2147483647 ≤ X ∧ X ≤ 2147483647) (hYr : -2147483647 ≤ Y ∧ Y ≤ 2147483647) (hR : BezR X Y g x y er)
    (hd : (Y.natAbs : Int) ∣ Z * ((X % (Y.natAbs : Int)).toNat : Nat) - (Nat.gcd X.natAbs Y.natAbs : Nat)) : (Z % ((Y.natAbs / Nat.gcd X.natAbs Y.natAbs : Nat) : Int)).toNat = x.toNat := by
  obtain ⟨hg, _, _, _, _, _, _, hz⟩ := bez_fin2 hY hX hYr hR
  have hgp : 0 < Nat.gcd X.natAbs Y.natAbs := Nat.gcd_pos_of_pos_right _ (by omega)
  have hyp : 0 < Y.natAbs / Nat.gcd X.natAbs Y.natAbs := Nat.div_gcd_pos_of_pos_right _ (by omega)
  have h0 := Int.emod_nonneg X (show (Y.natAbs : Int) ≠ 0 by omega)
  rw [Int.toNat_of_nonneg h0] at hd
  obtain ⟨a1, ha⟩ : ((Nat.gcd X.natAbs Y.natAbs : Nat) : Int) ∣ X := Int.ofNat_dvd_left.2 (Nat.gcd_dvd_left _ _)
  have hyg : (Y.natAbs / Nat.gcd X.natAbs Y.natAbs) * Nat.gcd X.natAbs Y.natAbs = Y.natAbs := Nat.div_mul_cancel (Nat.gcd_dvd_right _ _)
  have hz0 := Int.emod_nonneg Z (show ((Y.natAbs / Nat.gcd X.natAbs Y.natAbs : Nat) : Int) ≠ 0 by omega)
  have hz1 := Int.emod_lt_of_pos Z (show 0 < ((Y.natAbs / Nat.gcd X.natAbs Y.natAbs : Nat) : Int) by omega)
  have hB := Bez.of (a := X) (b := Y) (x := Z % ((Y.natAbs / Nat.gcd X.natAbs Y.natAbs : Nat) : Int)) hY rfl hz0 hz1 (by
    have e1 := Int.emod_def Z ((Y.natAbs / Nat.gcd X.natAbs Y.natAbs : Nat) : Int)
    have e2 := Int.emod_def X (Y.natAbs : Int)
    obtain ⟨k, hk⟩ := hd
    rw [e2] at hk
    rw [e1]
    generalize Z / ((Y.natAbs / Nat.gcd X.natAbs Y.natAbs : Nat) : Int) = q at *
    generalize X / (Y.natAbs : Int) = q2 at *
    have e3 : ((Y.natAbs / Nat.gcd X.natAbs Y.natAbs : Nat) : Int) * X = (Y.natAbs : Int) * a1 := by
      have h5 : ((Y.natAbs / Nat.gcd X.natAbs Y.natAbs : Nat) : Int) * X = ((Y.natAbs / Nat.gcd X.natAbs Y.natAbs : Nat) : Int) * (((Nat.gcd X.natAbs Y.natAbs : Nat) : Int) * a1) := congrArg (fun z => ((Y.natAbs / Nat.gcd X.natAbs Y.natAbs : Nat) : Int) * z) ha
      rw [h5, ← Int.mul_assoc]; congr 1; exact_mod_cast hyg
    refine ⟨k + Z * q2 - q * a1, ?_⟩
    have e4 : (Z - ((Y.natAbs / Nat.gcd X.natAbs Y.natAbs : Nat) : Int) * q) * X = Z * X - q * (((Y.natAbs / Nat.gcd X.natAbs Y.natAbs : Nat) : Int) * X) := by grind
    rw [e4, e3]
    grind)
  have := hB.uniq hY hz
  rw [this.2.1]
end Go.Proofs.Ytdmgbahognfhbab
namespace Go.Proofs.Ytdmgbahognfhbab
theorem one_eq {n x : Nat} (hn : 2 ≤ n) : x % n = 1 ↔ One n x := by rw [One.iff, Nat.mod_eq_of_lt (a := 1) hn]
theorem ord_keep {a n o p q : Nat} (hq : 0 < q) (hd : o % q = 0) (h : ¬ (o % p = 0 ∧ One n (a ^ (o / p)))) : ¬ (o / q % p = 0 ∧ One n (a ^ (o / q / p))) := by
  rintro ⟨h1, h2⟩
  obtain ⟨u, hu⟩ := Nat.dvd_of_mod_eq_zero hd
  rw [hu, Nat.mul_div_cancel_left _ hq] at h1 h2
  obtain ⟨t, ht⟩ := Nat.dvd_of_mod_eq_zero h1
  rcases Nat.eq_zero_or_pos p with h0 | h0
  · subst h0
    simp at ht
    subst ht
    refine h ⟨by rw [hu]; simp, ?_⟩
    simp at h2 ⊢; exact h2
  · rw [ht, Nat.mul_div_cancel_left _ h0] at h2
    refine h ⟨by rw [hu, ht]; rw [Nat.mul_left_comm]; exact Nat.mul_mod_right _ _, ?_⟩
    have e : o / p = t * q := by rw [hu, ht, Nat.mul_left_comm, Nat.mul_div_cancel_left _ h0, Nat.mul_comm]
    rw [e, Nat.pow_mul]; exact h2.pow q
theorem of_getD {P : Nat × Nat → Prop} {L : List (Nat × Nat)} (h : ∀ j, j < L.length → P (L.getD j (0, 0))) : ∀ pe ∈ L, P pe := fun pe hpe => by
  obtain ⟨j, hj, rfl⟩ := List.mem_iff_getElem.1 hpe
  have := h j hj
  simpa [List.getD_eq_getElem?_getD, List.getElem?_eq_getElem hj] using this
theorem imem {l : List Int} {j : Nat} (h : j < l.length) : l.getD j 0 ∈ l := by
  simp [List.getD_eq_getElem?_getD, List.getElem?_eq_getElem h]
theorem of_iget {P : Int → Prop} {l : List Int} (h : ∀ j, j < l.length → P (l.getD j 0)) : ∀ x ∈ l, P x := fun x hx => by
  obtain ⟨j, hj, rfl⟩ := List.mem_iff_getElem.1 hx
  have := h j hj
  simpa [List.getD_eq_getElem?_getD, List.getElem?_eq_getElem hj] using this
end Go.Proofs.Ytdmgbahognfhbab
namespace Go.Proofs.Ytdmgbahognfhbab
theorem exp_end {q k m j r K : Nat} (hjr : j + r = K) (hK : q = 1 ∧ K = 0 ∨ q ≠ 1 ∧ K = k ∧ (q = 0 → k = 0)) (h : r = 0 ∨ m < q ^ j) : prS m (q ^ k) = prS m (q ^ j) := by
  rcases hK with ⟨rfl, h2⟩ | ⟨h1, rfl, h3⟩
  · rw [Nat.one_pow, Nat.one_pow]
  · rcases Nat.eq_zero_or_pos r with h4 | h4
    · have : j = K := by omega
      rw [this]
    · have h5 : m < q ^ j := by omega
      have hq : 0 < q := by
        rcases Nat.eq_zero_or_pos q with h6 | h6
        · have := h3 h6; omega
        · exact h6
      have h6 : q ^ j ≤ q ^ K := Nat.pow_le_pow_right hq (by omega)
      rw [prS_big h5, prS_big (by omega)]
end Go.Proofs.Ytdmgbahognfhbab
namespace Go.Proofs.Ytdmgbahognfhbab
theorem Chin.stepI {rs ms : List Int} {i x P m y : Nat} {R : Option (Nat × Nat)} (h : Chin rs ms i x P R) (hi : i < ms.length) (hm : ms.getD i 0 = m) (hv : IsInv P m y) : Chin rs ms (i + 1) (x + P * (((rs.getD i 0 - x) % m).toNat * y % m)) (P * m) R := by
  cases h with
  | done h1 => omega
  | fail h1 hg => rw [hm] at hg; exact absurd (by have := hv.cop; simpa using this) hg
  | step h1 hm' h0 hv' hr =>
    rw [hm] at hm'
    have := Int.ofNat_inj.1 hm'
    subst this
    rw [hv.uniq hv']; exact hr
theorem Chin.failI {rs ms : List Int} {i x P : Nat} {R : Option (Nat × Nat)} (h : Chin rs ms i x P R) (hi : i < ms.length) (hg : Nat.gcd P (ms.getD i 0).natAbs ≠ 1) : R = none := by
  cases h with
  | done h1 => omega
  | fail h1 hg => rfl
  | step h1 hm' h0 hv' hr => rw [hm'] at hg; exact absurd (by have := hv'.cop; simpa using this) hg
theorem Chin.doneI {rs ms : List Int} {i x P : Nat} {R : Option (Nat × Nat)} (h : Chin rs ms i x P R) (hi : ms.length ≤ i) : R = some (x, P) := by
  cases h with
  | done h1 => rfl
  | fail h1 hg => omega
  | step h1 hm' h0 hv' hr => omega
theorem chi_fin {rs ms : List Int} {X P er : Nat} (hR : ChiR rs ms X P er) (hl : rs.length = ms.length) (hr : ∀ m ∈ ms, 1 ≤ m ∧ m ≤ 2147483647) (hp : prodI ms ≤ 2147483647) :
    ∃ R0, Chin rs ms 0 0 1 R0 ∧ ((R0 = none ∧ X = 0 ∧ P = 0 ∧ er = 11) ∨ (R0 = some (X, P) ∧ er = 0)) := by
  cases hR with
  | shape h => exact absurd hl h
  | range h h2 => obtain ⟨m, hm, h3⟩ := h2; exact absurd (hr m hm) h3
  | big h1 h2 h3 => omega
  | none h1 h2 h3 h4 => exact ⟨_, h4, .inl ⟨rfl, rfl, rfl, rfl⟩⟩
  | ok h1 h2 h3 h4 => exact ⟨_, h4, .inr ⟨rfl, rfl⟩⟩
theorem sub_emod_nat {r : Int} {x m : Nat} (hm : 0 < m) : ((((r % (m : Int)).toNat : Nat) : Int) - x) % (m : Int) = (r - x) % (m : Int) := by
  have h0 := Int.emod_nonneg r (show (m : Int) ≠ 0 by omega)
  rw [Int.toNat_of_nonneg h0]
  apply Int.emod_eq_emod_iff_emod_sub_eq_zero.2
  have e := Int.emod_def r (m : Int)
  rw [show r % (m : Int) - x - (r - x) = (m : Int) * (-(r / (m : Int))) by rw [Int.mul_neg]; omega]
  exact Int.mul_emod_right _ _
theorem prodS_max {ms : List Int} (hr : ∀ m ∈ ms, 1 ≤ m ∧ m ≤ 2147483647) : prodS 2147483647 ms = prS 2147483647 (prodI ms) := prodS_pos (by decide) fun x hx => by have := hr x hx; omega
theorem chi_big {rs ms : List Int} {X P er : Nat} (hR : ChiR rs ms X P er) (hl : rs.length = ms.length) (hr : ∀ m ∈ ms, 1 ≤ m ∧ m ≤ 2147483647) (hp : 2147483647 < prodI ms) : X = 0 ∧ P = 0 ∧ er = 8 := by
  cases hR with
  | shape h => exact absurd hl h
  | range h h2 => obtain ⟨m, hm, h3⟩ := h2; exact absurd (hr m hm) h3
  | big h1 h2 h3 => exact ⟨rfl, rfl, rfl⟩
  | none h1 h2 h3 h4 => omega
  | ok h1 h2 h3 h4 => omega
theorem chi_range {rs ms : List Int} {X P er : Nat} (hR : ChiR rs ms X P er) (hl : rs.length = ms.length) {m : Int} (hm : m ∈ ms) (hr : ¬ (1 ≤ m ∧ m ≤ 2147483647)) : X = 0 ∧ P = 0 ∧ er = 6 := by
  cases hR with
  | shape h => exact absurd hl h
  | range h h2 => exact ⟨rfl, rfl, rfl⟩
  | big h1 h2 h3 => exact absurd (h2 m hm) hr
  | none h1 h2 h3 h4 => exact absurd (h2 m hm) hr
  | ok h1 h2 h3 h4 => exact absurd (h2 m hm) hr
theorem chi_shape {rs ms : List Int} {X P er : Nat} (hR : ChiR rs ms X P er) (hl : rs.length ≠ ms.length) : X = 0 ∧ P = 0 ∧ er = 10 := by
  cases hR with
  | shape h => exact ⟨rfl, rfl, rfl⟩
  | range h h2 => exact absurd h hl
  | big h1 h2 h3 => exact absurd h1 hl
  | none h1 h2 h3 h4 => exact absurd h1 hl
  | ok h1 h2 h3 h4 => exact absurd h1 hl
theorem invR_err {a n : Int} {x e : Nat} (h : InvR a n x e) (hn : 1 ≤ n ∧ n ≤ 2147483647) (he : e ≠ 0) : x = 0 ∧ e = 11 ∧ Nat.gcd a.natAbs n.toNat ≠ 1 := by
  cases h with
  | out h => exact absurd hn h
  | none h1 h2 => exact ⟨rfl, rfl, h2⟩
  | ok h1 h2 => exact absurd rfl he
theorem invR_ok {a n : Int} {x e : Nat} (h : InvR a n x e) (he : e = 0) : IsInv a n.toNat x := by
  cases h with
  | out h => cases he
  | none h1 h2 => cases he
  | ok h1 h2 => exact h2
end Go.Proofs.Ytdmgbahognfhbab
namespace Go.Proofs.Ytdmgbahognfhbab
end Go.Proofs.Ytdmgbahognfhbab
namespace Go.Proofs.Ytdmgbahognfhbab
end Go.Proofs.Ytdmgbahognfhbab
set_option linter.unusedSimpArgs false
set_option linter.unusedVariables false
namespace Go.Proofs.Ytdmgbahognfhbab
open Go.RowKit
/-- All that the operations of a list wait for, some steps back. -/
def reach (l : List Oper) : Nat → List Nat → List Nat
  | 0, js => js
  | f + 1, js => reach l f ((List.range l.length).filter fun j => js.contains j || js.any fun k => (anyOn l k).contains j)
theorem reach_all {l : List Oper} {p : Nat → Prop} (hcl : ∀ k, p k → ∀ j ∈ anyOn l k, p j) : ∀ (f : Nat) (js : List Nat), (∀ j ∈ js, p j) → ∀ j ∈ reach l f js, p j
  | 0, _, h => h
  | f + 1, js, h => reach_all hcl f _ fun j hj => by
    simp only [List.mem_filter, Bool.or_eq_true, List.contains_iff_mem, List.any_eq_true] at hj
    rcases hj.2 with hj | ⟨k, hk, hj⟩
    · exact h j hj
    · exact hcl k (h k hk) j hj
/-- A region of which all operations from m on wait for all that stand ahead of m. -/
def tailB (n : Nat) (l : List Oper) (ps : List Plan) (m : Nat) : Bool :=
  ps.length == m && Nat.ble m l.length && (List.range l.length).all (fun i => (anyOn l i).all (fun j => Nat.blt j i)) &&
    (List.range l.length).all (fun i => Nat.blt i m || (List.range m).all (fun j => (reach l 6 (anyOn l i)).contains j)) && (List.range m).all fun i =>
    (match ps[i]? with
     | none => false
     | some p => p.on.all (fun j => (anyOn l i).contains j) && p.slots.all (fun t => (List.range m).all fun k => k == i || dstAt l k != some t || (anyOn l k).contains i)) &&
    (match dstAt l i with
     | none => false
     | some d => Nat.blt d n && (List.range m).all fun k => k == i || dstAt l k != some d)
/-! ### all orders, one by one -/
/-- What is left of a region, in whatever order, when those in 'listed' have been carried out. -/
structure WA (P : Program) (n : Nat) (l : List Oper) (N : Post) (fuel : Nat) (listed : List Bool) (L : Fr) (w : World) : Prop where
  out : ∀ a, Has n a L → ∀ B, wpAny P .any l.toArray (fin n N B) fuel listed.toArray a w
theorem WA.done {P : Program} {n : Nat} {l : List Oper} {N : Post} {listed : List Bool} {L : Fr} {w : World} (hr : Region.ready .any l.toArray listed.toArray = []) (h : N L w) : WA P n l N 0 listed L w :=
  ⟨fun a ha B => ⟨hr, L, ha, h⟩⟩
theorem WA.step {P : Program} {n : Nat} {l : List Oper} {N : Post} {fuel : Nat} {listed : List Bool} {L : Fr} {w : World} (r : List Nat) (hr : Region.ready .any l.toArray listed.toArray = r) (hne : r.isEmpty = false)
    (h : ∀ i ∈ r, ∃ o, l[i]? = some o ∧ WL P n l.toArray [o] (fun L' w' => WA P n l N fuel (listed.set i true) L' w') L w) : WA P n l N (fuel + 1) listed L w := by
  refine ⟨fun a ha B => ⟨fun e => ?_, fun i hi => ?_⟩⟩
  · rw [hr] at e; rw [e] at hne; cases hne
  · rw [hr] at hi
    obtain ⟨o, ho, hW⟩ := h i hi
    have hW2 := hW.out a ha B
    have hend : ∀ a' w', wpList P l.toArray (fin n (fun L' w' => WA P n l N fuel (listed.set i true) L' w') B) [] a' w' → wpAny P .any l.toArray (fin n N B) fuel (listed.toArray.setIfInBounds i true) a' w' := fun a' w' hq => by
      obtain ⟨L', hL', hq⟩ := hq
      have := hq.out a' hL' B
      simpa using this
    unfold wpOp
    simp only [List.getElem?_toArray, ho]
    simp only [wpList] at hW2
    by_cases hwant : Region.wanted o (yielded l.toArray a.tmps) = true
    · rw [if_pos hwant] at hW2
      simp only [hwant, if_true]
      rcases hW2 with hW2 | hW2
      · refine .inl (oper_wp_mono hend (fun e a w hne h => ?_) hW2)
        cases e <;> first | exact absurd rfl hne | exact h
      · refine .inr ⟨hW2.1, ?_⟩
        obtain ⟨a1, w1, h1⟩ := hW2.2
        exact ⟨a1, w1, h1⟩
    · rw [if_neg hwant] at hW2
      simp only [hwant, if_false, Bool.false_eq_true]
      exact hend _ _ hW2
theorem W.drawT {P : Program} {n id : Nat} {l : List Oper} {N : Post} {B : BPost} {L : Fr} {w0 : World} (m : Nat) (ps : List Plan) (bs : List Fr) (V : Nat → Value → World → Prop)
    (hm : P.follows .mixedOrders = true) (hB : tailB n l ps m = true)
    (hV : ∀ j v w1 w2, V j v w1 → w1.grownBy w2 none → V j v w2)
    (hobs : obs P n l V (fun _ => True) w0 L (l.length + 1) 0 (l.take m) ps bs)
    (hN : ∀ (vals : Nat → Value) w', w0.grownBy w' none → (∀ i, i < m → V i (vals i) w') →
      WA P n l N (l.length - m) (List.replicate m true ++ List.replicate (l.length - m) false) ((((List.range m).filterMap fun i => (dstAt l i).map fun t => (t, vals i))) ++ L) w') : W P n (.region id l.toArray true) N B L w0 := by
  simp only [tailB, Bool.and_eq_true, Bool.or_eq_true, List.all_eq_true, List.mem_range, beq_iff_eq, List.contains_iff_mem] at hB
  obtain ⟨⟨⟨⟨hlen, hlm0⟩, hlt0⟩, htail⟩, hB⟩ := hB
  have hlm : m ≤ l.length := by simpa [Nat.ble_eq] using hlm0
  refine ⟨fun a ha => wp_region_any hm ?_⟩
  have hon_lt : ∀ k, k < l.length → ∀ j ∈ anyOn l k, j < k := fun k hk j hj => by simpa [Nat.blt_eq] using hlt0 k hk j hj
  have key : ∀ (fuel : Nat) (listed : Array Bool) (vals : Nat → Value) (a : Act) (w : World), listed.size = l.length → (listed.toList.filter (!·)).length = fuel + (l.length - m) → (∀ k, listed.getD k false = true → k < m) →
      DInv n l ps V (fun _ => True) w0 L (l.length + 1) (fun k => listed.getD k false) vals a w → wpAny P .any l.toArray (fin n N B) (fuel + (l.length - m)) listed a w := by
    intro fuel
    induction fuel with
    | zero =>
      intro listed vals a w hsz hf hnm I
      have hall : ∀ k, k < m → listed.getD k false = true := fun k hk => by
        cases hb : listed.getD k false with
        | true => rfl
        | false =>
          exfalso
          have hcnt : ∀ (x : List Bool) (m : Nat), m ≤ x.length → (∀ j, m ≤ j → j < x.length → x[j]? = some false) → (x.length - m) + ((x.take m).filter (!·)).length = (x.filter (!·)).length := by
            intro x m hmx hfalse
            have h1 : x = x.take m ++ x.drop m := (List.take_append_drop m x).symm
            have h2 : (x.drop m).filter (!·) = x.drop m := by
              rw [List.filter_eq_self]
              intro b hb
              obtain ⟨j, hj, rfl⟩ := List.mem_iff_getElem.1 hb
              have := hfalse (m + j) (by omega) (by simp at hj; omega)
              rw [List.getElem_drop]
              rw [List.getElem?_eq_getElem (by simp at hj; omega)] at this
              simpa using this
            conv => rhs; rw [h1]
            rw [List.filter_append, List.length_append, h2, List.length_drop]
            omega
          have hx := hcnt listed.toList m (by simp; omega) (fun j h1 h2 => by
            have hj : j < listed.size := by simpa using h2
            cases hbj : listed.getD j false with
            | true => have := hnm j hbj; omega
            | false =>
              simp [Array.getD_eq_getD_getElem?, hj] at hbj
              simp [hj, hbj])
          have hsz2 : listed.toList.length = l.length := by simpa using hsz
          have hzero : ((listed.toList.take m).filter (!·)).length = 0 := by omega
          have hz := filter_zero hzero k (by simp; omega)
          rw [List.getElem?_take, if_pos hk] at hz
          have hk2 : k < listed.size := by omega
          simp [Array.getD_eq_getD_getElem?, hk2] at hb
          simp [hk2, hb] at hz
      have hlist : listed = (List.replicate m true ++ List.replicate (l.length - m) false).toArray := by
        apply Array.ext
        · simp [hsz]; omega
        · intro k h1 h2
          have hk : k < l.length := by omega
          rcases Nat.lt_or_ge k m with h | h
          · have := hall k h
            simp [Array.getD_eq_getD_getElem?, h1] at this
            simp [this, List.getElem_append, h]
          · have hb : listed.getD k false = false := by
              cases hb : listed.getD k false with
              | false => rfl
              | true => have := hnm k hb; omega
            simp [Array.getD_eq_getD_getElem?, h1] at hb
            simp [hb, List.getElem_append, show ¬ k < m by omega]
      have hw := I.wd (by simp [Array.getD_eq_getD_getElem?, show ¬ l.length + 1 < listed.size by omega])
      have hvs : ∀ j, j < m → V j (vals j) w := fun j hj => I.vs j (hall j hj) (by omega)
      have hW := hN vals w hw hvs
      have hHas : Has n a ((((List.range m).filterMap fun i => (dstAt l i).map fun t => (t, vals i))) ++ L) := by
        refine ⟨I.nd, I.sz, fun t v hv => ?_⟩
        rw [lk_append] at hv
        cases hc : lk ((List.range m).filterMap fun i => (dstAt l i).map fun t => (t, vals i)) t with
        | some u =>
          rw [hc] at hv
          cases hv
          have := lk_mem hc
          simp only [List.mem_filterMap, List.mem_range, Option.map_eq_some_iff] at this
          obtain ⟨k, hk, t', ht', he⟩ := this
          cases he
          exact I.new k t (hall k hk) ht'
        | none =>
          rw [hc] at hv
          refine I.old t v hv fun k hk hd => ?_
          have hm2 : (t, vals k) ∈ (List.range m).filterMap fun i => (dstAt l i).map fun t => (t, vals i) := by
            simp only [List.mem_filterMap, List.mem_range, Option.map_eq_some_iff]
            exact ⟨k, hnm k hk, t, hd, rfl⟩
          obtain ⟨u, hu⟩ := lk_of_mem hm2
          rw [hc] at hu; cases hu
      rw [hlist, Nat.zero_add]
      exact hW.out a hHas B
    | succ fuel ih =>
      intro listed vals a w hsz hf hnm I
      rw [show fuel + 1 + (l.length - m) = (fuel + (l.length - m)) + 1 by omega] at hf ⊢
      have hlist : ∀ k, listed.getD k true = false → k < l.length ∧ listed.getD k false = false := fun k hk => by
        rcases Nat.lt_or_ge k listed.size with h | h
        · simp [Array.getD_eq_getD_getElem?, h] at hk ⊢
          exact ⟨by omega, hk⟩
        · simp [Array.getD_eq_getD_getElem?, Array.getElem?_eq_none h] at hk
      refine ⟨?_, ?_⟩
      · intro hr
        -- the first that has not come up yet is ready
        exfalso
        have hex : ∃ k, k < l.length ∧ listed.getD k false = false := by
          by_cases hc : ∃ k, k < l.length ∧ listed.getD k false = false
          · exact hc
          · have hfe : listed.toList.filter (!·) = [] := by
              rw [List.filter_eq_nil_iff]
              intro b hb
              obtain ⟨k, hk, rfl⟩ := List.mem_iff_getElem.1 hb
              have hk' : k < listed.size := by simpa using hk
              have : ¬ listed.getD k false = false := fun h => hc ⟨k, by omega, h⟩
              simp [Array.getD_eq_getD_getElem?, hk'] at this
              simp [this]
            rw [hfe] at hf; simp at hf
        have hmin : ∀ m, (∃ k, k ≤ m ∧ k < l.length ∧ listed.getD k false = false) → ∃ k, k < l.length ∧ listed.getD k false = false ∧ ∀ j, j < k → listed.getD j false = true := by
          intro m
          induction m with
          | zero => rintro ⟨k, hk, h1, h2⟩; exact ⟨k, h1, h2, fun j hj => by omega⟩
          | succ m ihm =>
            rintro ⟨k, hk, h1, h2⟩
            by_cases hc : ∃ j, j ≤ m ∧ j < l.length ∧ listed.getD j false = false
            · exact ihm hc
            · refine ⟨k, h1, h2, fun j hj => ?_⟩
              cases hb : listed.getD j false with
              | true => rfl
              | false => exact absurd ⟨j, by omega, by omega, hb⟩ hc
        obtain ⟨k0, hk0, hk0'⟩ := hex
        obtain ⟨k, h1, h2, h3⟩ := hmin k0 ⟨k0, Nat.le_refl _, hk0, hk0'⟩
        have hin : k ∈ Region.ready .any l.toArray listed := by
          refine mem_ready.2 ⟨?_, l[k], by simp [h1], fun e he hb => ?_⟩
          · have : k < listed.size := by omega
            simp [Array.getD_eq_getD_getElem?, this] at h2 ⊢
            exact h2
          · have hon : e.on ∈ anyOn l k := by
              simp only [anyOn, List.getElem?_eq_getElem h1, List.mem_map, List.mem_filter]
              exact ⟨e, ⟨by simpa using he, hb⟩, rfl⟩
            exact h3 e.on (hon_lt k h1 _ hon)
        rw [hr] at hin; cases hin
      · intro i hi
        obtain ⟨h1, o, ho, hpre⟩ := mem_ready.1 hi
        obtain ⟨hil0, hun⟩ := hlist i h1
        have ho' : l[i]? = some o := by simpa using ho
        have hpre' : ∀ j ∈ anyOn l i, listed.getD j false = true := fun j hj => by
          simp only [anyOn, ho', List.mem_map, List.mem_filter] at hj
          obtain ⟨e, ⟨he, hb⟩, rfl⟩ := hj
          exact hpre e (by simpa using he) hb
        have hil : i < m := by
          rcases Nat.lt_or_ge i m with h | h
          · exact h
          · exfalso
            have hall : ∀ k, k < m → listed.getD k false = true := fun k hk => by
              rcases htail i hil0 with h2 | h2
              · simp [Nat.blt_eq] at h2; omega
              · exact reach_all (p := fun k => listed.getD k false = true) I.cl 6 (anyOn l i) hpre' k (h2 k hk)
            have hcnt : ∀ (x : List Bool) (m : Nat), (∀ j, j < m → x[j]? = some true) → (x.filter (!·)).length ≤ x.length - m := by
              intro x m
              induction m generalizing x with
              | zero => intro _; exact List.length_filter_le _ _
              | succ m ih =>
                intro h
                cases x with
                | nil => simp
                | cons b x =>
                  have hb := h 0 (by omega)
                  simp at hb
                  subst hb
                  have := ih x (fun j hj => by have := h (j + 1) (by omega); simpa using this)
                  simpa using this
            have := hcnt listed.toList m (fun j hj => by
              have h3 := hall j hj
              have hj2 : j < listed.size := by omega
              simp [Array.getD_eq_getD_getElem?, hj2] at h3
              simp [hj2, h3])
            have hsz2 : listed.toList.length = l.length := by simpa using hsz
            omega
        obtain ⟨hp, hd⟩ := hB i hil
        have hpi : i < ps.length := by omega
        rw [List.getElem?_eq_getElem hpi] at hp
        generalize hpe : ps[i] = p at hp
        simp only [Bool.and_eq_true, List.all_eq_true, Bool.or_eq_true, List.mem_range, beq_iff_eq, bne_iff_ne, ne_eq, List.contains_iff_mem] at hp
        obtain ⟨hon, hsl⟩ := hp
        obtain ⟨b, hbs, hsub, hob⟩ := obs_at (l.take m) ps bs 0 hobs i o p (by rw [List.getElem?_take, if_pos hil]; exact ho') (by rw [List.getElem?_eq_getElem hpi, hpe])
        rw [Nat.zero_add] at hob
        have hw0 : p.pure = false → w0.grownBy w none := fun _ => I.wd (by
          cases hb : listed.getD (l.length + 1) false with
          | false => rfl
          | true => have := I.lt _ hb; omega)
        have hT := told_at vals p.on b (hob w hw0) (fun j hj => I.vs j (hpre' j (hon j hj)) (by have := hon_lt i hil0 j (hon j hj); omega))
        generalize hF : (List.map (fun j => ((dstAt l j).getD 0, vals j)) p.on).reverse ++ b = F at hT
        have hdst : ∀ j, j < m → ∃ d, dstAt l j = some d ∧ d < n := fun j hj => by
          have := (hB j hj).2
          cases hd : dstAt l j with
          | none => rw [hd] at this; simp at this
          | some d => rw [hd] at this; simp only [Bool.and_eq_true] at this; exact ⟨d, rfl, by simpa [Nat.blt_eq] using this.1⟩
        have hHF : Has n a (F ++ (List.range n).map fun t => (t, a.tmps.getD t undef)) := by
          refine ⟨I.nd, I.sz, fun t v hv => ?_⟩
          rw [lk_append] at hv
          cases hc : lk F t with
          | some u =>
            rw [hc] at hv; cases hv
            have hm := lk_mem hc
            rw [← hF] at hm
            rcases List.mem_append.1 hm with hm | hm
            · simp only [List.mem_reverse, List.mem_map] at hm
              obtain ⟨j, hj, he⟩ := hm
              cases he
              obtain ⟨d, hd', _⟩ := hdst j (hnm j (hpre' j (hon j hj)))
              rw [hd']
              exact I.new j d (hpre' j (hon j hj)) hd'
            · have hL := sub_at hsub hm
              have hts : t ∈ p.slots := by rw [← hbs]; exact List.mem_map.2 ⟨_, hm, rfl⟩
              refine I.old t v hL fun k hk hdk => ?_
              rcases hsl t hts k (hnm k hk) with (h | h) | h
              · subst h; rw [hun] at hk; cases hk
              · exact h hdk
              · have := I.cl k hk i h; rw [hun] at this; cases this
          | none =>
            rw [hc] at hv
            have hm := lk_mem hv
            simp only [List.mem_map, List.mem_range] at hm
            obtain ⟨t', ht', he⟩ := hm
            cases he
            have : t < a.tmps.size := by rw [I.sz]; exact ht'
            simp [Array.getD_eq_getD_getElem?, this]
        have hW := (hT ((List.range n).map fun t => (t, a.tmps.getD t undef))).out a hHF (fun _ _ _ => False)
        have hne1 : i ≠ l.length + 1 := by omega
        have fin' : ∀ a' w', wpList P l.toArray (fin n (fun L' w' => if i = l.length + 1 then L' = F ++ (List.range n).map (fun t => (t, a.tmps.getD t undef)) ∧ True else ∃ u, L' = ((dstAt l i).getD 0, u) :: (F ++ (List.range n).map fun t => (t, a.tmps.getD t undef)) ∧ (if p.pure then w' = w else w.grownBy w' none) ∧ V i u w') (fun _ _ _ => False)) [] a' w' →
            wpAny P .any l.toArray (fin n N B) (fuel + (l.length - m)) (listed.setIfInBounds i true) a' w' := by
          intro a' w' hq
          obtain ⟨L', hL', hq⟩ := hq
          rw [if_neg hne1] at hq
          have hisz : i < listed.size := by omega
          have hset : ∀ k, (listed.setIfInBounds i true).getD k false = true → k = i ∨ listed.getD k false = true := fun k hk => by
            rw [getD_set _ _ _ hisz] at hk
            simp only [Bool.or_eq_true, decide_eq_true_eq] at hk
            exact hk.imp Eq.symm (fun h => h)
          have hset' : ∀ k, k = i ∨ listed.getD k false = true → (listed.setIfInBounds i true).getD k false = true := fun k hk => by
            rw [getD_set _ _ _ hisz]
            simp only [Bool.or_eq_true, decide_eq_true_eq]
            exact hk.imp Eq.symm (fun h => h)
          have hcount : ((listed.setIfInBounds i true).toList.filter (!·)).length = fuel + (l.length - m) := by
            have hg : listed.toList[i]? = some false := by
              simp [Array.getD_eq_getD_getElem?, hisz] at hun
              simp [hisz, hun]
            have := filter_set listed.toList i hg
            rw [Array.toList_setIfInBounds]
            omega
          have hm0' : ∀ k, (listed.setIfInBounds i true).getD k false = true → k < m := fun k hk => by
            rcases hset k hk with rfl | h
            · exact hil
            · exact hnm k h
          have hcl : ∀ k, (listed.setIfInBounds i true).getD k false = true → ∀ j ∈ anyOn l k, (listed.setIfInBounds i true).getD j false = true := fun k hk j hj => by
            rcases hset k hk with rfl | h
            · exact hset' j (.inr (hpre' j hj))
            · exact hset' j (.inr (I.cl k h j hj))
          have hlt : ∀ k, (listed.setIfInBounds i true).getD k false = true → k < l.length := fun k hk => by
            rcases hset k hk with rfl | h
            · exact hil0
            · exact I.lt k h
          have hsome : ∀ t, t < n → ∃ v, lk (F ++ (List.range n).map fun t => (t, a.tmps.getD t undef)) t = some v := fun t ht => by
            rw [lk_append]
            cases lk F t with
            | some u => exact ⟨u, rfl⟩
            | none => exact ⟨_, lk_full a n t ht⟩
          obtain ⟨u, rfl, hww, hVu⟩ := hq
          obtain ⟨d, hdd, hdn⟩ := hdst i hil
          rw [hdd] at hL' hd
          simp only [Option.getD_some] at hL'
          simp only [Bool.and_eq_true, List.all_eq_true, List.mem_range, Bool.or_eq_true, beq_iff_eq, bne_iff_ne, ne_eq] at hd
          have hsame' : ∀ t v, t ≠ d → a.tmps[t]? = some v → a'.tmps[t]? = some v := fun t v hne hv => by
            have ht : t < n := by have := (Array.getElem?_eq_some_iff.1 hv).1; rw [I.sz] at this; exact this
            obtain ⟨v', hv'⟩ := hsome t ht
            have h2 := hHF.at_ t v' hv'
            rw [hv] at h2; cases h2
            exact hL'.at_ t v (by rw [lk_ne (Ne.symm hne)]; exact hv')
          have hnew : a'.tmps[d]? = some u := hL'.at_ d u (lk_self _ _ _)
          have hgw : w.grownBy w' none := by
            by_cases hp' : p.pure = true
            · rw [if_pos hp'] at hww; subst hww; exact ext_refl _
            · rw [if_neg hp'] at hww; exact hww
          have hVk : ∀ k, listed.getD k false = true → k ≠ l.length + 1 → V k (vals k) w' := fun k h hne => hV k _ w w' (I.vs k h hne) hgw
          refine ih _ (fun k => if k = i then u else vals k) a' w' (by simpa using hsz) hcount hm0' ⟨hL'.nd, hL'.sz, fun t v ht hk => ?_, fun k t hk ht => ?_, fun h => ?_, fun h => trivial, fun k hk hne => ?_, hcl, hlt⟩
          · exact hsame' t v (fun e' => hk i (hset' i (.inl rfl)) (by rw [hdd, e'])) (I.old t v ht fun k h => hk k (hset' k (.inr h)))
          · by_cases ek : k = i
            · subst ek; rw [hdd] at ht; cases ht; simpa using hnew
            · rw [if_neg ek]
              rcases hset k hk with h | h
              · exact absurd h ek
              · refine hsame' t _ (fun e' => ?_) (I.new k t h ht)
                rcases hd.2 k (hnm k h) with h' | h'
                · exact ek h'
                · exact h' (by rw [ht, e'])
          · refine ext_trans (I.wd ?_) hgw
            cases hb : listed.getD (l.length + 1) false with
            | false => rfl
            | true => have := I.lt _ hb; omega
          · by_cases ek : k = i
            · subst ek; simpa using hVu
            · rw [if_neg ek]
              rcases hset k hk with h | h
              · exact absurd h ek
              · exact hVk k h hne
        unfold wpOp
        rw [ho]
        simp only [wpList] at hW
        by_cases hwant : Region.wanted o (yielded l.toArray a.tmps) = true
        · rw [if_pos hwant] at hW
          simp only [hwant, if_true]
          rcases hW with hW | ⟨_, a', w', L', _, hF'⟩
          · exact .inl (oper_wp_mono fin' (fun e a w hne h => by cases e <;> first | exact absurd rfl hne | (obtain ⟨_, _, h⟩ := h; exact h.elim)) hW)
          · exact hF'.elim
        · rw [if_neg hwant] at hW
          simp only [hwant, if_false, Bool.false_eq_true]
          exact fin' _ _ hW
  have hsz0 : ((Array.replicate l.toArray.size false).toList.filter (!·)).length = m + (l.length - m) := by simp; omega
  have := key m (Array.replicate l.toArray.size false) (fun _ => undef) a { w0 with drawn := w0.drawn + 1 } (by simp) hsz0 (fun k h => by rw [getD_rep] at h; cases h) {
    nd := ha.nd, sz := ha.sz
    old := fun t v h _ => ha.at_ t v h
    new := fun k t h => by rw [getD_rep] at h; cases h
    wd := fun _ => ⟨rfl, rfl, rfl, Nat.le_refl _, fun _ _ _ => rfl⟩
    ws := fun h => trivial
    vs := fun k h => by rw [getD_rep] at h; cases h
    cl := fun k h => by rw [getD_rep] at h; cases h
    lt := fun k h => by rw [getD_rep] at h; cases h }
  rw [show m + (l.length - m) = l.toArray.size by simp; omega] at this
  exact this
theorem Vs_monoT (Vs : List (Value → World → Prop)) (h : ∀ V ∈ Vs, ∀ v w1 w2, V v w1 → w1.grownBy w2 none → V v w2) :
    ∀ j v w1 w2, (Vs.getD j (fun _ _ => True)) v w1 → w1.grownBy w2 none → (Vs.getD j (fun _ _ => True)) v w2 := by
  intro j v w1 w2 h1 h2
  rw [List.getD_eq_getElem?_getD] at h1 ⊢
  cases hj : Vs[j]? with
  | none => trivial
  | some V => rw [hj] at h1; exact h V (List.mem_of_getElem? hj) v w1 w2 h1 h2
end Go.Proofs.Ytdmgbahognfhbab
set_option linter.unusedSimpArgs false
set_option linter.unusedVariables false
namespace Go.Proofs.Ytdmgbahognfhbab
open Go.RowKit
/-- The same, where one operation ahead of m may come late. -/
def tailF (n : Nat) (l : List Oper) (ps : List Plan) (m f : Nat) : Bool :=
  ps.length == m && Nat.ble m l.length && (List.range l.length).all (fun i => (anyOn l i).all (fun j => Nat.blt j i)) &&
    (List.range l.length).all (fun i => Nat.blt i m || (List.range m).all (fun j => j == f || (reach l 6 (anyOn l i)).contains j)) && (List.range m).all fun i =>
    (match ps[i]? with
     | none => false
     | some p => p.on.all (fun j => (anyOn l i).contains j) && p.slots.all (fun t => (List.range m).all fun k => k == i || dstAt l k != some t || (anyOn l k).contains i)) &&
    (match dstAt l i with
     | none => false
     | some d => Nat.blt d n && (List.range m).all fun k => k == i || dstAt l k != some d)
end Go.Proofs.Ytdmgbahognfhbab
set_option linter.unusedSimpArgs false
set_option linter.unusedVariables false
namespace Go.Proofs.Ytdmgbahognfhbab
open Go.RowKit
theorem isPos_c {w : World} {X : Int} (hX : -9223372036854775808 ≤ X ∧ X ≤ 9223372036854775807) :
    Calls Try.prog 88 #[.int .i64 X] w fun e w2 => ∃ v, e = .returned v ∧ (fun v w2 => ∃ b : Bool, v = .bool b ∧ w.grownBy w2 none ∧ (b = true → (1 ≤ X ∧ X ≤ 2147483647)) ∧ (b = false → ¬ (1 ≤ X ∧ X ≤ 2147483647))) v w2 := by
  have hB := ext_refl w
  refine calls_of_W (vs := [.int .i64 X]) [2] Try.func88 rfl rfl rfl rfl ?_
  refine W.seq ?_
  refine W.region ?_
  refine WL.assign rfl rfl ?_
  refine WL.done ?_
  refine W.seq ?_
  refine W.region ?_
  refine WL.move rfl rfl ?_
  refine WL.geq rfl rfl rfl (fun c11 => ?_) (fun c11 => ?_)
  · refine WL.move rfl rfl ?_
    refine WL.take rfl ?_
    refine WL.move rfl rfl ?_
    refine WL.take rfl ?_
    refine WL.leq rfl rfl rfl (fun c12 => ?_) (fun c12 => ?_)
    · refine WL.pick rfl rfl rfl ?_
      refine WL.assign rfl rfl ?_
      refine WL.done ?_
      refine W.ret ?_
      refine ⟨_, rfl, ?_⟩
      exact ⟨true, rfl, hB, (fun _ => by omega), fun h => by cases h⟩
    · refine WL.pick rfl rfl rfl ?_
      refine WL.assign rfl rfl ?_
      refine WL.done ?_
      refine W.ret ?_
      refine ⟨_, rfl, ?_⟩
      exact ⟨false, rfl, hB, (fun h => by cases h), fun _ => by omega⟩
  · refine WL.move rfl rfl ?_
    refine WL.pass rfl rfl rfl ?_
    refine WL.pass rfl rfl rfl ?_
    refine WL.pick rfl rfl rfl ?_
    refine WL.assign rfl rfl ?_
    refine WL.done ?_
    refine W.ret ?_
    refine ⟨_, rfl, ?_⟩
    exact ⟨false, rfl, hB, (fun h => by cases h), fun _ => by omega⟩

theorem isSmall_c {w : World} {X : Int} (hX : -9223372036854775808 ≤ X ∧ X ≤ 9223372036854775807) :
    Calls Try.prog 90 #[.int .i64 X] w fun e w2 => ∃ v, e = .returned v ∧ (fun v w2 => ∃ b : Bool, v = .bool b ∧ w.grownBy w2 none ∧ (b = true → (-2147483647 ≤ X ∧ X ≤ 2147483647)) ∧ (b = false → ¬ (-2147483647 ≤ X ∧ X ≤ 2147483647))) v w2 := by
  have hB := ext_refl w
  refine calls_of_W (vs := [.int .i64 X]) [2] Try.func90 rfl rfl rfl rfl ?_
  refine W.seq ?_
  refine W.region ?_
  refine WL.assign rfl rfl ?_
  refine WL.done ?_
  refine W.seq ?_
  refine W.region ?_
  refine WL.move rfl rfl ?_
  refine WL.geq rfl rfl rfl (fun c11 => ?_) (fun c11 => ?_)
  · refine WL.move rfl rfl ?_
    refine WL.take rfl ?_
    refine WL.move rfl rfl ?_
    refine WL.take rfl ?_
    refine WL.leq rfl rfl rfl (fun c12 => ?_) (fun c12 => ?_)
    · refine WL.pick rfl rfl rfl ?_
      refine WL.assign rfl rfl ?_
      refine WL.done ?_
      refine W.ret ?_
      refine ⟨_, rfl, ?_⟩
      exact ⟨true, rfl, hB, (fun _ => by omega), fun h => by cases h⟩
    · refine WL.pick rfl rfl rfl ?_
      refine WL.assign rfl rfl ?_
      refine WL.done ?_
      refine W.ret ?_
      refine ⟨_, rfl, ?_⟩
      exact ⟨false, rfl, hB, (fun h => by cases h), fun _ => by omega⟩
  · refine WL.move rfl rfl ?_
    refine WL.pass rfl rfl rfl ?_
    refine WL.pass rfl rfl rfl ?_
    refine WL.pick rfl rfl rfl ?_
    refine WL.assign rfl rfl ?_
    refine WL.done ?_
    refine W.ret ?_
    refine ⟨_, rfl, ?_⟩
    exact ⟨false, rfl, hB, (fun h => by cases h), fun _ => by omega⟩

theorem size_c {w : World} {X : Int} (hX : -9223372036854775808 < X ∧ X ≤ 9223372036854775807) :
    Calls Try.prog 91 #[.int .i64 X] w fun e w2 => ∃ v, e = .returned v ∧ (fun v w2 => v = .int .i64 ((X.natAbs : Nat) : Int) ∧ w.grownBy w2 none) v w2 := by
  have hB := ext_refl w
  refine calls_of_W (vs := [.int .i64 X]) [2] Try.func91 rfl rfl rfl rfl ?_
  refine W.seq ?_
  refine W.region ?_
  refine WL.assign rfl rfl ?_
  refine WL.done ?_
  refine W.seq ?_
  refine W.seq ?_
  refine W.region ?_
  refine WL.move rfl rfl ?_
  refine WL.lss rfl rfl rfl (fun c11 => ?_) (fun c11 => ?_)
  · refine WL.done ?_
    refine W.condT rfl ?_
    refine W.seq ?_
    refine W.region ?_
    refine WL.move rfl rfl ?_
    refine WL.neg (r := -X) rfl (wi64 (by omega) (by omega) (by omega)) rfl ?_
    refine WL.assign rfl rfl ?_
    refine WL.done ?_
    refine W.ret ?_
    refine ⟨_, rfl, ?_⟩
    exact ⟨by congr 1; omega, hB⟩
  · refine WL.done ?_
    refine W.condF rfl ?_
    refine W.skip ?_
    refine W.seq ?_
    refine W.region ?_
    refine WL.move rfl rfl ?_
    refine WL.assign rfl rfl ?_
    refine WL.done ?_
    refine W.ret ?_
    refine ⟨_, rfl, ?_⟩
    exact ⟨by congr 1; omega, hB⟩

theorem sign_c {w : World} {X : Int} (hX : -9223372036854775808 ≤ X ∧ X ≤ 9223372036854775807) :
    Calls Try.prog 92 #[.int .i64 X] w fun e w2 => ∃ v, e = .returned v ∧ (fun v w2 => v = .int .i64 (sgI X) ∧ w.grownBy w2 none) v w2 := by
  have hB := ext_refl w
  refine calls_of_W (vs := [.int .i64 X]) [2] Try.func92 rfl rfl rfl rfl ?_
  refine W.seq ?_
  refine W.region ?_
  refine WL.assign rfl rfl ?_
  refine WL.done ?_
  refine W.seq ?_
  refine W.block ?_
  refine W.seq ?_
  refine W.region ?_
  refine WL.move rfl rfl ?_
  refine WL.gtr rfl rfl rfl (fun c11 => ?_) (fun c11 => ?_)
  · refine WL.assign rfl rfl ?_
    refine WL.done ?_
    refine W.condT rfl ?_
    refine W.seq ?_
    refine W.region ?_
    refine WL.assign rfl rfl ?_
    refine WL.done ?_
    refine W.ret ?_
    refine ⟨_, rfl, ?_⟩
    exact ⟨by unfold sgI; congr 1; split <;> first | omega | (split <;> omega), hB⟩
  · refine WL.assign rfl rfl ?_
    refine WL.done ?_
    refine W.condF rfl ?_
    refine W.seq ?_
    refine W.region ?_
    refine WL.move rfl rfl ?_
    refine WL.lss rfl rfl rfl (fun c12 => ?_) (fun c12 => ?_)
    · refine WL.assign rfl rfl ?_
      refine WL.done ?_
      refine W.condT rfl ?_
      refine W.seq ?_
      refine W.region ?_
      refine WL.assign rfl rfl ?_
      refine WL.done ?_
      refine W.ret ?_
      refine ⟨_, rfl, ?_⟩
      exact ⟨by unfold sgI; congr 1; split <;> first | omega | (split <;> omega), hB⟩
    · refine WL.assign rfl rfl ?_
      refine WL.done ?_
      refine W.condF rfl ?_
      refine W.skip ?_
      refine W.seq ?_
      refine W.region ?_
      refine WL.assign rfl rfl ?_
      refine WL.done ?_
      refine W.ret ?_
      refine ⟨_, rfl, ?_⟩
      exact ⟨by unfold sgI; congr 1; split <;> first | omega | (split <;> omega), hB⟩

theorem residue_c {w : World} {X : Int} (hX : -9223372036854775808 ≤ X ∧ X ≤ 9223372036854775807) (n : Nat) {N : Int} (hN : N = n) (hn0 : 0 < n) (hn : n < 9223372036854775808) :
    Calls Try.prog 93 #[.int .i64 X, .int .i64 N] w fun e w2 => ∃ v, e = .returned v ∧ (fun v w2 => v = .int .i64 (((X % (n : Int)).toNat : Nat) : Int) ∧ w.grownBy w2 none) v w2 := by
  have hr := @tmod_range X n (by omega)
  have hr1 := @tmod_neg X n (by omega)
  have hr2 := @tmod_nn X n (by omega)
  have hr3 := Int.emod_nonneg X (show (n : Int) ≠ 0 by omega)
  have hB := ext_refl w
  refine calls_of_W (vs := [.int .i64 X, .int .i64 N]) [4] Try.func93 rfl rfl rfl rfl ?_
  refine W.seq ?_
  refine W.region ?_
  refine WL.assign rfl rfl ?_
  refine WL.done ?_
  refine W.seq ?_
  refine W.region ?_
  refine WL.move rfl rfl ?_
  refine WL.move rfl rfl ?_
  refine WL.rem (r := (X.tmod (n : Int))) rfl rfl (by omega) (by rw [hN]) rfl ?_
  refine WL.assign rfl rfl ?_
  refine WL.done ?_
  refine W.seq ?_
  refine W.seq ?_
  refine W.region ?_
  refine WL.move rfl rfl ?_
  refine WL.lss rfl rfl rfl (fun c11 => ?_) (fun c11 => ?_)
  · refine WL.done ?_
    refine W.condT rfl ?_
    refine W.region ?_
    refine WL.move rfl rfl ?_
    refine WL.move rfl rfl ?_
    refine WL.add (r := ((X.tmod (n : Int)) + N)) rfl rfl (wi64 (by omega) (by omega) (by omega)) rfl ?_
    refine WL.assign rfl rfl ?_
    refine WL.done ?_
    refine W.seq ?_
    refine W.region ?_
    refine WL.move rfl rfl ?_
    refine WL.assign rfl rfl ?_
    refine WL.done ?_
    refine W.ret ?_
    refine ⟨_, rfl, ?_⟩
    exact ⟨by congr 1; omega, hB⟩
  · refine WL.done ?_
    refine W.condF rfl ?_
    refine W.skip ?_
    refine W.seq ?_
    refine W.region ?_
    refine WL.move rfl rfl ?_
    refine WL.assign rfl rfl ?_
    refine WL.done ?_
    refine W.ret ?_
    refine ⟨_, rfl, ?_⟩
    exact ⟨by congr 1; omega, hB⟩

theorem cofactor_c {w : World} (n : Nat) {X : Int} (hX : X = n) (m : Nat) {Y : Int} (hY : Y = m) (hn : n < 9223372036854775808) (hm : m < 9223372036854775808) :
    Calls Try.prog 67 #[.int .i64 X, .int .i64 Y] w fun e w2 => ∃ v, e = .returned v ∧ (fun v w2 => ∃ Z : Int, v = .tuple #[.int .i64 ((Nat.gcd n m : Nat) : Int), .int .i64 Z] ∧ w.grownBy w2 none ∧ (m : Int) ∣ Z * n - (Nat.gcd n m : Nat) ∧ -9223372036854775808 < Z ∧ Z ≤ 9223372036854775807) v w2 := by
  have hB := ext_refl w
  refine calls_of_W (vs := [.int .i64 X, .int .i64 Y]) [4, 5] Try.func67 rfl rfl rfl rfl ?_
  refine W.seq ?_
  refine W.region ?_
  refine WL.assign rfl rfl ?_
  refine WL.assign rfl rfl ?_
  refine WL.done ?_
  refine W.seq ?_
  refine W.region ?_
  refine WL.assign rfl rfl ?_
  refine WL.assign rfl rfl ?_
  refine WL.done ?_
  refine W.seq ?_
  refine W.block ?_
  refine W.loop (σ := Nat × Nat × Nat × Nat × Int) (fun s w1 => match s with | (a, b, F, S, e) => w.grownBy w1 none ∧ Eu n m a b F S e ∧ a < 9223372036854775808 ∧ b < 9223372036854775808 ∧ F ≤ max m 1 ∧ S ≤ max m 1) (fun s => match s with | (a, b, F, S, e) => [(0, .int .i64 ((a : Nat) : Int)), (1, .int .i64 ((b : Nat) : Int)), (6, .int .i64 (e * (F : Nat))), (7, .int .i64 (-(e * (S : Nat))))]) (fun s => match s with | (a, b, F, S, e) => b) (n, m, 1, 0, 1) ?_ ?_ ?_
  · exact ⟨hB, Eu.start n m, by omega, by omega, by omega, by omega⟩
  · exact ⟨iv (by omega), iv (by omega), iv (by omega), iv (by omega), trivial⟩
  · rintro ⟨a, b, F, S, e⟩ w11 ⟨hB, hE, ha, hb, hF, hS⟩
    have hes := hE.sgn
    have er1 := e_range63 (n := F) hes (by omega)
    have er2 := e_range63 (n := S) hes (by omega)
    refine W.seq ?_
    refine W.seq ?_
    refine W.region ?_
    refine WL.move rfl rfl ?_
    refine WL.neq rfl rfl rfl (fun c12 => ?_) (fun c12 => ?_)
    · refine WL.done ?_
      refine W.condT rfl ?_
      refine W.skip ?_
      refine W.block ?_
      refine W.seq ?_
      refine W.region ?_
      refine WL.move rfl rfl ?_
      refine WL.move rfl rfl ?_
      have nq1 : -(e * (S : Int)) = -e * (S : Int) := (Int.neg_mul _ _).symm
      have nq2 : e * ((F + a / b * S : Nat) : Int) = -(-e * ((F + a / b * S : Nat) : Int)) := by rw [Int.neg_mul, Int.neg_neg]
      have hb0 : 0 < b := by omega
      have hml := Nat.mod_lt a hb0
      have hq := hE.quo_bound hb0
      have hdm := Nat.div_add_mod a b
      have hdl := Nat.div_mul_le_self a b
      have er3 := e_range63 (n := a / b * S) hes (by omega)
      have er4 := e_range63 (n := F + a / b * S) hes (by omega)
      refine WL.quo (r := ((a / b : Nat) : Int)) rfl rfl (by omega) (qi64 (by omega) (by omega) (by omega)) rfl ?_
      refine WL.assign rfl rfl ?_
      refine WL.done ?_
      refine W.seq ?_
      refine W.region ?_
      refine WL.move rfl rfl ?_
      refine WL.move rfl rfl ?_
      refine WL.move rfl rfl ?_
      refine WL.move rfl rfl ?_
      refine WL.mul (r := ((a / b * b : Nat) : Int)) rfl rfl (wi64 (by omega) (by omega) (by omega)) rfl ?_
      refine WL.sub (r := ((a % b : Nat) : Int)) rfl rfl (by rw [show ((a : Int) - ((a / b * b : Nat) : Int)) = ((a % b : Nat) : Int) by rw [Nat.mul_comm b] at hdm; omega]; exact wi64 (by omega) (by have := Nat.mod_le a b; omega) rfl) rfl ?_
      refine WL.assign rfl rfl ?_
      refine WL.assign rfl rfl ?_
      refine WL.done ?_
      refine W.region ?_
      refine WL.move rfl rfl ?_
      refine WL.move rfl rfl ?_
      refine WL.move rfl rfl ?_
      refine WL.move rfl rfl ?_
      refine WL.mul (r := (-(e * ((a / b * S : Nat) : Int)))) rfl rfl (by rw [lkA]; exact wi64 (by omega) (by omega) rfl) rfl ?_
      refine WL.sub (r := (e * ((F + a / b * S : Nat) : Int))) rfl rfl (by rw [lkB]; exact wi64 (by omega) (by omega) rfl) rfl ?_
      refine WL.assign rfl rfl ?_
      refine WL.assign rfl rfl ?_
      refine WL.done ?_
      refine ⟨(b, a % b, S, F + a / b * S, -e), ⟨iv (by omega), iv (by omega), iv (by omega), iv (by omega), trivial⟩, by (dsimp only; omega), ?_⟩
      exact ⟨hB, hE.next (by omega), by omega, by omega, by omega, by omega⟩
    · refine WL.done ?_
      refine W.condF rfl ?_
      refine W.exit ?_
      refine W.seq ?_
      refine W.region ?_
      refine WL.move rfl rfl ?_
      refine WL.move rfl rfl ?_
      refine WL.assign rfl rfl ?_
      refine WL.assign rfl rfl ?_
      refine WL.done ?_
      refine W.ret ?_
      refine ⟨_, rfl, ?_⟩
      have hb0 : b = 0 := by omega
      subst hb0
      have hg := hE.done
      obtain ⟨k, hk⟩ := hE.ca
      exact ⟨_, by rw [← hg], hB, ⟨k, by rw [← hg, hk]; rw [Int.mul_comm]; omega⟩, by omega, by omega⟩

theorem power_c {w : World} (a : Nat) {X : Int} (hX : X = a) (t : Nat) {Y : Int} (hY : Y = t) (n : Nat) {Z : Int} (hZ : Z = n) (ha : a < n) (he : t < 9223372036854775808) (hn : n < 2147483648) :
    Calls Try.prog 94 #[.int .i64 X, .int .i64 Y, .int .i64 Z] w fun e w2 => ∃ v, e = .returned v ∧ (fun v w2 => v = .int .i64 ((a ^ t % n : Nat) : Int) ∧ w.grownBy w2 none) v w2 := by
  have hB := ext_refl w
  refine calls_of_W (vs := [.int .i64 X, .int .i64 Y, .int .i64 Z]) [6] Try.func94 rfl rfl rfl rfl ?_
  refine W.seq ?_
  refine W.region ?_
  refine WL.assign rfl rfl ?_
  refine WL.done ?_
  refine W.seq ?_
  refine W.region ?_
  refine WL.move rfl rfl ?_
  refine WL.rem (r := ((1 % n : Nat) : Int)) rfl rfl (by omega) (tmod_nat (by omega) (by omega)) rfl ?_
  refine WL.assign rfl rfl ?_
  refine WL.done ?_
  refine W.seq ?_
  refine W.block ?_
  refine W.loop (σ := Nat × Nat × Nat) (fun s w1 => match s with | (x, k, r) => w.grownBy w1 none ∧ x < n ∧ k < 9223372036854775808 ∧ r < n ∧ (r * x ^ k) % n = a ^ t % n) (fun s => match s with | (x, k, r) => [(0, .int .i64 ((x : Nat) : Int)), (1, .int .i64 ((k : Nat) : Int)), (2, .int .i64 Z), (7, .int .i64 ((r : Nat) : Int))]) (fun s => match s with | (x, k, r) => k) (a, t, 1 % n) ?_ ?_ ?_
  · exact ⟨hB, ha, he, Nat.mod_lt _ (by omega), by rw [Nat.mod_mul_mod, Nat.one_mul]⟩
  · exact ⟨iv (by omega), iv (by omega), iv (by omega), iv (by omega), trivial⟩
  · rintro ⟨x, k, r⟩ w11 ⟨hB, hx, hk, hr, hpw⟩
    have hxx : x * x < 4611686018427387904 := Nat.lt_of_le_of_lt (Nat.mul_le_mul (show x ≤ 2147483647 by omega) (show x ≤ 2147483647 by omega)) (by decide)
    have hrx : r * x < 4611686018427387904 := Nat.lt_of_le_of_lt (Nat.mul_le_mul (show r ≤ 2147483647 by omega) (show x ≤ 2147483647 by omega)) (by decide)
    refine W.seq ?_
    refine W.seq ?_
    refine W.region ?_
    refine WL.move rfl rfl ?_
    refine WL.gtr rfl rfl rfl (fun c12 => ?_) (fun c12 => ?_)
    · refine WL.done ?_
      refine W.condT rfl ?_
      refine W.skip ?_
      refine W.seq ?_
      refine W.block ?_
      refine W.seq ?_
      refine W.seq ?_
      refine W.region ?_
      refine WL.move rfl rfl ?_
      refine WL.rem (r := ((k % 2 : Nat) : Int)) rfl rfl (by omega) (tmod_nat (by omega) (by omega)) rfl ?_
      refine WL.eql rfl rfl rfl (fun c13 => ?_) (fun c13 => ?_)
      · refine WL.done ?_
        refine W.condT rfl ?_
        refine W.region ?_
        refine WL.move rfl rfl ?_
        refine WL.move rfl rfl ?_
        refine WL.mul (r := ((r * x : Nat) : Int)) rfl rfl (wi64 (by omega) (by omega) (by omega)) rfl ?_
        refine WL.move rfl rfl ?_
        refine WL.rem (r := (((r * x) % n : Nat) : Int)) rfl rfl (by omega) (tmod_nat (by omega) (by omega)) rfl ?_
        refine WL.assign rfl rfl ?_
        refine WL.done ?_
        refine W.region ?_
        refine WL.move rfl rfl ?_
        refine WL.move rfl rfl ?_
        refine WL.mul (r := ((x * x : Nat) : Int)) rfl rfl (wi64 (by omega) (by omega) (by omega)) rfl ?_
        refine WL.move rfl rfl ?_
        refine WL.rem (r := (((x * x) % n : Nat) : Int)) rfl rfl (by omega) (tmod_nat (by omega) (by omega)) rfl ?_
        refine WL.assign rfl rfl ?_
        refine WL.done ?_
        refine W.region ?_
        refine WL.move rfl rfl ?_
        refine WL.quo (r := ((k / 2 : Nat) : Int)) rfl rfl (by omega) (qi64 (by omega) (by omega) (by omega)) rfl ?_
        refine WL.assign rfl rfl ?_
        refine WL.done ?_
        refine ⟨(x * x % n, k / 2, r * x % n), ⟨iv (by omega), iv (by omega), iv (by omega), iv (by omega), trivial⟩, by (dsimp only; omega), ?_⟩
        exact ⟨hB, Nat.mod_lt _ (by omega), by omega, Nat.mod_lt _ (by omega), by rw [pow_odd (by omega)]; exact hpw⟩
      · refine WL.done ?_
        refine W.condF rfl ?_
        refine W.skip ?_
        refine W.region ?_
        refine WL.move rfl rfl ?_
        refine WL.move rfl rfl ?_
        refine WL.mul (r := ((x * x : Nat) : Int)) rfl rfl (wi64 (by omega) (by omega) (by omega)) rfl ?_
        refine WL.move rfl rfl ?_
        refine WL.rem (r := (((x * x) % n : Nat) : Int)) rfl rfl (by omega) (tmod_nat (by omega) (by omega)) rfl ?_
        refine WL.assign rfl rfl ?_
        refine WL.done ?_
        refine W.region ?_
        refine WL.move rfl rfl ?_
        refine WL.quo (r := ((k / 2 : Nat) : Int)) rfl rfl (by omega) (qi64 (by omega) (by omega) (by omega)) rfl ?_
        refine WL.assign rfl rfl ?_
        refine WL.done ?_
        refine ⟨(x * x % n, k / 2, r), ⟨iv (by omega), iv (by omega), iv (by omega), iv (by omega), trivial⟩, by (dsimp only; omega), ?_⟩
        exact ⟨hB, Nat.mod_lt _ (by omega), by omega, hr, by rw [pow_even (by omega)]; exact hpw⟩
    · refine WL.done ?_
      refine W.condF rfl ?_
      refine W.exit ?_
      refine W.seq ?_
      refine W.region ?_
      refine WL.move rfl rfl ?_
      refine WL.assign rfl rfl ?_
      refine WL.done ?_
      refine W.ret ?_
      refine ⟨_, rfl, ?_⟩
      have hk0 : k = 0 := by omega
      subst hk0
      rw [Nat.pow_zero, Nat.mul_one, Nat.mod_eq_of_lt hr] at hpw
      exact ⟨by rw [← hpw], hB⟩

theorem times_c {w : World} (a : Nat) {X : Int} (hX : X = a) (b : Nat) {Y : Int} (hY : Y = b) (m : Nat) {Z : Int} (hZ : Z = m) (ha : a < 9223372036854775808) (hb0 : 0 < b) (hb : b < 9223372036854775808) (hm : m < 9223372036854775808) :
    Calls Try.prog 66 #[.int .i64 X, .int .i64 Y, .int .i64 Z] w fun e w2 => ∃ v, e = .returned v ∧ (fun v w2 => v = .tuple #[.int .i64 (((prS m (a * b)).1 : Nat) : Int), .int .i64 (((prS m (a * b)).2 : Nat) : Int)] ∧ w.grownBy w2 none) v w2 := by
  have hgt := @gt_div a b m hb0
  have hB := ext_refl w
  refine calls_of_W (vs := [.int .i64 X, .int .i64 Y, .int .i64 Z]) [6, 7] Try.func66 rfl rfl rfl rfl ?_
  refine W.seq ?_
  refine W.region ?_
  refine WL.assign rfl rfl ?_
  refine WL.assign rfl rfl ?_
  refine WL.done ?_
  refine W.seq ?_
  refine W.seq ?_
  refine W.region ?_
  refine WL.move rfl rfl ?_
  refine WL.move rfl rfl ?_
  refine WL.move rfl rfl ?_
  refine WL.quo (r := ((m / b : Nat) : Int)) rfl rfl (by omega) (qi64 (by omega) (by omega) (by omega)) rfl ?_
  refine WL.gtr rfl rfl rfl (fun c11 => ?_) (fun c11 => ?_)
  · refine WL.done ?_
    refine W.condT rfl ?_
    refine W.seq ?_
    refine W.region ?_
    refine WL.assign rfl rfl ?_
    refine WL.assign rfl rfl ?_
    refine WL.done ?_
    refine W.ret ?_
    refine ⟨_, rfl, ?_⟩
    first
    | (rw [prS_big (by omega)]; exact ⟨rfl, hB⟩)
    | (rw [prS_ok (by omega)]; exact ⟨rfl, hB⟩)
  · refine WL.done ?_
    refine W.condF rfl ?_
    refine W.skip ?_
    refine W.seq ?_
    refine W.region ?_
    refine WL.move rfl rfl ?_
    refine WL.move rfl rfl ?_
    refine WL.mul (r := ((a * b : Nat) : Int)) rfl rfl (by rw [hX, hY, ← Int.natCast_mul]; exact wi64n (by omega)) rfl ?_
    refine WL.assign rfl rfl ?_
    refine WL.assign rfl rfl ?_
    refine WL.done ?_
    refine W.ret ?_
    refine ⟨_, rfl, ?_⟩
    first
    | (rw [prS_big (by omega)]; exact ⟨rfl, hB⟩)
    | (rw [prS_ok (by omega)]; exact ⟨rfl, hB⟩)
end Go.Proofs.Ytdmgbahognfhbab
set_option linter.unusedSimpArgs false
set_option linter.unusedVariables false
namespace Go.Proofs.Ytdmgbahognfhbab
open Go.RowKit
theorem least_c {w : World} (n : Nat) {X : Int} (hX : X = n) (d : Nat) (hd : IsLf n d) (hn2 : 2 ≤ n) (hn : n < 2147483648) :
    Calls Try.prog 89 #[.int .i64 X] w fun e w2 => ∃ v, e = .returned v ∧ (fun v w2 => v = .int .i64 ((d : Nat) : Int) ∧ w.grownBy w2 none) v w2 := by
  have hB := ext_refl w
  refine calls_of_W (vs := [.int .i64 X]) [2] Try.func89 rfl rfl rfl rfl ?_
  refine W.seq ?_
  refine W.region ?_
  refine WL.assign rfl rfl ?_
  refine WL.done ?_
  refine W.scope ?_
  refine W.seq ?_
  refine W.seq ?_
  refine W.region ?_
  refine WL.buildG (cells := #[.int .i64 (2 : Int), .int .i64 (3 : Int), .int .i64 (5 : Int)]) rfl (by kernel_rfl) rfl ?_
  refine WL.move rfl rfl ?_
  refine WL.done ?_
  refine W.block ?_
  refine W.loop (σ := Nat) (fun j w1 => w.grownBy w1 none ∧ j ≤ 3 ∧ (1 ≤ j → n % 2 ≠ 0) ∧ (2 ≤ j → n % 3 ≠ 0) ∧ (3 ≤ j → n % 5 ≠ 0)) (fun j => [(0, .int .i64 X), (9, .agg #[.int .i64 (2 : Int), .int .i64 (3 : Int), .int .i64 (5 : Int)]), (10, .int .i64 ((j : Nat) : Int))]) (fun j => 3 - j) 0 ?_ ?_ ?_
  · exact ⟨hB, by omega, by omega, by omega, by omega⟩
  · exact ⟨iv (by omega), rfl, iv (by omega), trivial⟩
  · rintro j w11 ⟨hB, hj, g2, g3, g5⟩
    refine W.seq ?_
    refine W.region ?_
    refine WL.lss rfl rfl rfl (fun c12 => ?_) (fun c12 => ?_)
    · refine WL.done ?_
      refine W.seq ?_
      refine W.condT rfl ?_
      refine W.skip ?_
      refine W.seq ?_
      refine W.block ?_
      refine W.seq ?_
      rcases (show j = 0 ∨ j = 1 ∨ j = 2 by omega) with hj3 | hj3 | hj3
      · refine W.region ?_
        refine WL.indexA (j) (v := .int .i64 (2 : Int)) Try.arr55 rfl rfl (by omega) (by omega) (by rw [hj3]; rfl) rfl ?_
        refine WL.assign rfl rfl ?_
        refine WL.done ?_
        refine W.seq ?_
        refine W.region ?_
        refine WL.move rfl rfl ?_
        refine WL.move rfl rfl ?_
        refine WL.rem (r := ((n % 2 : Nat) : Int)) rfl rfl (by omega) (tmod_nat (by omega) (by omega)) rfl ?_
        refine WL.eql rfl rfl rfl (fun c13 => ?_) (fun c13 => ?_)
        · refine WL.done ?_
          refine W.condT rfl ?_
          refine W.seq ?_
          refine W.region ?_
          refine WL.move rfl rfl ?_
          refine WL.assign rfl rfl ?_
          refine WL.done ?_
          refine W.ret ?_
          refine ⟨_, rfl, ?_⟩
          first
          | exact ⟨by congr 1; have h9 := hd.uniq (lf_two (by omega)); omega, hB⟩
          | exact ⟨by congr 1; have h9 := hd.uniq (lf_three (g2 (by omega)) (by omega)); omega, hB⟩
          | exact ⟨by congr 1; have h9 := hd.uniq (lf_five (g2 (by omega)) (g3 (by omega)) (by omega)); omega, hB⟩
          | exact ⟨by congr 1; have h9 := hd.uniq (hnd.lf (by omega) (by omega)); omega, hB⟩
          | exact ⟨by congr 1; have h9 := hd.uniq (hND.self hn2 (by have := Nat.mul_le_mul (show 30 * i ≤ 30 * i + 7 by omega) (show 30 * i ≤ 30 * i + 7 by omega); omega)); omega, hB⟩
        · refine WL.done ?_
          refine W.condF rfl ?_
          refine W.skip ?_
          refine W.region ?_
          refine WL.add (r := ((j + 1 : Nat) : Int)) rfl rfl (wi64 (by omega) (by omega) (by omega)) rfl ?_
          refine WL.move rfl rfl ?_
          refine WL.done ?_
          refine ⟨j + 1, ⟨iv (by omega), rfl, iv (by omega), trivial⟩, by omega, ?_⟩
          exact ⟨hB, by omega, fun _ => by first | omega | exact g2 (by omega), fun _ => by first | omega | exact g3 (by omega), fun _ => by omega⟩
      · refine W.region ?_
        refine WL.indexA (j) (v := .int .i64 (3 : Int)) Try.arr55 rfl rfl (by omega) (by omega) (by rw [hj3]; rfl) rfl ?_
        refine WL.assign rfl rfl ?_
        refine WL.done ?_
        refine W.seq ?_
        refine W.region ?_
        refine WL.move rfl rfl ?_
        refine WL.move rfl rfl ?_
        refine WL.rem (r := ((n % 3 : Nat) : Int)) rfl rfl (by omega) (tmod_nat (by omega) (by omega)) rfl ?_
        refine WL.eql rfl rfl rfl (fun c14 => ?_) (fun c14 => ?_)
        · refine WL.done ?_
          refine W.condT rfl ?_
          refine W.seq ?_
          refine W.region ?_
          refine WL.move rfl rfl ?_
          refine WL.assign rfl rfl ?_
          refine WL.done ?_
          refine W.ret ?_
          refine ⟨_, rfl, ?_⟩
          first
          | exact ⟨by congr 1; have h9 := hd.uniq (lf_two (by omega)); omega, hB⟩
          | exact ⟨by congr 1; have h9 := hd.uniq (lf_three (g2 (by omega)) (by omega)); omega, hB⟩
          | exact ⟨by congr 1; have h9 := hd.uniq (lf_five (g2 (by omega)) (g3 (by omega)) (by omega)); omega, hB⟩
          | exact ⟨by congr 1; have h9 := hd.uniq (hnd.lf (by omega) (by omega)); omega, hB⟩
          | exact ⟨by congr 1; have h9 := hd.uniq (hND.self hn2 (by have := Nat.mul_le_mul (show 30 * i ≤ 30 * i + 7 by omega) (show 30 * i ≤ 30 * i + 7 by omega); omega)); omega, hB⟩
        · refine WL.done ?_
          refine W.condF rfl ?_
          refine W.skip ?_
          refine W.region ?_
          refine WL.add (r := ((j + 1 : Nat) : Int)) rfl rfl (wi64 (by omega) (by omega) (by omega)) rfl ?_
          refine WL.move rfl rfl ?_
          refine WL.done ?_
          refine ⟨j + 1, ⟨iv (by omega), rfl, iv (by omega), trivial⟩, by omega, ?_⟩
          exact ⟨hB, by omega, fun _ => by first | omega | exact g2 (by omega), fun _ => by first | omega | exact g3 (by omega), fun _ => by omega⟩
      · refine W.region ?_
        refine WL.indexA (j) (v := .int .i64 (5 : Int)) Try.arr55 rfl rfl (by omega) (by omega) (by rw [hj3]; rfl) rfl ?_
        refine WL.assign rfl rfl ?_
        refine WL.done ?_
        refine W.seq ?_
        refine W.region ?_
        refine WL.move rfl rfl ?_
        refine WL.move rfl rfl ?_
        refine WL.rem (r := ((n % 5 : Nat) : Int)) rfl rfl (by omega) (tmod_nat (by omega) (by omega)) rfl ?_
        refine WL.eql rfl rfl rfl (fun c15 => ?_) (fun c15 => ?_)
        · refine WL.done ?_
          refine W.condT rfl ?_
          refine W.seq ?_
          refine W.region ?_
          refine WL.move rfl rfl ?_
          refine WL.assign rfl rfl ?_
          refine WL.done ?_
          refine W.ret ?_
          refine ⟨_, rfl, ?_⟩
          first
          | exact ⟨by congr 1; have h9 := hd.uniq (lf_two (by omega)); omega, hB⟩
          | exact ⟨by congr 1; have h9 := hd.uniq (lf_three (g2 (by omega)) (by omega)); omega, hB⟩
          | exact ⟨by congr 1; have h9 := hd.uniq (lf_five (g2 (by omega)) (g3 (by omega)) (by omega)); omega, hB⟩
          | exact ⟨by congr 1; have h9 := hd.uniq (hnd.lf (by omega) (by omega)); omega, hB⟩
          | exact ⟨by congr 1; have h9 := hd.uniq (hND.self hn2 (by have := Nat.mul_le_mul (show 30 * i ≤ 30 * i + 7 by omega) (show 30 * i ≤ 30 * i + 7 by omega); omega)); omega, hB⟩
        · refine WL.done ?_
          refine W.condF rfl ?_
          refine W.skip ?_
          refine W.region ?_
          refine WL.add (r := ((j + 1 : Nat) : Int)) rfl rfl (wi64 (by omega) (by omega) (by omega)) rfl ?_
          refine WL.move rfl rfl ?_
          refine WL.done ?_
          refine ⟨j + 1, ⟨iv (by omega), rfl, iv (by omega), trivial⟩, by omega, ?_⟩
          exact ⟨hB, by omega, fun _ => by first | omega | exact g2 (by omega), fun _ => by first | omega | exact g3 (by omega), fun _ => by omega⟩
    · refine WL.done ?_
      refine W.seq ?_
      refine W.condF rfl ?_
      refine W.exit ?_
      refine W.seq ?_
      refine W.region ?_
      have g2 := g2 (by omega)
      have g3 := g3 (by omega)
      have g5 := g5 (by omega)
      refine WL.move rfl rfl ?_
      refine WL.assign rfl rfl ?_
      refine WL.done ?_
      refine W.seq ?_
      refine W.label ?_
      refine W.seq ?_
      refine W.seq ?_
      refine W.region ?_
      refine WL.assign rfl rfl ?_
      refine WL.done ?_
      refine W.block ?_
      refine W.loop (σ := Nat) (fun i w1 => w.grownBy w1 none ∧ 30 * i ≤ 46370 ∧ NoDiv n (30 * i + 7)) (fun i => [(0, .int .i64 X), (5, .int .i64 X), (6, .int .i64 ((30 * i : Nat) : Int))]) (fun i => 46400 - 30 * i) 0 ?_ ?_ ?_
      · exact ⟨hB, by omega, NoDiv.seven g2 g3 g5⟩
      · exact ⟨iv (by omega), iv (by omega), iv (by omega), trivial⟩
      · rintro i w16 ⟨hB, hi, hND⟩
        have hsl : 30 * i * (30 * i) ≤ 46370 * 46370 := Nat.mul_le_mul hi hi
        refine W.seq ?_
        refine W.seq ?_
        refine W.region ?_
        refine WL.move rfl rfl ?_
        refine WL.move rfl rfl ?_
        refine WL.mul (r := (((30 * i) * (30 * i) : Nat) : Int)) rfl rfl (wi64 (by omega) (by omega) (by omega)) rfl ?_
        refine WL.move rfl rfl ?_
        refine WL.leq rfl rfl rfl (fun c17 => ?_) (fun c17 => ?_)
        · refine WL.done ?_
          refine W.condT rfl ?_
          refine W.skip ?_
          refine W.seq ?_
          refine W.block ?_
          refine W.seq ?_
          refine W.region ?_
          refine WL.buildG (cells := #[.int .i64 (7 : Int), .int .i64 (11 : Int), .int .i64 (13 : Int), .int .i64 (17 : Int), .int .i64 (19 : Int), .int .i64 (23 : Int), .int .i64 (29 : Int), .int .i64 (31 : Int)]) rfl (by kernel_rfl) rfl ?_
          have hb := sq_le (a := 30 * i) (n := n) (by omega) hn
          refine WL.move rfl rfl ?_
          refine WL.done ?_
          refine W.block ?_
          refine W.loop (σ := Nat) (fun m w1 => w.grownBy w1 none ∧ m ≤ 8 ∧ NoDiv n (30 * i + wa m)) (fun m => [(0, .int .i64 X), (5, .int .i64 X), (6, .int .i64 ((30 * i : Nat) : Int)), (27, .agg #[.int .i64 (7 : Int), .int .i64 (11 : Int), .int .i64 (13 : Int), .int .i64 (17 : Int), .int .i64 (19 : Int), .int .i64 (23 : Int), .int .i64 (29 : Int), .int .i64 (31 : Int)]), (28, .int .i64 ((m : Nat) : Int))]) (fun m => 8 - m) 0 ?_ ?_ ?_
          · exact ⟨hB, by omega, hND⟩
          · exact ⟨iv (by omega), iv (by omega), iv (by omega), rfl, iv (by omega), trivial⟩
          · rintro m w18 ⟨hB, hm, hnm⟩
            refine W.seq ?_
            refine W.region ?_
            refine WL.lss rfl rfl rfl (fun c19 => ?_) (fun c19 => ?_)
            · refine WL.done ?_
              refine W.seq ?_
              refine W.condT rfl ?_
              refine W.skip ?_
              refine W.seq ?_
              refine W.block ?_
              refine W.seq ?_
              rcases (show m = 0 ∨ m = 1 ∨ m = 2 ∨ m = 3 ∨ m = 4 ∨ m = 5 ∨ m = 6 ∨ m = 7 by omega) with hm8 | hm8 | hm8 | hm8 | hm8 | hm8 | hm8 | hm8
              · refine W.region ?_
                have hnd : NoDiv n (30 * i + 7) := by have h9 := hnm; rw [hm8] at h9; exact h9
                refine WL.indexA (m) (v := .int .i64 (7 : Int)) Try.arr104 rfl rfl (by omega) (by omega) (by rw [hm8]; rfl) rfl ?_
                refine WL.assign rfl rfl ?_
                refine WL.done ?_
                refine W.seq ?_
                refine W.region ?_
                refine WL.move rfl rfl ?_
                refine WL.move rfl rfl ?_
                refine WL.move rfl rfl ?_
                refine WL.add (r := (((30 * i) + 7 : Nat) : Int)) rfl rfl (wi64 (by omega) (by omega) (by omega)) rfl ?_
                refine WL.rem (r := ((n % ((30 * i) + 7) : Nat) : Int)) rfl rfl (by omega) (tmod_nat (by omega) (by omega)) rfl ?_
                refine WL.eql rfl rfl rfl (fun c20 => ?_) (fun c20 => ?_)
                · refine WL.done ?_
                  refine W.condT rfl ?_
                  refine W.seq ?_
                  refine W.region ?_
                  refine WL.move rfl rfl ?_
                  refine WL.move rfl rfl ?_
                  refine WL.add (r := (((30 * i) + 7 : Nat) : Int)) rfl rfl (wi64 (by omega) (by omega) (by omega)) rfl ?_
                  refine WL.assign rfl rfl ?_
                  refine WL.done ?_
                  refine W.exit ?_
                  refine W.seq ?_
                  refine W.region ?_
                  refine WL.move rfl rfl ?_
                  refine WL.assign rfl rfl ?_
                  refine WL.done ?_
                  refine W.ret ?_
                  refine ⟨_, rfl, ?_⟩
                  first
                  | exact ⟨by congr 1; have h9 := hd.uniq (lf_two (by omega)); omega, hB⟩
                  | exact ⟨by congr 1; have h9 := hd.uniq (lf_three (g2 (by omega)) (by omega)); omega, hB⟩
                  | exact ⟨by congr 1; have h9 := hd.uniq (lf_five (g2 (by omega)) (g3 (by omega)) (by omega)); omega, hB⟩
                  | exact ⟨by congr 1; have h9 := hd.uniq (hnd.lf (by omega) (by omega)); omega, hB⟩
                  | exact ⟨by congr 1; have h9 := hd.uniq (hND.self hn2 (by have := Nat.mul_le_mul (show 30 * i ≤ 30 * i + 7 by omega) (show 30 * i ≤ 30 * i + 7 by omega); omega)); omega, hB⟩
                · refine WL.done ?_
                  refine W.condF rfl ?_
                  refine W.skip ?_
                  refine W.region ?_
                  refine WL.add (r := ((m + 1 : Nat) : Int)) rfl rfl (wi64 (by omega) (by omega) (by omega)) rfl ?_
                  refine WL.move rfl rfl ?_
                  refine WL.done ?_
                  refine ⟨m + 1, ⟨iv (by omega), iv (by omega), iv (by omega), rfl, iv (by omega), trivial⟩, by omega, ?_⟩
                  exact ⟨hB, by omega, by rw [hm8]; show NoDiv n (30 * i + 11); exact hnd.next g2 g3 g5 (by omega) (by intro z h1 h2; rcases (show z = 30 * i + 8 ∨ z = 30 * i + 9 ∨ z = 30 * i + 10 by omega) with rfl | rfl | rfl <;> omega)⟩
              · refine W.region ?_
                have hnd : NoDiv n (30 * i + 11) := by have h9 := hnm; rw [hm8] at h9; exact h9
                refine WL.indexA (m) (v := .int .i64 (11 : Int)) Try.arr104 rfl rfl (by omega) (by omega) (by rw [hm8]; rfl) rfl ?_
                refine WL.assign rfl rfl ?_
                refine WL.done ?_
                refine W.seq ?_
                refine W.region ?_
                refine WL.move rfl rfl ?_
                refine WL.move rfl rfl ?_
                refine WL.move rfl rfl ?_
                refine WL.add (r := (((30 * i) + 11 : Nat) : Int)) rfl rfl (wi64 (by omega) (by omega) (by omega)) rfl ?_
                refine WL.rem (r := ((n % ((30 * i) + 11) : Nat) : Int)) rfl rfl (by omega) (tmod_nat (by omega) (by omega)) rfl ?_
                refine WL.eql rfl rfl rfl (fun c21 => ?_) (fun c21 => ?_)
                · refine WL.done ?_
                  refine W.condT rfl ?_
                  refine W.seq ?_
                  refine W.region ?_
                  refine WL.move rfl rfl ?_
                  refine WL.move rfl rfl ?_
                  refine WL.add (r := (((30 * i) + 11 : Nat) : Int)) rfl rfl (wi64 (by omega) (by omega) (by omega)) rfl ?_
                  refine WL.assign rfl rfl ?_
                  refine WL.done ?_
                  refine W.exit ?_
                  refine W.seq ?_
                  refine W.region ?_
                  refine WL.move rfl rfl ?_
                  refine WL.assign rfl rfl ?_
                  refine WL.done ?_
                  refine W.ret ?_
                  refine ⟨_, rfl, ?_⟩
                  first
                  | exact ⟨by congr 1; have h9 := hd.uniq (lf_two (by omega)); omega, hB⟩
                  | exact ⟨by congr 1; have h9 := hd.uniq (lf_three (g2 (by omega)) (by omega)); omega, hB⟩
                  | exact ⟨by congr 1; have h9 := hd.uniq (lf_five (g2 (by omega)) (g3 (by omega)) (by omega)); omega, hB⟩
                  | exact ⟨by congr 1; have h9 := hd.uniq (hnd.lf (by omega) (by omega)); omega, hB⟩
                  | exact ⟨by congr 1; have h9 := hd.uniq (hND.self hn2 (by have := Nat.mul_le_mul (show 30 * i ≤ 30 * i + 7 by omega) (show 30 * i ≤ 30 * i + 7 by omega); omega)); omega, hB⟩
                · refine WL.done ?_
                  refine W.condF rfl ?_
                  refine W.skip ?_
                  refine W.region ?_
                  refine WL.add (r := ((m + 1 : Nat) : Int)) rfl rfl (wi64 (by omega) (by omega) (by omega)) rfl ?_
                  refine WL.move rfl rfl ?_
                  refine WL.done ?_
                  refine ⟨m + 1, ⟨iv (by omega), iv (by omega), iv (by omega), rfl, iv (by omega), trivial⟩, by omega, ?_⟩
                  exact ⟨hB, by omega, by rw [hm8]; show NoDiv n (30 * i + 13); exact hnd.next g2 g3 g5 (by omega) (by intro z h1 h2; rcases (show z = 30 * i + 12 by omega) with rfl <;> omega)⟩
              · refine W.region ?_
                have hnd : NoDiv n (30 * i + 13) := by have h9 := hnm; rw [hm8] at h9; exact h9
                refine WL.indexA (m) (v := .int .i64 (13 : Int)) Try.arr104 rfl rfl (by omega) (by omega) (by rw [hm8]; rfl) rfl ?_
                refine WL.assign rfl rfl ?_
                refine WL.done ?_
                refine W.seq ?_
                refine W.region ?_
                refine WL.move rfl rfl ?_
                refine WL.move rfl rfl ?_
                refine WL.move rfl rfl ?_
                refine WL.add (r := (((30 * i) + 13 : Nat) : Int)) rfl rfl (wi64 (by omega) (by omega) (by omega)) rfl ?_
                refine WL.rem (r := ((n % ((30 * i) + 13) : Nat) : Int)) rfl rfl (by omega) (tmod_nat (by omega) (by omega)) rfl ?_
                refine WL.eql rfl rfl rfl (fun c22 => ?_) (fun c22 => ?_)
                · refine WL.done ?_
                  refine W.condT rfl ?_
                  refine W.seq ?_
                  refine W.region ?_
                  refine WL.move rfl rfl ?_
                  refine WL.move rfl rfl ?_
                  refine WL.add (r := (((30 * i) + 13 : Nat) : Int)) rfl rfl (wi64 (by omega) (by omega) (by omega)) rfl ?_
                  refine WL.assign rfl rfl ?_
                  refine WL.done ?_
                  refine W.exit ?_
                  refine W.seq ?_
                  refine W.region ?_
                  refine WL.move rfl rfl ?_
                  refine WL.assign rfl rfl ?_
                  refine WL.done ?_
                  refine W.ret ?_
                  refine ⟨_, rfl, ?_⟩
                  first
                  | exact ⟨by congr 1; have h9 := hd.uniq (lf_two (by omega)); omega, hB⟩
                  | exact ⟨by congr 1; have h9 := hd.uniq (lf_three (g2 (by omega)) (by omega)); omega, hB⟩
                  | exact ⟨by congr 1; have h9 := hd.uniq (lf_five (g2 (by omega)) (g3 (by omega)) (by omega)); omega, hB⟩
                  | exact ⟨by congr 1; have h9 := hd.uniq (hnd.lf (by omega) (by omega)); omega, hB⟩
                  | exact ⟨by congr 1; have h9 := hd.uniq (hND.self hn2 (by have := Nat.mul_le_mul (show 30 * i ≤ 30 * i + 7 by omega) (show 30 * i ≤ 30 * i + 7 by omega); omega)); omega, hB⟩
                · refine WL.done ?_
                  refine W.condF rfl ?_
                  refine W.skip ?_
                  refine W.region ?_
                  refine WL.add (r := ((m + 1 : Nat) : Int)) rfl rfl (wi64 (by omega) (by omega) (by omega)) rfl ?_
                  refine WL.move rfl rfl ?_
                  refine WL.done ?_
                  refine ⟨m + 1, ⟨iv (by omega), iv (by omega), iv (by omega), rfl, iv (by omega), trivial⟩, by omega, ?_⟩
                  exact ⟨hB, by omega, by rw [hm8]; show NoDiv n (30 * i + 17); exact hnd.next g2 g3 g5 (by omega) (by intro z h1 h2; rcases (show z = 30 * i + 14 ∨ z = 30 * i + 15 ∨ z = 30 * i + 16 by omega) with rfl | rfl | rfl <;> omega)⟩
              · refine W.region ?_
                have hnd : NoDiv n (30 * i + 17) := by have h9 := hnm; rw [hm8] at h9; exact h9
                refine WL.indexA (m) (v := .int .i64 (17 : Int)) Try.arr104 rfl rfl (by omega) (by omega) (by rw [hm8]; rfl) rfl ?_
                refine WL.assign rfl rfl ?_
                refine WL.done ?_
                refine W.seq ?_
                refine W.region ?_
                refine WL.move rfl rfl ?_
                refine WL.move rfl rfl ?_
                refine WL.move rfl rfl ?_
                refine WL.add (r := (((30 * i) + 17 : Nat) : Int)) rfl rfl (wi64 (by omega) (by omega) (by omega)) rfl ?_
                refine WL.rem (r := ((n % ((30 * i) + 17) : Nat) : Int)) rfl rfl (by omega) (tmod_nat (by omega) (by omega)) rfl ?_
                refine WL.eql rfl rfl rfl (fun c23 => ?_) (fun c23 => ?_)
                · refine WL.done ?_
                  refine W.condT rfl ?_
                  refine W.seq ?_
                  refine W.region ?_
                  refine WL.move rfl rfl ?_
                  refine WL.move rfl rfl ?_
                  refine WL.add (r := (((30 * i) + 17 : Nat) : Int)) rfl rfl (wi64 (by omega) (by omega) (by omega)) rfl ?_
                  refine WL.assign rfl rfl ?_
                  refine WL.done ?_
                  refine W.exit ?_
                  refine W.seq ?_
                  refine W.region ?_
                  refine WL.move rfl rfl ?_
                  refine WL.assign rfl rfl ?_
                  refine WL.done ?_
                  refine W.ret ?_
                  refine ⟨_, rfl, ?_⟩
                  first
                  | exact ⟨by congr 1; have h9 := hd.uniq (lf_two (by omega)); omega, hB⟩
                  | exact ⟨by congr 1; have h9 := hd.uniq (lf_three (g2 (by omega)) (by omega)); omega, hB⟩
                  | exact ⟨by congr 1; have h9 := hd.uniq (lf_five (g2 (by omega)) (g3 (by omega)) (by omega)); omega, hB⟩
                  | exact ⟨by congr 1; have h9 := hd.uniq (hnd.lf (by omega) (by omega)); omega, hB⟩
                  | exact ⟨by congr 1; have h9 := hd.uniq (hND.self hn2 (by have := Nat.mul_le_mul (show 30 * i ≤ 30 * i + 7 by omega) (show 30 * i ≤ 30 * i + 7 by omega); omega)); omega, hB⟩
                · refine WL.done ?_
                  refine W.condF rfl ?_
                  refine W.skip ?_
                  refine W.region ?_
                  refine WL.add (r := ((m + 1 : Nat) : Int)) rfl rfl (wi64 (by omega) (by omega) (by omega)) rfl ?_
                  refine WL.move rfl rfl ?_
                  refine WL.done ?_
                  refine ⟨m + 1, ⟨iv (by omega), iv (by omega), iv (by omega), rfl, iv (by omega), trivial⟩, by omega, ?_⟩
                  exact ⟨hB, by omega, by rw [hm8]; show NoDiv n (30 * i + 19); exact hnd.next g2 g3 g5 (by omega) (by intro z h1 h2; rcases (show z = 30 * i + 18 by omega) with rfl <;> omega)⟩
              · refine W.region ?_
                have hnd : NoDiv n (30 * i + 19) := by have h9 := hnm; rw [hm8] at h9; exact h9
                refine WL.indexA (m) (v := .int .i64 (19 : Int)) Try.arr104 rfl rfl (by omega) (by omega) (by rw [hm8]; rfl) rfl ?_
                refine WL.assign rfl rfl ?_
                refine WL.done ?_
                refine W.seq ?_
                refine W.region ?_
                refine WL.move rfl rfl ?_
                refine WL.move rfl rfl ?_
                refine WL.move rfl rfl ?_
                refine WL.add (r := (((30 * i) + 19 : Nat) : Int)) rfl rfl (wi64 (by omega) (by omega) (by omega)) rfl ?_
                refine WL.rem (r := ((n % ((30 * i) + 19) : Nat) : Int)) rfl rfl (by omega) (tmod_nat (by omega) (by omega)) rfl ?_
                refine WL.eql rfl rfl rfl (fun c24 => ?_) (fun c24 => ?_)
                · refine WL.done ?_
                  refine W.condT rfl ?_
                  refine W.seq ?_
                  refine W.region ?_
                  refine WL.move rfl rfl ?_
                  refine WL.move rfl rfl ?_
                  refine WL.add (r := (((30 * i) + 19 : Nat) : Int)) rfl rfl (wi64 (by omega) (by omega) (by omega)) rfl ?_
                  refine WL.assign rfl rfl ?_
                  refine WL.done ?_
                  refine W.exit ?_
                  refine W.seq ?_
                  refine W.region ?_
                  refine WL.move rfl rfl ?_
                  refine WL.assign rfl rfl ?_
                  refine WL.done ?_
                  refine W.ret ?_
                  refine ⟨_, rfl, ?_⟩
                  first
                  | exact ⟨by congr 1; have h9 := hd.uniq (lf_two (by omega)); omega, hB⟩
                  | exact ⟨by congr 1; have h9 := hd.uniq (lf_three (g2 (by omega)) (by omega)); omega, hB⟩
                  | exact ⟨by congr 1; have h9 := hd.uniq (lf_five (g2 (by omega)) (g3 (by omega)) (by omega)); omega, hB⟩
                  | exact ⟨by congr 1; have h9 := hd.uniq (hnd.lf (by omega) (by omega)); omega, hB⟩
                  | exact ⟨by congr 1; have h9 := hd.uniq (hND.self hn2 (by have := Nat.mul_le_mul (show 30 * i ≤ 30 * i + 7 by omega) (show 30 * i ≤ 30 * i + 7 by omega); omega)); omega, hB⟩
                · refine WL.done ?_
                  refine W.condF rfl ?_
                  refine W.skip ?_
                  refine W.region ?_
                  refine WL.add (r := ((m + 1 : Nat) : Int)) rfl rfl (wi64 (by omega) (by omega) (by omega)) rfl ?_
                  refine WL.move rfl rfl ?_
                  refine WL.done ?_
                  refine ⟨m + 1, ⟨iv (by omega), iv (by omega), iv (by omega), rfl, iv (by omega), trivial⟩, by omega, ?_⟩
                  exact ⟨hB, by omega, by rw [hm8]; show NoDiv n (30 * i + 23); exact hnd.next g2 g3 g5 (by omega) (by intro z h1 h2; rcases (show z = 30 * i + 20 ∨ z = 30 * i + 21 ∨ z = 30 * i + 22 by omega) with rfl | rfl | rfl <;> omega)⟩
              · refine W.region ?_
                have hnd : NoDiv n (30 * i + 23) := by have h9 := hnm; rw [hm8] at h9; exact h9
                refine WL.indexA (m) (v := .int .i64 (23 : Int)) Try.arr104 rfl rfl (by omega) (by omega) (by rw [hm8]; rfl) rfl ?_
                refine WL.assign rfl rfl ?_
                refine WL.done ?_
                refine W.seq ?_
                refine W.region ?_
                refine WL.move rfl rfl ?_
                refine WL.move rfl rfl ?_
                refine WL.move rfl rfl ?_
                refine WL.add (r := (((30 * i) + 23 : Nat) : Int)) rfl rfl (wi64 (by omega) (by omega) (by omega)) rfl ?_
                refine WL.rem (r := ((n % ((30 * i) + 23) : Nat) : Int)) rfl rfl (by omega) (tmod_nat (by omega) (by omega)) rfl ?_
                refine WL.eql rfl rfl rfl (fun c25 => ?_) (fun c25 => ?_)
                · refine WL.done ?_
                  refine W.condT rfl ?_
                  refine W.seq ?_
                  refine W.region ?_
                  refine WL.move rfl rfl ?_
                  refine WL.move rfl rfl ?_
                  refine WL.add (r := (((30 * i) + 23 : Nat) : Int)) rfl rfl (wi64 (by omega) (by omega) (by omega)) rfl ?_
                  refine WL.assign rfl rfl ?_
                  refine WL.done ?_
                  refine W.exit ?_
                  refine W.seq ?_
                  refine W.region ?_
                  refine WL.move rfl rfl ?_
                  refine WL.assign rfl rfl ?_
                  refine WL.done ?_
                  refine W.ret ?_
                  refine ⟨_, rfl, ?_⟩
                  first
                  | exact ⟨by congr 1; have h9 := hd.uniq (lf_two (by omega)); omega, hB⟩
                  | exact ⟨by congr 1; have h9 := hd.uniq (lf_three (g2 (by omega)) (by omega)); omega, hB⟩
                  | exact ⟨by congr 1; have h9 := hd.uniq (lf_five (g2 (by omega)) (g3 (by omega)) (by omega)); omega, hB⟩
                  | exact ⟨by congr 1; have h9 := hd.uniq (hnd.lf (by omega) (by omega)); omega, hB⟩
                  | exact ⟨by congr 1; have h9 := hd.uniq (hND.self hn2 (by have := Nat.mul_le_mul (show 30 * i ≤ 30 * i + 7 by omega) (show 30 * i ≤ 30 * i + 7 by omega); omega)); omega, hB⟩
                · refine WL.done ?_
                  refine W.condF rfl ?_
                  refine W.skip ?_
                  refine W.region ?_
                  refine WL.add (r := ((m + 1 : Nat) : Int)) rfl rfl (wi64 (by omega) (by omega) (by omega)) rfl ?_
                  refine WL.move rfl rfl ?_
                  refine WL.done ?_
                  refine ⟨m + 1, ⟨iv (by omega), iv (by omega), iv (by omega), rfl, iv (by omega), trivial⟩, by omega, ?_⟩
                  exact ⟨hB, by omega, by rw [hm8]; show NoDiv n (30 * i + 29); exact hnd.next g2 g3 g5 (by omega) (by intro z h1 h2; rcases (show z = 30 * i + 24 ∨ z = 30 * i + 25 ∨ z = 30 * i + 26 ∨ z = 30 * i + 27 ∨ z = 30 * i + 28 by omega) with rfl | rfl | rfl | rfl | rfl <;> omega)⟩
              · refine W.region ?_
                have hnd : NoDiv n (30 * i + 29) := by have h9 := hnm; rw [hm8] at h9; exact h9
                refine WL.indexA (m) (v := .int .i64 (29 : Int)) Try.arr104 rfl rfl (by omega) (by omega) (by rw [hm8]; rfl) rfl ?_
                refine WL.assign rfl rfl ?_
                refine WL.done ?_
                refine W.seq ?_
                refine W.region ?_
                refine WL.move rfl rfl ?_
                refine WL.move rfl rfl ?_
                refine WL.move rfl rfl ?_
                refine WL.add (r := (((30 * i) + 29 : Nat) : Int)) rfl rfl (wi64 (by omega) (by omega) (by omega)) rfl ?_
                refine WL.rem (r := ((n % ((30 * i) + 29) : Nat) : Int)) rfl rfl (by omega) (tmod_nat (by omega) (by omega)) rfl ?_
                refine WL.eql rfl rfl rfl (fun c26 => ?_) (fun c26 => ?_)
                · refine WL.done ?_
                  refine W.condT rfl ?_
                  refine W.seq ?_
                  refine W.region ?_
                  refine WL.move rfl rfl ?_
                  refine WL.move rfl rfl ?_
                  refine WL.add (r := (((30 * i) + 29 : Nat) : Int)) rfl rfl (wi64 (by omega) (by omega) (by omega)) rfl ?_
                  refine WL.assign rfl rfl ?_
                  refine WL.done ?_
                  refine W.exit ?_
                  refine W.seq ?_
                  refine W.region ?_
                  refine WL.move rfl rfl ?_
                  refine WL.assign rfl rfl ?_
                  refine WL.done ?_
                  refine W.ret ?_
                  refine ⟨_, rfl, ?_⟩
                  first
                  | exact ⟨by congr 1; have h9 := hd.uniq (lf_two (by omega)); omega, hB⟩
                  | exact ⟨by congr 1; have h9 := hd.uniq (lf_three (g2 (by omega)) (by omega)); omega, hB⟩
                  | exact ⟨by congr 1; have h9 := hd.uniq (lf_five (g2 (by omega)) (g3 (by omega)) (by omega)); omega, hB⟩
                  | exact ⟨by congr 1; have h9 := hd.uniq (hnd.lf (by omega) (by omega)); omega, hB⟩
                  | exact ⟨by congr 1; have h9 := hd.uniq (hND.self hn2 (by have := Nat.mul_le_mul (show 30 * i ≤ 30 * i + 7 by omega) (show 30 * i ≤ 30 * i + 7 by omega); omega)); omega, hB⟩
                · refine WL.done ?_
                  refine W.condF rfl ?_
                  refine W.skip ?_
                  refine W.region ?_
                  refine WL.add (r := ((m + 1 : Nat) : Int)) rfl rfl (wi64 (by omega) (by omega) (by omega)) rfl ?_
                  refine WL.move rfl rfl ?_
                  refine WL.done ?_
                  refine ⟨m + 1, ⟨iv (by omega), iv (by omega), iv (by omega), rfl, iv (by omega), trivial⟩, by omega, ?_⟩
                  exact ⟨hB, by omega, by rw [hm8]; show NoDiv n (30 * i + 31); exact hnd.next g2 g3 g5 (by omega) (by intro z h1 h2; rcases (show z = 30 * i + 30 by omega) with rfl <;> omega)⟩
              · refine W.region ?_
                have hnd : NoDiv n (30 * i + 31) := by have h9 := hnm; rw [hm8] at h9; exact h9
                refine WL.indexA (m) (v := .int .i64 (31 : Int)) Try.arr104 rfl rfl (by omega) (by omega) (by rw [hm8]; rfl) rfl ?_
                refine WL.assign rfl rfl ?_
                refine WL.done ?_
                refine W.seq ?_
                refine W.region ?_
                refine WL.move rfl rfl ?_
                refine WL.move rfl rfl ?_
                refine WL.move rfl rfl ?_
                refine WL.add (r := (((30 * i) + 31 : Nat) : Int)) rfl rfl (wi64 (by omega) (by omega) (by omega)) rfl ?_
                refine WL.rem (r := ((n % ((30 * i) + 31) : Nat) : Int)) rfl rfl (by omega) (tmod_nat (by omega) (by omega)) rfl ?_
                refine WL.eql rfl rfl rfl (fun c27 => ?_) (fun c27 => ?_)
                · refine WL.done ?_
                  refine W.condT rfl ?_
                  refine W.seq ?_
                  refine W.region ?_
                  refine WL.move rfl rfl ?_
                  refine WL.move rfl rfl ?_
                  refine WL.add (r := (((30 * i) + 31 : Nat) : Int)) rfl rfl (wi64 (by omega) (by omega) (by omega)) rfl ?_
                  refine WL.assign rfl rfl ?_
                  refine WL.done ?_
                  refine W.exit ?_
                  refine W.seq ?_
                  refine W.region ?_
                  refine WL.move rfl rfl ?_
                  refine WL.assign rfl rfl ?_
                  refine WL.done ?_
                  refine W.ret ?_
                  refine ⟨_, rfl, ?_⟩
                  first
                  | exact ⟨by congr 1; have h9 := hd.uniq (lf_two (by omega)); omega, hB⟩
                  | exact ⟨by congr 1; have h9 := hd.uniq (lf_three (g2 (by omega)) (by omega)); omega, hB⟩
                  | exact ⟨by congr 1; have h9 := hd.uniq (lf_five (g2 (by omega)) (g3 (by omega)) (by omega)); omega, hB⟩
                  | exact ⟨by congr 1; have h9 := hd.uniq (hnd.lf (by omega) (by omega)); omega, hB⟩
                  | exact ⟨by congr 1; have h9 := hd.uniq (hND.self hn2 (by have := Nat.mul_le_mul (show 30 * i ≤ 30 * i + 7 by omega) (show 30 * i ≤ 30 * i + 7 by omega); omega)); omega, hB⟩
                · refine WL.done ?_
                  refine W.condF rfl ?_
                  refine W.skip ?_
                  refine W.region ?_
                  refine WL.add (r := ((m + 1 : Nat) : Int)) rfl rfl (wi64 (by omega) (by omega) (by omega)) rfl ?_
                  refine WL.move rfl rfl ?_
                  refine WL.done ?_
                  refine ⟨m + 1, ⟨iv (by omega), iv (by omega), iv (by omega), rfl, iv (by omega), trivial⟩, by omega, ?_⟩
                  exact ⟨hB, by omega, by rw [hm8]; show NoDiv n (30 * i + 37); exact hnd.next g2 g3 g5 (by omega) (by intro z h1 h2; rcases (show z = 30 * i + 32 ∨ z = 30 * i + 33 ∨ z = 30 * i + 34 ∨ z = 30 * i + 35 ∨ z = 30 * i + 36 by omega) with rfl | rfl | rfl | rfl | rfl <;> omega)⟩
            · refine WL.done ?_
              refine W.seq ?_
              refine W.condF rfl ?_
              refine W.exit ?_
              refine W.region ?_
              refine WL.move rfl rfl ?_
              refine WL.add (r := (((30 * i) + 30 : Nat) : Int)) rfl rfl (wi64 (by omega) (by omega) (by omega)) rfl ?_
              refine WL.assign rfl rfl ?_
              refine WL.done ?_
              refine ⟨i + 1, ⟨iv (by omega), iv (by omega), iv (by omega), trivial⟩, by omega, ?_⟩
              have hm : m = 8 := by omega
              subst hm
              exact ⟨hB, by omega, by have h9 : NoDiv n (30 * i + 37) := hnm; rw [show 30 * (i + 1) + 7 = 30 * i + 37 by omega]; exact h9⟩
        · refine WL.done ?_
          refine W.condF rfl ?_
          refine W.exit ?_
          refine W.seq ?_
          refine W.region ?_
          refine WL.move rfl rfl ?_
          refine WL.assign rfl rfl ?_
          refine WL.done ?_
          refine W.ret ?_
          refine ⟨_, rfl, ?_⟩
          first
          | exact ⟨by congr 1; have h9 := hd.uniq (lf_two (by omega)); omega, hB⟩
          | exact ⟨by congr 1; have h9 := hd.uniq (lf_three (g2 (by omega)) (by omega)); omega, hB⟩
          | exact ⟨by congr 1; have h9 := hd.uniq (lf_five (g2 (by omega)) (g3 (by omega)) (by omega)); omega, hB⟩
          | exact ⟨by congr 1; have h9 := hd.uniq (hnd.lf (by omega) (by omega)); omega, hB⟩
          | exact ⟨by congr 1; have h9 := hd.uniq (hND.self hn2 (by have := Nat.mul_le_mul (show 30 * i ≤ 30 * i + 7 by omega) (show 30 * i ≤ 30 * i + 7 by omega); omega)); omega, hB⟩

theorem Prime_in {w : World} {X : Int} (hX : -9223372036854775808 ≤ X ∧ X ≤ 9223372036854775807) (d : Nat) (hd : IsLf X.toNat d) (hXr : 2 ≤ X ∧ X ≤ 2147483647) :
    Calls Try.prog 65 #[.int .i64 X] w fun e w2 => ∃ v, e = .returned v ∧ (fun v w2 => ∃ b : Bool, v = .bool b ∧ w.grownBy w2 none ∧ (b = true → IsPr X) ∧ (b = false → ¬ IsPr X)) v w2 := by
  have hB := ext_refl w
  refine calls_of_W (vs := [.int .i64 X]) [2] Try.func65 rfl rfl rfl rfl ?_
  refine W.seq ?_
  refine W.region ?_
  refine WL.assign rfl rfl ?_
  refine WL.done ?_
  refine W.seq ?_
  refine W.region ?_
  refine WL.move rfl rfl ?_
  refine WL.geq rfl rfl rfl (fun c11 => ?_) (fun c11 => ?_)
  · refine WL.move rfl rfl ?_
    refine WL.take rfl ?_
    refine WL.move rfl rfl ?_
    refine WL.take rfl ?_
    refine WL.leq rfl rfl rfl (fun c12 => ?_) (fun c12 => ?_)
    · refine WL.pick rfl rfl rfl ?_
      refine WL.move rfl rfl ?_
      refine WL.take rfl ?_
      refine WL.move rfl rfl ?_
      refine WL.take rfl ?_
      refine WL.call Try.func89 rfl Try.nm89 rfl rfl (least_c X.toNat (by omega) d hd (by omega) (by omega)) ?_
      rintro _ w13 ⟨rfl, hGw13⟩
      have hB := ext_trans hB hGw13
      refine WL.take rfl ?_
      refine WL.move rfl rfl ?_
      refine WL.take rfl ?_
      refine WL.eql rfl rfl rfl (fun c14 => ?_) (fun c14 => ?_)
      · refine WL.pick rfl rfl rfl ?_
        refine WL.assign rfl rfl ?_
        refine WL.done ?_
        refine W.ret ?_
        refine ⟨_, rfl, ?_⟩
        first
        | exact ⟨true, rfl, hB, (fun _ => ⟨hXr.1, hXr.2, (by have h9 : d = X.toNat := (by omega); rw [h9] at hd; exact hd)⟩), fun h => by cases h⟩
        | exact ⟨false, rfl, hB, (fun h => by cases h), fun _ h => by have := h.2.2.uniq hd; omega⟩
        | (exfalso; omega)
      · refine WL.pick rfl rfl rfl ?_
        refine WL.assign rfl rfl ?_
        refine WL.done ?_
        refine W.ret ?_
        refine ⟨_, rfl, ?_⟩
        first
        | exact ⟨true, rfl, hB, (fun _ => ⟨hXr.1, hXr.2, (by have h9 : d = X.toNat := (by omega); rw [h9] at hd; exact hd)⟩), fun h => by cases h⟩
        | exact ⟨false, rfl, hB, (fun h => by cases h), fun _ h => by have := h.2.2.uniq hd; omega⟩
        | (exfalso; omega)
    · refine WL.pick rfl rfl rfl ?_
      refine WL.move rfl rfl ?_
      refine WL.pass rfl rfl rfl ?_
      refine WL.pass rfl rfl rfl ?_
      refine WL.pass rfl rfl rfl ?_
      refine WL.pass rfl rfl rfl ?_
      refine WL.pick rfl rfl rfl ?_
      refine WL.assign rfl rfl ?_
      refine WL.done ?_
      refine W.ret ?_
      refine ⟨_, rfl, ?_⟩
      first
      | exact ⟨true, rfl, hB, (fun _ => ⟨hXr.1, hXr.2, (by have h9 : d = X.toNat := (by omega); rw [h9] at hd; exact hd)⟩), fun h => by cases h⟩
      | exact ⟨false, rfl, hB, (fun h => by cases h), fun _ h => by have := h.2.2.uniq hd; omega⟩
      | (exfalso; omega)
  · refine WL.move rfl rfl ?_
    refine WL.pass rfl rfl rfl ?_
    refine WL.pass rfl rfl rfl ?_
    refine WL.pick rfl rfl rfl ?_
    refine WL.move rfl rfl ?_
    refine WL.pass rfl rfl rfl ?_
    refine WL.pass rfl rfl rfl ?_
    refine WL.pass rfl rfl rfl ?_
    refine WL.pass rfl rfl rfl ?_
    refine WL.pick rfl rfl rfl ?_
    refine WL.assign rfl rfl ?_
    refine WL.done ?_
    refine W.ret ?_
    refine ⟨_, rfl, ?_⟩
    first
    | exact ⟨true, rfl, hB, (fun _ => ⟨hXr.1, hXr.2, (by have h9 : d = X.toNat := (by omega); rw [h9] at hd; exact hd)⟩), fun h => by cases h⟩
    | exact ⟨false, rfl, hB, (fun h => by cases h), fun _ h => by have := h.2.2.uniq hd; omega⟩
    | (exfalso; omega)

theorem Prime_out {w : World} {X : Int} (hX : -9223372036854775808 ≤ X ∧ X ≤ 9223372036854775807) (hXo : ¬ (2 ≤ X ∧ X ≤ 2147483647)) :
    Calls Try.prog 65 #[.int .i64 X] w fun e w2 => ∃ v, e = .returned v ∧ (fun v w2 => ∃ b : Bool, v = .bool b ∧ w.grownBy w2 none ∧ (b = true → IsPr X) ∧ (b = false → ¬ IsPr X)) v w2 := by
  have hB := ext_refl w
  refine calls_of_W (vs := [.int .i64 X]) [2] Try.func65 rfl rfl rfl rfl ?_
  refine W.seq ?_
  refine W.region ?_
  refine WL.assign rfl rfl ?_
  refine WL.done ?_
  refine W.seq ?_
  refine W.region ?_
  refine WL.move rfl rfl ?_
  refine WL.geq rfl rfl rfl (fun c11 => ?_) (fun c11 => ?_)
  · refine WL.move rfl rfl ?_
    refine WL.take rfl ?_
    refine WL.move rfl rfl ?_
    refine WL.take rfl ?_
    refine WL.leq rfl rfl rfl (fun c12 => ?_) (fun c12 => ?_)
    · refine WL.pick rfl rfl rfl ?_
      refine WL.move rfl rfl ?_
      refine WL.take rfl ?_
      refine WL.move rfl rfl ?_
      refine WL.take rfl ?_
      refine WL.call Try.func89 rfl Try.nm89 rfl rfl (least_c X.toNat (by omega) 0 (absurd (show 2 ≤ X ∧ X ≤ 2147483647 by omega) hXo) (by omega) (by omega)) ?_
      rintro _ w13 ⟨rfl, hGw13⟩
      have hB := ext_trans hB hGw13
      refine WL.take rfl ?_
      refine WL.move rfl rfl ?_
      refine WL.take rfl ?_
      refine WL.eql rfl rfl rfl (fun c14 => ?_) (fun c14 => ?_)
      · refine WL.pick rfl rfl rfl ?_
        refine WL.assign rfl rfl ?_
        refine WL.done ?_
        refine W.ret ?_
        refine ⟨_, rfl, ?_⟩
        first
        | exact ⟨false, rfl, hB, (fun h => by cases h), fun _ h => hXo ⟨h.1, h.2.1⟩⟩
        | (exfalso; omega)
      · refine WL.pick rfl rfl rfl ?_
        refine WL.assign rfl rfl ?_
        refine WL.done ?_
        refine W.ret ?_
        refine ⟨_, rfl, ?_⟩
        first
        | exact ⟨false, rfl, hB, (fun h => by cases h), fun _ h => hXo ⟨h.1, h.2.1⟩⟩
        | (exfalso; omega)
    · refine WL.pick rfl rfl rfl ?_
      refine WL.move rfl rfl ?_
      refine WL.pass rfl rfl rfl ?_
      refine WL.pass rfl rfl rfl ?_
      refine WL.pass rfl rfl rfl ?_
      refine WL.pass rfl rfl rfl ?_
      refine WL.pick rfl rfl rfl ?_
      refine WL.assign rfl rfl ?_
      refine WL.done ?_
      refine W.ret ?_
      refine ⟨_, rfl, ?_⟩
      first
      | exact ⟨false, rfl, hB, (fun h => by cases h), fun _ h => hXo ⟨h.1, h.2.1⟩⟩
      | (exfalso; omega)
  · refine WL.move rfl rfl ?_
    refine WL.pass rfl rfl rfl ?_
    refine WL.pass rfl rfl rfl ?_
    refine WL.pick rfl rfl rfl ?_
    refine WL.move rfl rfl ?_
    refine WL.pass rfl rfl rfl ?_
    refine WL.pass rfl rfl rfl ?_
    refine WL.pass rfl rfl rfl ?_
    refine WL.pass rfl rfl rfl ?_
    refine WL.pick rfl rfl rfl ?_
    refine WL.assign rfl rfl ?_
    refine WL.done ?_
    refine W.ret ?_
    refine ⟨_, rfl, ?_⟩
    first
    | exact ⟨false, rfl, hB, (fun h => by cases h), fun _ h => hXo ⟨h.1, h.2.1⟩⟩
    | (exfalso; omega)

theorem Prime_c {w : World} {X : Int} (hX : -9223372036854775808 ≤ X ∧ X ≤ 9223372036854775807) : Calls Try.prog 65 #[.int .i64 X] w fun e w2 => ∃ v, e = .returned v ∧ (fun v w2 => ∃ b : Bool, v = .bool b ∧ w.grownBy w2 none ∧ (b = true → IsPr X) ∧ (b = false → ¬ IsPr X)) v w2 := by
  by_cases h : 2 ≤ X ∧ X ≤ 2147483647
  · obtain ⟨d, hd⟩ := lf_exists (n := X.toNat) (by omega)
    exact Prime_in hX d hd h
  · exact Prime_out hX h

theorem Factor_ok {w : World} (n : Nat) {X : Int} (hX : X = n) (L : List (Nat × Nat)) (hF : IsFac n L) (hn1 : 1 ≤ n) (hn : n < 2147483648) :
    Calls Try.prog 55 #[.int .i64 X] w fun e w2 => ∃ v, e = .returned v ∧ (fun v w2 => ∃ A2 m2 c2, v = .tuple #[.slice A2 m2 c2, .int .i64 0] ∧ w.grownBy w2 none ∧ Own w.heap.size w2 73 2 A2 m2 c2 (pc L)) v w2 := by
  have hLl := hF.len_lt hn
  have hB := ext_refl w
  refine calls_of_W (vs := [.int .i64 X]) [2, 3] Try.func55 rfl rfl rfl rfl ?_
  refine W.seq ?_
  refine W.region ?_
  refine WL.assign rfl rfl ?_
  refine WL.assign rfl rfl ?_
  refine WL.done ?_
  refine W.seq ?_
  refine W.seq ?_
  refine W.region ?_
  refine WL.move rfl rfl ?_
  refine WL.call Try.func88 rfl Try.nm88 rfl rfl (isPos_c (by omega)) ?_
  rintro _ w11 ⟨bz, rfl, hGw11, z_t, z_f⟩
  have hB := ext_trans hB hGw11
  rcases bz with _ | _
  · exfalso
    have z := z_f rfl
    omega
  · have z := z_t rfl
    refine WL.not rfl rfl ?_
    refine WL.done ?_
    refine W.condF rfl ?_
    refine W.skip ?_
    refine W.seq ?_
    refine W.region ?_
    refine WL.assign rfl rfl ?_
    refine WL.done ?_
    refine W.seq ?_
    refine W.block ?_
    refine W.loop (σ := List (Nat × Nat) × List (Nat × Nat) × Nat × Option Addr × Nat × Nat) (fun s w1 => match s with | (D, Rr, m, Ao, mo, co) => w.grownBy w1 none ∧ D ++ Rr = L ∧ IsFac m Rr ∧ m < 2147483648 ∧ Own w.heap.size w1 73 2 Ao mo co (pc (D))) (fun s => match s with | (D, Rr, m, Ao, mo, co) => [(0, .int .i64 ((m : Nat) : Int)), (4, .slice Ao mo co)]) (fun s => match s with | (D, Rr, m, Ao, mo, co) => m) ([], L, n, none, 0, 0) ?_ ?_ ?_
    · exact ⟨hB, rfl, hF, hn, World.ownsRow_nil _ _ _ _⟩
    · exact ⟨iv (by omega), rfl, trivial⟩
    · rintro ⟨D, Rr, m, Ao, mo, co⟩ w12 ⟨hB, hD, hFm, hm, ho⟩
      have ho_l := ho.rd.plen
      have hDl : D.length ≤ L.length := by rw [← hD, List.length_append]; omega
      refine W.seq ?_
      refine W.seq ?_
      refine W.region ?_
      refine WL.move rfl rfl ?_
      refine WL.gtr rfl rfl rfl (fun c13 => ?_) (fun c13 => ?_)
      · refine WL.done ?_
        refine W.condT rfl ?_
        refine W.skip ?_
        refine W.block ?_
        refine W.seq ?_
        refine W.region ?_
        refine WL.move rfl rfl ?_
        obtain ⟨p, ee, R2, hR⟩ := hFm.cons_of (by omega)
        subst hR
        have hbd := hFm.bd hm (p, ee) List.mem_cons_self
        simp only at hbd
        obtain ⟨q, hl, hq, hqp, he0, hF2⟩ := hFm.inv
        have hp2 := hl.two
        have hq00 : q * p ^ (ee - 0) = m := hq.symm
        have hqm := strip_lt hl hq he0 hF2.pos
        refine WL.call Try.func89 rfl Try.nm89 rfl rfl (least_c m (by omega) p hl (by omega) (by omega)) ?_
        rintro _ w14 ⟨rfl, hGw14⟩
        have hB := ext_trans hB hGw14
        have ho := ho.ext hGw14
        refine WL.assign rfl rfl ?_
        refine WL.assign rfl rfl ?_
        refine WL.done ?_
        refine W.seq ?_
        refine W.block ?_
        refine W.loop (σ := Nat × Option Addr × Nat × Nat) (fun s w1 => match s with | (j, Ao, mo, co) => w.grownBy w1 none ∧ j ≤ ee ∧ Own w.heap.size w1 73 2 Ao mo co (pc (D))) (fun s => match s with | (j, Ao, mo, co) => [(0, .int .i64 ((q * p ^ (ee - j) : Nat) : Int)), (4, .slice Ao mo co), (5, .int .i64 ((p : Nat) : Int)), (6, .int .i64 ((j : Nat) : Int))]) (fun s => match s with | (j, Ao, mo, co) => ee - j) (0, Ao, mo, co) ?_ ?_ ?_
        · exact ⟨hB, by omega, ho⟩
        · exact ⟨iv (by omega), rfl, iv (by omega), iv (by omega), trivial⟩
        · rintro ⟨j, Ao, mo, co⟩ w15 ⟨hB, hj, ho⟩
          have ho_l := ho.rd.plen
          have hqj : q * p ^ (ee - j) ≤ m := by rw [hq]; exact Nat.mul_le_mul_left _ (Nat.pow_le_pow_right (by omega) (by omega))
          refine W.seq ?_
          refine W.seq ?_
          rcases Nat.lt_or_ge j ee with hje | hje
          · refine W.region ?_
            refine WL.move rfl rfl ?_
            refine WL.move rfl rfl ?_
            have hpd := pw_down (m := q) hp2 hje
            refine WL.rem (r := (((q * p ^ (ee - j)) % p : Nat) : Int)) rfl rfl (by omega) (tmod_nat (by omega) (by omega)) rfl ?_
            refine WL.eql rfl rfl rfl (fun hc => ?_) (fun hc => ?_)
            · refine WL.done ?_
              refine W.condT rfl ?_
              refine W.skip ?_
              refine W.block ?_
              refine W.seq ?_
              refine W.region ?_
              refine WL.move rfl rfl ?_
              refine WL.move rfl rfl ?_
              have hpe := hpd.2
              refine WL.quo (r := (((q * p ^ (ee - j)) / p : Nat) : Int)) rfl rfl (by omega) (qi64 (by omega) (by omega) (by omega)) rfl ?_
              refine WL.assign rfl rfl ?_
              refine WL.done ?_
              refine W.region ?_
              refine WL.move rfl rfl ?_
              refine WL.add (r := ((j + 1 : Nat) : Int)) rfl rfl (wi64 (by omega) (by omega) (by omega)) rfl ?_
              refine WL.assign rfl rfl ?_
              refine WL.done ?_
              refine ⟨(j + 1, Ao, mo, co), ⟨iv (by omega), rfl, iv (by omega), iv (by omega), trivial⟩, by (dsimp only; omega), ?_⟩
              exact ⟨hB, by omega, ho⟩
            · exfalso
              have := hpd.1
              omega
          · refine W.region ?_
            refine WL.move rfl rfl ?_
            refine WL.move rfl rfl ?_
            have hje : j = ee := by omega
            have hqe : q * p ^ (ee - j) = q := by rw [hje, Nat.sub_self, Nat.pow_zero, Nat.mul_one]
            refine WL.rem (r := (((q * p ^ (ee - j)) % p : Nat) : Int)) rfl rfl (by omega) (tmod_nat (by omega) (by omega)) rfl ?_
            refine WL.eql rfl rfl rfl (fun hc => ?_) (fun hc => ?_)
            · exfalso
              rw [hqe] at hc
              omega
            · refine WL.done ?_
              refine W.condF rfl ?_
              refine W.exit ?_
              refine W.region ?_
              refine WL.move rfl rfl ?_
              refine WL.move rfl rfl ?_
              refine WL.move rfl rfl ?_
              refine WL.build (cells := #[.int .i64 ((p : Nat) : Int), .int .i64 ((j : Nat) : Int)]) Try.bld73 rfl rfl rfl ?_
              refine WL.lit (b := w15.heap.size) (cells := [.int .i64 ((p : Nat) : Int), .int .i64 ((j : Nat) : Int)]) Try.underlying69 Try.el73 (by decide) ⟨_, rfl, by kernel_rfl⟩ rfl (Nat.le_refl _) rfl ?_
              rintro A18 w19 - hO20 hGw19
              have hO20 := hO20.low (b' := w.heap.size) hB.size
              change Own _ _ _ _ _ _ _ (pc [(p, j)]) at hO20
              have hB := ext_trans hB hGw19
              have ho := ho.ext hGw19
              refine WL.append (mo + 1) ((pc (D ++ ([(p, j)])))) Try.underlying69 Try.el73 rfl rfl ho hO20.rd (pc_one _) (by simp only [maxLen]; omega) (by omega) hB.size (by omega) (pc_app rfl) rfl ?_
              have hOld25 := ho
              intro A21 cp22 w23 hO24 hGw23 hblw23
              have hB := ext_own hB hGw23 (fun g hg => (hOld25.bl_ge g hg).1)
              have hO24_l := hO24.rd.plen
              refine WL.assign rfl rfl ?_
              refine WL.done ?_
              refine ⟨(D ++ [(p, ee)], R2, q, A21, mo + 1, cp22), ⟨iv (by omega), rfl, trivial⟩, by (dsimp only; omega), ?_⟩
              rw [hje] at hO24
              exact ⟨hB, by rw [List.append_assoc]; exact hD, hF2, by omega, hO24⟩
      · refine WL.done ?_
        refine W.condF rfl ?_
        refine W.exit ?_
        refine W.seq ?_
        refine W.region ?_
        refine WL.move rfl rfl ?_
        refine WL.assign rfl rfl ?_
        refine WL.assign rfl rfl ?_
        refine WL.done ?_
        refine W.ret ?_
        refine ⟨_, rfl, ?_⟩
        have hRn := hFm.nil_of (by omega)
        subst hRn
        rw [List.append_nil] at hD
        subst hD
        exact ⟨_, _, _, rfl, hB, ho⟩
end Go.Proofs.Ytdmgbahognfhbab
