/- Contracts of functions of the program, and what they lean on: Nz, N13, Args3, Args4. -/
import Derived.Test.YtdmgbahognfhbaaG7
set_option linter.unusedSimpArgs false
set_option linter.unusedVariables false
namespace Go.Proofs.Ytdmgbahognfhbaa
open Go.RowKit
/-! ### products of prime powers -/
def ppv : List (Nat × Nat) → Nat | [] => 1 | (p, e) :: L => p ^ e * ppv L
theorem ppv_append : ∀ L M : List (Nat × Nat), ppv (L ++ M) = ppv L * ppv M
  | [], M => by simp [ppv]
  | (p, e) :: L, M => by simp [ppv, ppv_append L M, Nat.mul_assoc]
theorem ppv_take {L : List (Nat × Nat)} {i : Nat} (h : i < L.length) : ppv (L.take (i + 1)) = ppv (L.take i) * (L.getD i (0, 0)).1 ^ (L.getD i (0, 0)).2 := by
  rw [ptake h, ppv_append]; simp [ppv]
theorem fac_mono {n : Nat} {L : List (Nat × Nat)} (h : IsFac n L) : ∀ i, i + 1 < L.length → (L.getD i (0, 0)).1 < (L.getD (i + 1) (0, 0)).1 := by
  induction h with
  | one => intro i hi; simp at hi
  | step hl hn hm he h2 ih =>
    rename_i n p e m L
    intro i hi
    cases i with
    | zero =>
      cases h2 with
      | one => simp at hi
      | step hl' hn' hm' he' h3 => exact lf_mono hl hn hm hl'
    | succ i => simpa using ih i (by simpa using hi)
theorem fac_prime {n : Nat} {L : List (Nat × Nat)} (h : IsFac n L) : ∀ pe ∈ L, IsLf pe.1 pe.1 := by
  induction h with
  | one => intro _ h; cases h
  | step hl hn hm he h2 ih =>
    intro pe hpe
    rcases List.mem_cons.1 hpe with rfl | h3
    · exact lf_prime hl
    · exact ih pe h3
/-! ### orders -/
theorem ordR_err {a n : Int} {k e : Nat} (h : OrdR a n k e) (hn : 1 ≤ n ∧ n ≤ 2147483647) (hg : Nat.gcd a.natAbs n.toNat ≠ 1) : k = 0 ∧ e = 11 := by
  cases h with
  | out h => exact absurd hn h
  | none h1 h2 => exact ⟨rfl, rfl⟩
  | ok h1 h2 => exact absurd h2 hg
theorem ordR_ok {a n : Int} {k e : Nat} (h : OrdR a n k e) (hn : 1 ≤ n ∧ n ≤ 2147483647) (hg : Nat.gcd a.natAbs n.toNat = 1) : e = 0 ∧ IsOrd (a % n).toNat n.toNat k := by
  cases h with
  | out h => exact absurd hn h
  | none h1 h2 => exact absurd hg h2
  | ok h1 h2 h3 => exact ⟨rfl, h3⟩
theorem natAbs_tmod_gcd (a : Int) {n : Nat} (hn : 0 < n) : Nat.gcd (a.tmod (n : Int)).natAbs n = Nat.gcd a.natAbs n := by
  rw [Int.natAbs_tmod, Int.natAbs_natCast]
  show Nat.gcd (a.natAbs % n) n = _
  rw [← Nat.gcd_rec, Nat.gcd_comm]
/-! ### divisors -/
structure Dv (n : Nat) (D : List Int) : Prop where
  mem : ∀ k : Int, k ∈ D ↔ 0 < k ∧ k.toNat ∣ n
  srt : D.Pairwise (· < ·)
theorem srt_uniq : ∀ {A B : List Int}, A.Pairwise (· < ·) → B.Pairwise (· < ·) → (∀ k, k ∈ A ↔ k ∈ B) → A = B
  | [], [], _, _, _ => rfl
  | [], b :: B, _, _, h => absurd ((h b).2 List.mem_cons_self) (by simp)
  | a :: A, [], _, _, h => absurd ((h a).1 List.mem_cons_self) (by simp)
  | a :: A, b :: B, hA, hB, h => by
    have hA' := List.pairwise_cons.1 hA
    have hB' := List.pairwise_cons.1 hB
    have hab : a = b := by
      have h1 := (h a).1 List.mem_cons_self
      have h2 := (h b).2 List.mem_cons_self
      rcases List.mem_cons.1 h1 with h3 | h3
      · exact h3
      · rcases List.mem_cons.1 h2 with h4 | h4
        · exact h4.symm
        · have := hB'.1 a h3; have := hA'.1 b h4; omega
    subst hab
    rw [srt_uniq hA'.2 hB'.2 fun k => ?_]
    constructor
    · intro hk
      have := hA'.1 k hk
      rcases List.mem_cons.1 ((h k).1 (List.mem_cons_of_mem _ hk)) with h3 | h3
      · omega
      · exact h3
    · intro hk
      have := hB'.1 k hk
      rcases List.mem_cons.1 ((h k).2 (List.mem_cons_of_mem _ hk)) with h3 | h3
      · omega
      · exact h3
theorem Dv.uniq {n : Nat} {D E : List Int} (h : Dv n D) (h' : Dv n E) : D = E := srt_uniq h.srt h'.srt fun k => by rw [h.mem, h'.mem]
structure LowOk (n d : Nat) (D : List Int) : Prop where
  mem : ∀ k : Int, k ∈ D ↔ 0 < k ∧ k < d ∧ k.toNat ∣ n
  srt : D.Pairwise (· < ·)
structure HighOk (n d : Nat) (D : List Int) : Prop where
  mem : ∀ k : Int, k ∈ D ↔ ∃ c : Nat, 0 < c ∧ c < d ∧ c ∣ n ∧ c ≠ n / c ∧ k = ((n / c : Nat) : Int)
  srt : D.Pairwise (· > ·)
theorem LowOk.nil (n : Nat) : LowOk n 1 [] := ⟨fun k => ⟨fun h => (by cases h), fun h => (by omega)⟩, .nil⟩
theorem HighOk.nil (n : Nat) : HighOk n 1 [] := ⟨fun k => ⟨fun h => (by cases h), fun ⟨c, h⟩ => (by omega)⟩, .nil⟩
theorem LowOk.skip {n d : Nat} {D : List Int} (h : LowOk n d D) (hd : n % d ≠ 0) : LowOk n (d + 1) D := ⟨fun k => by
  rw [h.mem]
  constructor
  · rintro ⟨a, b, c⟩; exact ⟨a, by omega, c⟩
  · rintro ⟨a, b, c⟩
    refine ⟨a, ?_, c⟩
    rcases Int.lt_or_le k d with h1 | h1
    · exact h1
    · have hk : k.toNat = d := by omega
      rw [hk] at c; exact absurd (Nat.mod_eq_zero_of_dvd c) hd, h.srt⟩
theorem LowOk.add {n d : Nat} {D : List Int} (h : LowOk n d D) (h0 : 0 < d) (hd : n % d = 0) : LowOk n (d + 1) (D ++ [(d : Int)]) := ⟨fun k => by
  rw [List.mem_append, h.mem, List.mem_singleton]
  constructor
  · rintro (⟨a, b, c⟩ | rfl)
    · exact ⟨a, by omega, c⟩
    · exact ⟨by omega, by omega, by rw [Int.toNat_natCast]; exact Nat.dvd_of_mod_eq_zero hd⟩
  · rintro ⟨a, b, c⟩
    rcases Int.lt_or_le k d with h1 | h1
    · exact .inl ⟨a, h1, c⟩
    · exact .inr (by omega), by
  rw [List.pairwise_append]
  refine ⟨h.srt, by simp, fun a ha b hb => ?_⟩
  rw [List.mem_singleton] at hb
  have := ((h.mem a).1 ha).2.1
  omega⟩
theorem HighOk.skip {n d : Nat} {D : List Int} (h : HighOk n d D) (hd : n % d ≠ 0 ∨ d = n / d) : HighOk n (d + 1) D := ⟨fun k => by
  rw [h.mem]
  constructor
  · rintro ⟨c, a, b, e, f, g⟩; exact ⟨c, a, by omega, e, f, g⟩
  · rintro ⟨c, a, b, e, f, g⟩
    refine ⟨c, a, ?_, e, f, g⟩
    rcases Nat.lt_or_ge c d with h1 | h1
    · exact h1
    · have hk : c = d := by omega
      subst hk
      rcases hd with hd | hd
      · exact absurd (Nat.mod_eq_zero_of_dvd e) hd
      · exact absurd hd f, h.srt⟩
theorem div_anti {n c d : Nat} (hn : 0 < n) (hc : c ∣ n) (hd : d ∣ n) (h : c < d) : n / d < n / c := by
  obtain ⟨x, hx⟩ := hc
  obtain ⟨y, hy⟩ := hd
  have hc0 : 0 < c := Nat.pos_of_ne_zero (fun h1 => by subst h1; simp at *; omega)
  have hy0 : 0 < y := Nat.pos_of_ne_zero (fun h1 => by subst h1; simp at *; omega)
  have e1 : n / c = x := by rw [hx]; exact Nat.mul_div_cancel_left _ hc0
  have e2 : n / d = y := by rw [hy]; exact Nat.mul_div_cancel_left _ (by omega)
  rw [e1, e2]
  rcases Nat.lt_or_ge y x with h1 | h1
  · exact h1
  · have h2 : c * x ≤ c * y := Nat.mul_le_mul_left c h1
    have h3 : c * y < d * y := Nat.mul_lt_mul_of_pos_right h hy0
    omega
theorem HighOk.add {n d : Nat} {D : List Int} (h : HighOk n d D) (hn : 0 < n) (h0 : 0 < d) (hd : n % d = 0) (hne : d ≠ n / d) : HighOk n (d + 1) (D ++ [((n / d : Nat) : Int)]) := ⟨fun k => by
  rw [List.mem_append, h.mem, List.mem_singleton]
  constructor
  · rintro (⟨c, a, b, e, f, g⟩ | rfl)
    · exact ⟨c, a, by omega, e, f, g⟩
    · exact ⟨d, h0, by omega, Nat.dvd_of_mod_eq_zero hd, hne, rfl⟩
  · rintro ⟨c, a, b, e, f, g⟩
    rcases Nat.lt_or_ge c d with h1 | h1
    · exact .inl ⟨c, a, h1, e, f, g⟩
    · have hk : c = d := by omega
      subst hk; exact .inr g, by
  rw [List.pairwise_append]
  refine ⟨h.srt, by simp, fun a ha b hb => ?_⟩
  rw [List.mem_singleton] at hb
  obtain ⟨c, h1, h2, h3, h4, h5⟩ := (h.mem a).1 ha
  have := div_anti hn h3 (Nat.dvd_of_mod_eq_zero hd) h2
  show a > b
  omega⟩
theorem Dv.of {n d : Nat} {A B : List Int} (hA : LowOk n d A) (hB : HighOk n d B) (hn : 0 < n) (h1 : n < d * d) (h2 : (d - 1) * (d - 1) ≤ n) : Dv n (A ++ B.reverse) := by
  have key : ∀ c x : Nat, 0 < c → c < d → n = c * x → c ≠ x → d ≤ x := by
    intro c x hc hcd hx hne
    rcases Nat.lt_or_ge x d with h3 | h3
    · exfalso
      -- c x = n ≥ (d - 1)², c, x ≤ d - 1, so c = x = d - 1
      rcases Nat.lt_or_ge c (d - 1) with h4 | h4
      · have h5 : c * x ≤ c * (d - 1) := Nat.mul_le_mul_left c (by omega)
        have h6 : c * (d - 1) < (d - 1) * (d - 1) := Nat.mul_lt_mul_of_pos_right h4 (by omega)
        omega
      · have hc2 : c = d - 1 := by omega
        rcases Nat.lt_or_ge x (d - 1) with h5 | h5
        · have h6 : c * x < c * (d - 1) := Nat.mul_lt_mul_of_pos_left h5 hc
          have h7 : c * (d - 1) ≤ (d - 1) * (d - 1) := Nat.mul_le_mul_right _ (by omega)
          omega
        · omega
    · exact h3
  refine ⟨fun k => ?_, ?_⟩
  · rw [List.mem_append, List.mem_reverse, hA.mem, hB.mem]
    constructor
    · rintro (⟨a, b, c⟩ | ⟨c, a, b, e, f, rfl⟩)
      · exact ⟨a, c⟩
      · obtain ⟨x, hx⟩ := e
        have e1 : n / c = x := by rw [hx]; exact Nat.mul_div_cancel_left _ a
        rw [e1, Int.toNat_natCast]
        refine ⟨?_, ⟨c, by rw [hx, Nat.mul_comm]⟩⟩
        rcases Nat.eq_zero_or_pos x with h3 | h3
        · subst h3; omega
        · omega
    · rintro ⟨a, c⟩
      rcases Int.lt_or_le k d with h3 | h3
      · exact .inl ⟨a, h3, c⟩
      · obtain ⟨x, hx⟩ := c
        have hx0 : 0 < x := Nat.pos_of_ne_zero (fun h4 => by subst h4; simp at *; omega)
        have hxd : x < d := by
          rcases Nat.lt_or_ge x d with h4 | h4
          · exact h4
          · have := Nat.mul_le_mul (show d ≤ k.toNat by omega) h4; omega
        have e1 : n / x = k.toNat := by rw [hx]; exact Nat.mul_div_cancel _ hx0
        exact .inr ⟨x, hx0, hxd, ⟨k.toNat, by rw [hx, Nat.mul_comm]⟩, by rw [e1]; omega, by rw [e1]; omega⟩
  · rw [List.pairwise_append, List.pairwise_reverse]
    refine ⟨hA.srt, hB.srt, fun a ha b hb => ?_⟩
    rw [List.mem_reverse] at hb
    have h3 := (hA.mem a).1 ha
    obtain ⟨c, h4, h5, h6, h7, rfl⟩ := (hB.mem b).1 hb
    obtain ⟨x, hx⟩ := h6
    have e1 : n / c = x := by rw [hx]; exact Nat.mul_div_cancel_left _ h4
    rw [e1] at h7 ⊢
    have := key c x h4 h5 hx h7
    omega
theorem dv_exists {n : Nat} (hn : 0 < n) : ∃ D, Dv n D := by
  have key : ∀ d, ∃ D, LowOk n (d + 1) D := by
    intro d
    induction d with
    | zero => exact ⟨[], LowOk.nil n⟩
    | succ d ih =>
      obtain ⟨D, hD⟩ := ih
      by_cases h : n % (d + 1) = 0
      · exact ⟨_, hD.add (by omega) h⟩
      · exact ⟨_, hD.skip h⟩
  obtain ⟨D, hD⟩ := key n
  refine ⟨D, fun k => ?_, hD.srt⟩
  rw [hD.mem]
  constructor
  · rintro ⟨a, b, c⟩; exact ⟨a, c⟩
  · rintro ⟨a, c⟩
    have := Nat.le_of_dvd hn c
    exact ⟨a, by omega, c⟩
theorem Dv.lim {n : Nat} {D : List Int} (h : Dv n D) (hn : 0 < n) (hb : n < 2147483648) : ∀ x ∈ D, 1 ≤ x ∧ x ≤ 2147483647 := fun x hx => by
  have h1 := (h.mem x).1 hx
  have := Nat.le_of_dvd hn h1.2
  omega
theorem srt_get {D : List Int} (h : D.Pairwise (· < ·)) {i j : Nat} (hij : i < j) (hj : j < D.length) : D.getD i 0 < D.getD j 0 := by
  have := List.pairwise_iff_getElem.1 h i j (by omega) hj hij
  simpa [List.getD_eq_getElem?_getD, List.getElem?_eq_getElem hj, List.getElem?_eq_getElem (show i < D.length by omega)] using this
/-- The first divisor of a multiple of the order that gives 1 is the order. -/
theorem ord_first {a n f K i : Nat} {D : List Int} (hD : Dv f D) (hf : 0 < f) (hK : IsOrd a n K) (hKf : K ∣ f) (hi : i < D.length) (h1 : One n (a ^ (D.getD i 0).toNat)) (hall : ∀ j, j < i → ¬ One n (a ^ (D.getD j 0).toNat)) : K = (D.getD i 0).toNat := by
  have hm := (hD.mem _).1 (imem hi)
  have h2 := hK.min _ (by omega) h1
  have hKD : ((K : Nat) : Int) ∈ D := (hD.mem _).2 ⟨by have := hK.pos; omega, by simpa using hKf⟩
  obtain ⟨t, ht, he⟩ := List.mem_iff_getElem.1 hKD
  have hg : D.getD t 0 = K := by simpa [List.getD_eq_getElem?_getD, List.getElem?_eq_getElem ht] using he
  rcases Nat.lt_trichotomy t i with h3 | h3 | h3
  · exact absurd (by rw [hg]; exact hK.one) (hall t h3)
  · subst h3; rw [hg]; rfl
  · have := srt_get hD.srt h3 ht
    rw [hg] at this; omega
end Go.Proofs.Ytdmgbahognfhbaa
namespace Go.Proofs.Ytdmgbahognfhbaa
theorem pow_val_of {X : Int} {t m : Nat} (hm : 1 ≤ m ∧ m ≤ 2147483647) : (powS X ((t : Nat) : Int) ((m : Nat) : Int)).1 = (X % ((m : Nat) : Int)).toNat ^ t % m := by
  rw [powS_ok (by omega)]; simp
theorem pow_one_of {X : Int} {t m : Nat} (hm : 1 ≤ m ∧ m ≤ 2147483647) (h : (X % ((m : Nat) : Int)).toNat ^ t % m = 1 % m) : (powS X ((t : Nat) : Int) ((m : Nat) : Int)).1 = 1 % m := by
  rw [pow_val_of hm]; exact h
theorem pow_err_of {X : Int} {t m : Nat} (hm : 1 ≤ m ∧ m ≤ 2147483647) : (powS X ((t : Nat) : Int) ((m : Nat) : Int)).2 = 0 := by
  rw [powS_ok (by omega)]
end Go.Proofs.Ytdmgbahognfhbaa
namespace Go.Proofs.Ytdmgbahognfhbaa
theorem ap_app {A A2 B : Option Addr} {n : Nat} (h : bl A2 = bl A ∨ bl A2 = some n) (hab : ∀ g, bl A = some g → bl B ≠ some g) (hlt : ∀ g, bl B = some g → g < n) : ∀ g, bl A2 = some g → bl B ≠ some g := by
  intro g h1 h2
  rcases h with h | h
  · exact hab g (by rw [← h]; exact h1) h2
  · rw [h] at h1; cases h1; exact absurd (hlt _ h2) (Nat.lt_irrefl _)
end Go.Proofs.Ytdmgbahognfhbaa
set_option linter.unusedSimpArgs false
set_option linter.unusedVariables false
namespace Go.Proofs.Ytdmgbahognfhbaa
open Go.RowKit
theorem Prime_t {w : World} {X : Int} (hX : -9223372036854775808 ≤ X ∧ X ≤ 9223372036854775807) (hp : IsPr X) : Calls Try.prog 24 #[.int .i64 X] w fun e w2 => ∃ v, e = .returned v ∧ (fun v w2 => v = .bool true ∧ w.grownBy w2 none) v w2 :=
  (Prime_c hX).mono fun e w2 ⟨v, he, b, hv, hw, h1, h2⟩ => ⟨v, he, by rw [hv]; cases b with | true => rfl | false => exact absurd hp (h2 rfl), hw⟩

set_option maxHeartbeats 4000000 in
theorem NumberProducts_c {w : World} (n : Nat) {X : Int} (hX : X = n) (hn : n < 4294967296) :
    Calls Try.prog 4 #[.int .u32 X] w fun e w2 => ∃ v, e = .returned v ∧ (fun v w2 => v = .bool true ∧ w.grownBy w2 none) v w2 := by
  obtain ⟨v1, hv1⟩ : ∃ v1, v1 = n % 2147483647 + 1 := ⟨_, rfl⟩
  obtain ⟨L, hF⟩ := fac_exists v1 (by omega)
  have hLl := hF.len_lt (by omega)
  have hbd := hF.bd (by omega)
  have hB := ext_refl w
  refine calls_of_W (vs := [.int .u32 X]) [2] Try.func4 rfl rfl rfl rfl ?_
  refine W.seq ?_
  refine W.region ?_
  refine WL.assign rfl rfl ?_
  refine WL.done ?_
  refine W.seq ?_
  refine W.seq ?_
  refine W.region ?_
  refine WL.call Try.func15 rfl Try.nm15 rfl rfl (awake_c) ?_
  rintro _ w11 ⟨rfl, hGw11⟩
  have hB := ext_trans hB hGw11
  refine WL.not rfl rfl ?_
  refine WL.done ?_
  refine W.condF rfl ?_
  refine W.skip ?_
  refine W.seq ?_
  refine W.region ?_
  refine WL.move rfl rfl ?_
  refine WL.rem (r := ((n % 2147483647 : Nat) : Int)) rfl rfl (by omega) (tmod_nat (by omega) (by omega)) rfl ?_
  refine WL.conv (r := ((n % 2147483647 : Nat) : Int)) Try.underlying35 Try.underlying3 rfl (wi64 (by omega) (by omega) (by omega)) rfl ?_
  refine WL.add (r := ((v1 : Nat) : Int)) rfl rfl (by rw [hv1]; exact wi64 (by omega) (by omega) (by omega)) rfl ?_
  refine WL.assign rfl rfl ?_
  refine WL.done ?_
  refine W.seq ?_
  refine W.region ?_
  refine WL.move rfl rfl ?_
  refine WL.call Try.func16 rfl Try.nm16 rfl rfl (Factor_ok v1 rfl L hF (by omega) (by omega)) ?_
  rintro _ w12 ⟨A13, m14, c15, rfl, hGw12, hf⟩
  have hf := hf.low (b' := w.heap.size) hB.size
  have hB := ext_trans hB hGw12
  have hf_l := hf.rd.plen
  refine WL.move rfl rfl ?_
  refine WL.extract rfl rfl rfl ?_
  refine WL.extract rfl rfl rfl ?_
  refine WL.assign rfl rfl ?_
  refine WL.assign rfl rfl ?_
  refine WL.done ?_
  refine W.seq ?_
  refine W.seq ?_
  refine W.region ?_
  refine WL.move rfl rfl ?_
  refine WL.neq rfl rfl rfl (fun c16 => ?_) (fun c16 => ?_)
  · exfalso
    omega
  · refine WL.move rfl rfl ?_
    refine WL.take rfl ?_
    refine WL.move rfl rfl ?_
    refine WL.take rfl ?_
    refine WL.len Try.underlying23 rfl rfl ?_
    refine WL.take rfl ?_
    refine WL.gtr rfl rfl rfl (fun c17 => ?_) (fun c17 => ?_)
    · exfalso
      omega
    · refine WL.pick rfl rfl rfl ?_
      refine WL.done ?_
      refine W.condF rfl ?_
      refine W.skip ?_
      refine W.seq ?_
      refine W.region ?_
      refine WL.assign rfl rfl ?_
      refine WL.done ?_
      refine W.seq ?_
      refine W.seq ?_
      refine W.region ?_
      have hp00 : ppv (L.take 0) = 1 := rfl
      refine WL.move rfl rfl ?_
      refine WL.len Try.underlying23 rfl rfl ?_
      refine WL.move rfl rfl ?_
      refine WL.done ?_
      refine W.block ?_
      refine W.loop (σ := Nat × Nat × Option Addr × Nat × Nat) (fun s w1 => match s with | (i, x, Ao, mo, co) => w.grownBy w1 none ∧ i ≤ L.length ∧ IsFac x (L.drop i) ∧ v1 = ppv (L.take i) * x ∧ Own w.heap.size w1 37 2 Ao mo co (pc (L))) (fun s => match s with | (i, x, Ao, mo, co) => [(0, .int .u32 X), (3, .int .i64 ((v1 : Nat) : Int)), (4, .slice Ao mo co), (6, .int .i64 ((ppv (L.take i) : Nat) : Int)), (27, .slice Ao mo co), (28, .int .i64 ((mo : Nat) : Int)), (29, .int .i64 ((i : Nat) : Int))]) (fun s => match s with | (i, x, Ao, mo, co) => L.length - i) (0, v1, A13, m14, c15) ?_ ?_ ?_
      · exact ⟨hB, by omega, hF, (Nat.one_mul v1).symm, hf⟩
      · exact ⟨iv (by omega), iv (by omega), rfl, iv (by omega), rfl, iv (by omega), iv (by omega), trivial⟩
      · rintro ⟨i, x, Ao, mo, co⟩ w18 ⟨hB, hi, hF2, hvx, ho⟩
        have ho_l := ho.rd.plen
        refine W.seq ?_
        refine W.region ?_
        refine WL.lss rfl rfl rfl (fun c19 => ?_) (fun c19 => ?_)
        · refine WL.done ?_
          refine W.seq ?_
          refine W.condT rfl ?_
          refine W.skip ?_
          refine W.seq ?_
          refine W.block ?_
          refine W.seq ?_
          have hil : i < L.length := (by omega); have hFi := hF2; rw [pdrop hil] at hFi; obtain ⟨y, hl, hy, hyp, he0, hF3⟩ := hFi.inv'; have hpt := ppv_take hil; have hp2 := hl.two; have hpn := hbd _ (getD_pmem hil); have hpr := fac_prime hF _ (getD_pmem hil); have hisp : IsPr (((L.getD i (0, 0)).1 : Nat) : Int) := ⟨by omega, by omega, by rw [Int.toNat_natCast]; exact hpr⟩; have hy0 := hF3.pos
          · refine W.region ?_
            refine WL.move rfl rfl ?_
            refine WL.index (i) Try.underlying23 Try.el37 rfl rfl (by omega) (by omega) ho.rd rfl ?_
            refine WL.loadV (cs := [.int .i64 (((L.getD i (0, 0)).1 : Nat) : Int), .int .i64 (((L.getD i (0, 0)).2 : Nat) : Int)]) Try.el37 Try.agg37 rfl rfl (pc_load ho.rd (i) (by first | omega | decide)) rfl ?_
            refine WL.alloc Try.el37 rfl ?_
            intro gp w20 hg_gp hVgp hGw20
            change Own _ _ _ _ _ _ _ [.int .i64 (0 : Int), .int .i64 (0 : Int)] at hVgp
            have hap_ho_gp := ap_old ho hg_gp
            have hVgp := hVgp.low (b' := w.heap.size) hB.size
            have hB := ext_trans hB hGw20
            have ho := ho.ext hGw20
            refine WL.assign rfl rfl ?_
            refine WL.storeV Try.el37 rfl rfl rfl rfl hVgp ?_
            have hOld22 := hVgp
            intro w21 hVgp hGw21
            change Own _ _ _ _ _ _ _ [.int .i64 (((L.getD i (0, 0)).1 : Nat) : Int), .int .i64 (((L.getD i (0, 0)).2 : Nat) : Int)] at hVgp
            have hB := ext_own hB hGw21 (fun g hg => (hOld22.bl_ge g hg).1)
            have ho := ho.grown hGw21 (ap_row hap_ho_gp)
            refine WL.done ?_
            refine W.seq ?_
            refine W.seq ?_
            rcases Nat.eq_zero_or_pos i with hi0 | hi0
            · refine W.draw [⟨[], [8], true⟩, ⟨[0], [], false⟩, ⟨[1], [], false⟩, ⟨[2], [], true⟩, ⟨[3], [], true⟩, ⟨[4], [8], true⟩, ⟨[4, 5], [], false⟩, ⟨[4, 6], [], true⟩, ⟨[4, 7], [], true⟩, ⟨[8], [], true⟩, ⟨[9], [8], true⟩, ⟨[9, 10], [], false⟩, ⟨[9, 11], [], true⟩, ⟨[9, 12], [], true⟩, ⟨[13], [], true⟩, ⟨[14], [7], true⟩, ⟨[14, 15], [], true⟩, ⟨[14, 16], [], true⟩, ⟨[17], [4], true⟩, ⟨[17], [7], true⟩, ⟨[17, 19], [], true⟩, ⟨[17, 18, 20], [], true⟩, ⟨[17, 21], [], true⟩, ⟨[17, 22], [], false⟩, ⟨[17], [8], true⟩, ⟨[17, 24], [], false⟩, ⟨[17, 23, 25], [], true⟩, ⟨[14, 17, 26], [], true⟩, ⟨[14, 27], [], true⟩] [[(8, .pointer (some ⟨gp, 0, none⟩))], [], [], [], [], [(8, .pointer (some ⟨gp, 0, none⟩))], [], [], [], [], [(8, .pointer (some ⟨gp, 0, none⟩))], [], [], [], [], [(7, .int .i64 ((i : Nat) : Int))], [], [], [(4, .slice Ao mo co)], [(7, .int .i64 ((i : Nat) : Int))], [], [], [], [], [(8, .pointer (some ⟨gp, 0, none⟩))], [], [], [], []] (fun iQ => [fun v wQ => v = .pointer (some ((⟨gp, 0, none⟩ : Addr).add 0)), fun v wQ => v = .int .i64 (((L.getD i (0, 0)).1 : Nat) : Int), fun v wQ => v = .bool true, fun v wQ => v = .bool false, fun v wQ => v = .bool false, fun v wQ => v = .pointer (some ((⟨gp, 0, none⟩ : Addr).add 1)), fun v wQ => v = .int .i64 (((L.getD i (0, 0)).2 : Nat) : Int), fun v _ => v = .bool false, fun v wQ => v = .bool false, fun v wQ => v = .bool false, fun v wQ => v = .pointer (some ((⟨gp, 0, none⟩ : Addr).add 1)), fun v wQ => v = .int .i64 (((L.getD i (0, 0)).2 : Nat) : Int), fun v _ => v = .bool false, fun v wQ => v = .bool false, fun v wQ => v = .bool false, fun v wQ => v = .int .i64 ((i : Nat) : Int), fun v _ => v = .bool false, fun v wQ => v = .bool false, fun v wQ => v = undef, fun v wQ => v = undef, fun v wQ => v = undef, fun v wQ => v = undef, fun v wQ => v = undef, fun v wQ => v = undef, fun v wQ => v = undef, fun v wQ => v = undef, fun v wQ => v = undef, fun v wQ => v = .bool false, fun v wQ => v = .bool false].getD iQ (fun _ _ => True)) (fun _ => True) 29 Try.mixed (by kernel_rfl) ?_ ?_ ?_
              · refine Vs_mono _ ?_
                intro VQ hVQ vQ wQ1 wQ2 hQ1 hQ2
                have hQ2 := hQ2.resolve_right (by decide)
                simp only [List.mem_cons, List.not_mem_nil, or_false] at hVQ
                rcases hVQ with rfl | rfl | rfl | rfl | rfl | rfl | rfl | rfl | rfl | rfl | rfl | rfl | rfl | rfl | rfl | rfl | rfl | rfl | rfl | rfl | rfl | rfl | rfl | rfl | rfl | rfl | rfl | rfl | rfl
                · exact hQ1
                · exact hQ1
                · exact hQ1
                · exact hQ1
                · exact hQ1
                · exact hQ1
                · exact hQ1
                · exact hQ1
                · exact hQ1
                · exact hQ1
                · exact hQ1
                · exact hQ1
                · exact hQ1
                · exact hQ1
                · exact hQ1
                · exact hQ1
                · exact hQ1
                · exact hQ1
                · exact hQ1
                · exact hQ1
                · exact hQ1
                · exact hQ1
                · exact hQ1
                · exact hQ1
                · exact hQ1
                · exact hQ1
                · exact hQ1
                · exact hQ1
                · exact hQ1
              · refine ⟨⟨rfl, ⟨rfl, trivial⟩, ?_⟩, ⟨rfl, trivial, ?_⟩, ⟨rfl, trivial, ?_⟩, ⟨rfl, trivial, ?_⟩, ⟨rfl, trivial, ?_⟩, ⟨rfl, ⟨rfl, trivial⟩, ?_⟩, ⟨rfl, trivial, ?_⟩, ⟨rfl, trivial, ?_⟩, ⟨rfl, trivial, ?_⟩, ⟨rfl, trivial, ?_⟩, ⟨rfl, ⟨rfl, trivial⟩, ?_⟩, ⟨rfl, trivial, ?_⟩, ⟨rfl, trivial, ?_⟩, ⟨rfl, trivial, ?_⟩, ⟨rfl, trivial, ?_⟩, ⟨rfl, ⟨rfl, trivial⟩, ?_⟩, ⟨rfl, trivial, ?_⟩, ⟨rfl, trivial, ?_⟩, ⟨rfl, ⟨rfl, trivial⟩, ?_⟩, ⟨rfl, ⟨rfl, trivial⟩, ?_⟩, ⟨rfl, trivial, ?_⟩, ⟨rfl, trivial, ?_⟩, ⟨rfl, trivial, ?_⟩, ⟨rfl, trivial, ?_⟩, ⟨rfl, ⟨rfl, trivial⟩, ?_⟩, ⟨rfl, trivial, ?_⟩, ⟨rfl, trivial, ?_⟩, ⟨rfl, trivial, ?_⟩, ⟨rfl, trivial, ?_⟩, trivial⟩
                · intro w23 hE
                  intro R
                  refine WL.fieldA (off := 0) Try.fla37_0 rfl rfl ?_
                  exact WL.done ⟨_, rfl, rfl, rfl⟩
                · intro w24 hE
                  have hE := hE rfl
                  have hB := ext_trans hB hE
                  have hVgp := hVgp.ext hE
                  rintro _ rfl
                  intro R
                  refine WL.load Try.underlying3 rfl rfl (hVgp.vcells 0 _ rfl) rfl ?_
                  exact WL.done ⟨_, rfl, ext_refl _, rfl⟩
                · intro w25 hE
                  have hE := hE rfl
                  have hB := ext_trans hB hE
                  rintro _ rfl
                  intro R
                  refine WL.call Try.func24 rfl Try.nm24 rfl rfl (Prime_t (by omega) (by assumption)) ?_
                  rintro _ w26 ⟨rfl, hGw26⟩
                  have hB := ext_trans hB hGw26
                  exact WL.done ⟨_, rfl, hGw26, rfl⟩
                · intro w27 hE
                  rintro _ rfl
                  intro R
                  refine WL.not rfl rfl ?_
                  exact WL.done ⟨_, rfl, rfl, rfl⟩
                · intro w28 hE
                  rintro _ rfl
                  intro R
                  refine WL.move rfl rfl ?_
                  exact WL.done ⟨_, rfl, rfl, rfl⟩
                · intro w29 hE
                  rintro _ rfl
                  intro R
                  refine WL.take rfl ?_
                  refine WL.fieldA (off := 1) Try.fla37_1 rfl rfl ?_
                  exact WL.done ⟨_, rfl, rfl, rfl⟩
                · intro w30 hE
                  have hE := hE rfl
                  have hB := ext_trans hB hE
                  have hVgp := hVgp.ext hE
                  rintro _ rfl
                  rintro _ rfl
                  intro R
                  refine WL.take rfl ?_
                  refine WL.load Try.underlying3 rfl rfl (hVgp.vcells 1 _ rfl) rfl ?_
                  exact WL.done ⟨_, rfl, ext_refl _, rfl⟩
                · intro w31 hE
                  rintro _ rfl
                  rintro _ rfl
                  intro R
                  refine WL.take rfl ?_
                  refine WL.lssD rfl rfl rfl ?_
                  exact WL.done ⟨_, rfl, rfl, (dec_f (by omega))⟩
                · intro w32 hE
                  rintro _ rfl
                  rintro _ rfl
                  intro R
                  refine WL.pick rfl rfl rfl ?_
                  exact WL.done ⟨_, rfl, rfl, rfl⟩
                · intro w33 hE
                  rintro _ rfl
                  intro R
                  refine WL.move rfl rfl ?_
                  exact WL.done ⟨_, rfl, rfl, rfl⟩
                · intro w34 hE
                  rintro _ rfl
                  intro R
                  refine WL.take rfl ?_
                  refine WL.fieldA (off := 1) Try.fla37_1 rfl rfl ?_
                  exact WL.done ⟨_, rfl, rfl, rfl⟩
                · intro w35 hE
                  have hE := hE rfl
                  have hB := ext_trans hB hE
                  have hVgp := hVgp.ext hE
                  rintro _ rfl
                  rintro _ rfl
                  intro R
                  refine WL.take rfl ?_
                  refine WL.load Try.underlying3 rfl rfl (hVgp.vcells 1 _ rfl) rfl ?_
                  exact WL.done ⟨_, rfl, ext_refl _, rfl⟩
                · intro w36 hE
                  rintro _ rfl
                  rintro _ rfl
                  intro R
                  refine WL.take rfl ?_
                  refine WL.gtrD rfl rfl rfl ?_
                  exact WL.done ⟨_, rfl, rfl, (dec_f (by omega))⟩
                · intro w37 hE
                  rintro _ rfl
                  rintro _ rfl
                  intro R
                  refine WL.pick rfl rfl rfl ?_
                  exact WL.done ⟨_, rfl, rfl, rfl⟩
                · intro w38 hE
                  rintro _ rfl
                  intro R
                  refine WL.move rfl rfl ?_
                  exact WL.done ⟨_, rfl, rfl, rfl⟩
                · intro w39 hE
                  rintro _ rfl
                  intro R
                  refine WL.take rfl ?_
                  refine WL.move rfl rfl ?_
                  exact WL.done ⟨_, rfl, rfl, rfl⟩
                · intro w40 hE
                  rintro _ rfl
                  rintro _ rfl
                  intro R
                  refine WL.take rfl ?_
                  refine WL.gtrD rfl rfl rfl ?_
                  exact WL.done ⟨_, rfl, rfl, (dec_f (by omega))⟩
                · intro w41 hE
                  rintro _ rfl
                  rintro _ rfl
                  intro R
                  refine WL.take rfl ?_
                  refine WL.move rfl rfl ?_
                  exact WL.done ⟨_, rfl, rfl, rfl⟩
                · intro w42 hE
                  rintro _ rfl
                  intro R
                  refine WL.pass rfl rfl rfl ?_
                  exact WL.done ⟨_, rfl, rfl, rfl⟩
                · intro w43 hE
                  rintro _ rfl
                  intro R
                  refine WL.pass rfl rfl rfl ?_
                  exact WL.done ⟨_, rfl, rfl, rfl⟩
                · intro w44 hE
                  rintro _ rfl
                  rintro _ rfl
                  intro R
                  refine WL.pass rfl rfl rfl ?_
                  exact WL.done ⟨_, rfl, rfl, rfl⟩
                · intro w45 hE
                  rintro _ rfl
                  rintro _ rfl
                  rintro _ rfl
                  intro R
                  refine WL.pass rfl rfl rfl ?_
                  exact WL.done ⟨_, rfl, rfl, rfl⟩
                · intro w46 hE
                  rintro _ rfl
                  rintro _ rfl
                  intro R
                  refine WL.pass rfl rfl rfl ?_
                  exact WL.done ⟨_, rfl, rfl, rfl⟩
                · intro w47 hE
                  have hE := hE rfl
                  have hB := ext_trans hB hE
                  rintro _ rfl
                  rintro _ rfl
                  intro R
                  refine WL.pass rfl rfl rfl ?_
                  exact WL.done ⟨_, rfl, ext_refl _, rfl⟩
                · intro w48 hE
                  rintro _ rfl
                  intro R
                  refine WL.pass rfl rfl rfl ?_
                  exact WL.done ⟨_, rfl, rfl, rfl⟩
                · intro w49 hE
                  have hE := hE rfl
                  have hB := ext_trans hB hE
                  rintro _ rfl
                  rintro _ rfl
                  intro R
                  refine WL.pass rfl rfl rfl ?_
                  exact WL.done ⟨_, rfl, ext_refl _, rfl⟩
                · intro w50 hE
                  rintro _ rfl
                  rintro _ rfl
                  rintro _ rfl
                  intro R
                  refine WL.pass rfl rfl rfl ?_
                  exact WL.done ⟨_, rfl, rfl, rfl⟩
                · intro w51 hE
                  rintro _ rfl
                  rintro _ rfl
                  rintro _ rfl
                  intro R
                  refine WL.take rfl ?_
                  refine WL.pick rfl rfl rfl ?_
                  exact WL.done ⟨_, rfl, rfl, rfl⟩
                · intro w52 hE
                  rintro _ rfl
                  rintro _ rfl
                  intro R
                  refine WL.pick rfl rfl rfl ?_
                  exact WL.done ⟨_, rfl, rfl, rfl⟩
              · intro vals w53 hT hVs
                rw [if_neg (by decide)] at hT
                have hB := ext_trans hB hT
                have ho := ho.ext hT
                have hVgp := hVgp.ext hT
                have hv0 : vals 0 = _ := hVs 0 (by decide) (by decide)
                have hv1 : vals 1 = _ := hVs 1 (by decide) (by decide)
                have hv2 : vals 2 = _ := hVs 2 (by decide) (by decide)
                have hv3 : vals 3 = _ := hVs 3 (by decide) (by decide)
                have hv4 : vals 4 = _ := hVs 4 (by decide) (by decide)
                have hv5 : vals 5 = _ := hVs 5 (by decide) (by decide)
                have hv6 : vals 6 = _ := hVs 6 (by decide) (by decide)
                have hv7 : vals 7 = _ := hVs 7 (by decide) (by decide)
                have hv8 : vals 8 = _ := hVs 8 (by decide) (by decide)
                have hv9 : vals 9 = _ := hVs 9 (by decide) (by decide)
                have hv10 : vals 10 = _ := hVs 10 (by decide) (by decide)
                have hv11 : vals 11 = _ := hVs 11 (by decide) (by decide)
                have hv12 : vals 12 = _ := hVs 12 (by decide) (by decide)
                have hv13 : vals 13 = _ := hVs 13 (by decide) (by decide)
                have hv14 : vals 14 = _ := hVs 14 (by decide) (by decide)
                have hv15 : vals 15 = _ := hVs 15 (by decide) (by decide)
                have hv16 : vals 16 = _ := hVs 16 (by decide) (by decide)
                have hv17 : vals 17 = _ := hVs 17 (by decide) (by decide)
                have hv18 : vals 18 = _ := hVs 18 (by decide) (by decide)
                have hv19 : vals 19 = _ := hVs 19 (by decide) (by decide)
                have hv20 : vals 20 = _ := hVs 20 (by decide) (by decide)
                have hv21 : vals 21 = _ := hVs 21 (by decide) (by decide)
                have hv22 : vals 22 = _ := hVs 22 (by decide) (by decide)
                have hv23 : vals 23 = _ := hVs 23 (by decide) (by decide)
                have hv24 : vals 24 = _ := hVs 24 (by decide) (by decide)
                have hv25 : vals 25 = _ := hVs 25 (by decide) (by decide)
                have hv26 : vals 26 = _ := hVs 26 (by decide) (by decide)
                have hv27 : vals 27 = _ := hVs 27 (by decide) (by decide)
                have hv28 : vals 28 = _ := hVs 28 (by decide) (by decide)
                rw [show (List.filterMap (fun i => Option.map (fun t => (t, vals i)) (dstAt _ i)) (List.range _)) = [(34, .pointer (some ((⟨gp, 0, none⟩ : Addr).add 0))), (35, .int .i64 (((L.getD i (0, 0)).1 : Nat) : Int)), (36, .bool true), (37, .bool false), (38, .bool false), (39, .pointer (some ((⟨gp, 0, none⟩ : Addr).add 1))), (40, .int .i64 (((L.getD i (0, 0)).2 : Nat) : Int)), (41, .bool false), (42, .bool false), (43, .bool false), (44, .pointer (some ((⟨gp, 0, none⟩ : Addr).add 1))), (45, .int .i64 (((L.getD i (0, 0)).2 : Nat) : Int)), (46, .bool false), (47, .bool false), (48, .bool false), (49, .int .i64 ((i : Nat) : Int)), (50, .bool false), (51, .bool false), (52, undef), (53, undef), (54, undef), (55, undef), (56, undef), (57, undef), (58, undef), (59, undef), (60, undef), (61, .bool false), (62, .bool false)] from by
                  show [(34, vals 0), (35, vals 1), (36, vals 2), (37, vals 3), (38, vals 4), (39, vals 5), (40, vals 6), (41, vals 7), (42, vals 8), (43, vals 9), (44, vals 10), (45, vals 11), (46, vals 12), (47, vals 13), (48, vals 14), (49, vals 15), (50, vals 16), (51, vals 17), (52, vals 18), (53, vals 19), (54, vals 20), (55, vals 21), (56, vals 22), (57, vals 23), (58, vals 24), (59, vals 25), (60, vals 26), (61, vals 27), (62, vals 28)] = _
                  rw [hv0, hv1, hv2, hv3, hv4, hv5, hv6, hv7, hv8, hv9, hv10, hv11, hv12, hv13, hv14, hv15, hv16, hv17, hv18, hv19, hv20, hv21, hv22, hv23, hv24, hv25, hv26, hv27, hv28]]
                refine W.condF rfl ?_
                refine W.skip ?_
                refine W.seq ?_
                refine W.region ?_
                have hp01 : ppv (L.take i) * (L.getD i (0, 0)).1 ^ 0 = ppv (L.take i) := Nat.mul_one _
                refine WL.fieldA (off := 1) Try.fla37_1 rfl rfl ?_
                refine WL.load Try.underlying3 rfl rfl (hVgp.vcells 1 _ rfl) rfl ?_
                refine WL.move rfl rfl ?_
                refine WL.done ?_
                refine W.block ?_
                refine W.loop (σ := Nat) (fun j w1 => w.grownBy w1 none ∧ j ≤ (L.getD i (0, 0)).2 ∧ Own w.heap.size w1 37 2 Ao mo co (pc (L)) ∧ Own w.heap.size w1 37 2 (some ⟨gp, 0, none⟩) 1 1 [.int .i64 (((L.getD i (0, 0)).1 : Nat) : Int), .int .i64 (((L.getD i (0, 0)).2 : Nat) : Int)]) (fun j => [(0, .int .u32 X), (3, .int .i64 ((v1 : Nat) : Int)), (4, .slice Ao mo co), (6, .int .i64 ((ppv (L.take i) * (L.getD i (0, 0)).1 ^ j : Nat) : Int)), (8, .pointer (some ⟨gp, 0, none⟩)), (27, .slice Ao mo co), (28, .int .i64 ((mo : Nat) : Int)), (29, .int .i64 ((i : Nat) : Int)), (64, .int .i64 (((L.getD i (0, 0)).2 : Nat) : Int)), (65, .int .i64 ((j : Nat) : Int))]) (fun j => (L.getD i (0, 0)).2 - j) 0 ?_ ?_ ?_
                · exact ⟨hB, by omega, ho, hVgp⟩
                · exact ⟨iv (by omega), iv (by omega), rfl, iv (by omega), rfl, rfl, iv (by omega), iv (by omega), iv (by omega), iv (by omega), trivial⟩
                · rintro j w54 ⟨hB, hj, ho, hVgp⟩
                  have ho_l := ho.rd.plen
                  refine W.seq ?_
                  refine W.region ?_
                  refine WL.lss rfl rfl rfl (fun c55 => ?_) (fun c55 => ?_)
                  · refine WL.done ?_
                    refine W.seq ?_
                    refine W.condT rfl ?_
                    refine W.skip ?_
                    refine W.seq ?_
                    refine W.block ?_
                    refine W.seq ?_
                    refine W.seq ?_
                    have hps : (L.getD i (0, 0)).1 ^ (j + 1) = (L.getD i (0, 0)).1 ^ j * (L.getD i (0, 0)).1 := Nat.pow_succ ..; have hgt := @gt_div (ppv (L.take i) * (L.getD i (0, 0)).1 ^ j) (L.getD i (0, 0)).1 v1 (by omega); have hmj : ppv (L.take i) * ((L.getD i (0, 0)).1 ^ j * (L.getD i (0, 0)).1) ≤ v1 := (by rw [hvx, hy, ← hps]; exact Nat.mul_le_mul_left _ (Nat.le_trans (Nat.pow_le_pow_right (by omega) (by omega)) (Nat.le_mul_of_pos_left _ hy0))); rw [Nat.mul_assoc] at hgt; have hpj : ppv (L.take i) * (L.getD i (0, 0)).1 ^ j ≤ v1 := Nat.le_trans (Nat.mul_le_mul_left _ (Nat.le_mul_of_pos_right _ (by omega))) hmj; have hpk : ppv (L.take i) * (L.getD i (0, 0)).1 ^ (j + 1) = ppv (L.take i) * ((L.getD i (0, 0)).1 ^ j * (L.getD i (0, 0)).1) := (by rw [hps])
                    · refine W.region ?_
                      refine WL.move rfl rfl ?_
                      refine WL.move rfl rfl ?_
                      refine WL.fieldA (off := 0) Try.fla37_0 rfl rfl ?_
                      refine WL.load Try.underlying3 rfl rfl (hVgp.vcells 0 _ rfl) rfl ?_
                      refine WL.quo (r := ((v1 / ((L.getD i (0, 0)).1) : Nat) : Int)) rfl rfl (by omega) (qi64 (by omega) (by omega) (by omega)) rfl ?_
                      refine WL.gtr rfl rfl rfl (fun c56 => ?_) (fun c56 => ?_)
                      · exfalso
                        omega
                      · refine WL.done ?_
                        refine W.condF rfl ?_
                        refine W.skip ?_
                        refine W.region ?_
                        refine WL.move rfl rfl ?_
                        refine WL.fieldA (off := 0) Try.fla37_0 rfl rfl ?_
                        refine WL.load Try.underlying3 rfl rfl (hVgp.vcells 0 _ rfl) rfl ?_
                        refine WL.mul (r := ((ppv (L.take i) * (L.getD i (0, 0)).1 ^ (j + 1) : Nat) : Int)) rfl rfl (by rw [← Int.natCast_mul, Nat.mul_assoc, ← hps]; exact wi64n (by omega)) rfl ?_
                        refine WL.assign rfl rfl ?_
                        refine WL.done ?_
                        refine W.region ?_
                        refine WL.add (r := ((j + 1 : Nat) : Int)) rfl rfl (wi64 (by omega) (by omega) (by omega)) rfl ?_
                        refine WL.move rfl rfl ?_
                        refine WL.done ?_
                        refine ⟨(j + 1), ⟨iv (by omega), iv (by omega), rfl, iv (by omega), rfl, rfl, iv (by omega), iv (by omega), iv (by omega), iv (by omega), trivial⟩, by omega, ?_⟩
                        exact ⟨hB, by omega, ho, hVgp⟩
                  · refine WL.done ?_
                    refine W.seq ?_
                    refine W.condF rfl ?_
                    refine W.exit ?_
                    refine W.region ?_
                    have hje : j = (L.getD i (0, 0)).2 := by omega
                    have hpe : ppv (L.take i) * (L.getD i (0, 0)).1 ^ j = ppv (L.take (i + 1)) := by rw [hpt, hje]
                    refine WL.add (r := ((i + 1 : Nat) : Int)) rfl rfl (wi64 (by omega) (by omega) (by omega)) rfl ?_
                    refine WL.move rfl rfl ?_
                    refine WL.done ?_
                    refine ⟨(i + 1, y, Ao, mo, co), ⟨iv (by omega), iv (by omega), rfl, iv (by omega), rfl, iv (by omega), iv (by omega), trivial⟩, by (dsimp only; omega), ?_⟩
                    exact ⟨hB, by omega, hF3, by rw [hpt, hvx, hy]; rw [Nat.mul_comm y, Nat.mul_assoc], ho⟩
            · refine W.draw [⟨[], [8], true⟩, ⟨[0], [], false⟩, ⟨[1], [], false⟩, ⟨[2], [], true⟩, ⟨[3], [], true⟩, ⟨[4], [8], true⟩, ⟨[4, 5], [], false⟩, ⟨[4, 6], [], true⟩, ⟨[4, 7], [], true⟩, ⟨[8], [], true⟩, ⟨[9], [8], true⟩, ⟨[9, 10], [], false⟩, ⟨[9, 11], [], true⟩, ⟨[9, 12], [], true⟩, ⟨[13], [], true⟩, ⟨[14], [7], true⟩, ⟨[14, 15], [], true⟩, ⟨[14, 16], [], true⟩, ⟨[17], [4], true⟩, ⟨[17], [7], true⟩, ⟨[17, 19], [], true⟩, ⟨[17, 18, 20], [], true⟩, ⟨[17, 21], [], true⟩, ⟨[17, 22], [], false⟩, ⟨[17], [8], true⟩, ⟨[17, 24], [], false⟩, ⟨[17, 23, 25], [], true⟩, ⟨[14, 17, 26], [], true⟩, ⟨[14, 27], [], true⟩] [[(8, .pointer (some ⟨gp, 0, none⟩))], [], [], [], [], [(8, .pointer (some ⟨gp, 0, none⟩))], [], [], [], [], [(8, .pointer (some ⟨gp, 0, none⟩))], [], [], [], [], [(7, .int .i64 ((i : Nat) : Int))], [], [], [(4, .slice Ao mo co)], [(7, .int .i64 ((i : Nat) : Int))], [], [], [], [], [(8, .pointer (some ⟨gp, 0, none⟩))], [], [], [], []] (fun iQ => [fun v wQ => v = .pointer (some ((⟨gp, 0, none⟩ : Addr).add 0)), fun v wQ => v = .int .i64 (((L.getD i (0, 0)).1 : Nat) : Int), fun v wQ => v = .bool true, fun v wQ => v = .bool false, fun v wQ => v = .bool false, fun v wQ => v = .pointer (some ((⟨gp, 0, none⟩ : Addr).add 1)), fun v wQ => v = .int .i64 (((L.getD i (0, 0)).2 : Nat) : Int), fun v _ => v = .bool false, fun v wQ => v = .bool false, fun v wQ => v = .bool false, fun v wQ => v = .pointer (some ((⟨gp, 0, none⟩ : Addr).add 1)), fun v wQ => v = .int .i64 (((L.getD i (0, 0)).2 : Nat) : Int), fun v _ => v = .bool false, fun v wQ => v = .bool false, fun v wQ => v = .bool false, fun v wQ => v = .int .i64 ((i : Nat) : Int), fun v _ => v = .bool true, fun v wQ => v = .bool true, fun v wQ => v = .slice Ao mo co, fun v wQ => v = .int .i64 ((i : Nat) : Int), fun v wQ => v = .int .i64 ((i - 1 : Nat) : Int), fun v wQ => v = .pointer (some ((adOf Ao).add ((i - 1) * 2))), fun v wQ => v = .pointer (some (((adOf Ao).add ((i - 1) * 2)).add 0)), fun v wQ => v = .int .i64 (((L.getD (i - 1) (0, 0)).1 : Nat) : Int), fun v wQ => v = .pointer (some ((⟨gp, 0, none⟩ : Addr).add 0)), fun v wQ => v = .int .i64 (((L.getD i (0, 0)).1 : Nat) : Int), fun v _ => v = .bool false, fun v wQ => v = .bool false, fun v wQ => v = .bool false].getD iQ (fun _ _ => True)) (fun _ => True) 29 Try.mixed (by kernel_rfl) ?_ ?_ ?_
              · refine Vs_mono _ ?_
                intro VQ hVQ vQ wQ1 wQ2 hQ1 hQ2
                have hQ2 := hQ2.resolve_right (by decide)
                simp only [List.mem_cons, List.not_mem_nil, or_false] at hVQ
                rcases hVQ with rfl | rfl | rfl | rfl | rfl | rfl | rfl | rfl | rfl | rfl | rfl | rfl | rfl | rfl | rfl | rfl | rfl | rfl | rfl | rfl | rfl | rfl | rfl | rfl | rfl | rfl | rfl | rfl | rfl
                · exact hQ1
                · exact hQ1
                · exact hQ1
                · exact hQ1
                · exact hQ1
                · exact hQ1
                · exact hQ1
                · exact hQ1
                · exact hQ1
                · exact hQ1
                · exact hQ1
                · exact hQ1
                · exact hQ1
                · exact hQ1
                · exact hQ1
                · exact hQ1
                · exact hQ1
                · exact hQ1
                · exact hQ1
                · exact hQ1
                · exact hQ1
                · exact hQ1
                · exact hQ1
                · exact hQ1
                · exact hQ1
                · exact hQ1
                · exact hQ1
                · exact hQ1
                · exact hQ1
              · refine ⟨⟨rfl, ⟨rfl, trivial⟩, ?_⟩, ⟨rfl, trivial, ?_⟩, ⟨rfl, trivial, ?_⟩, ⟨rfl, trivial, ?_⟩, ⟨rfl, trivial, ?_⟩, ⟨rfl, ⟨rfl, trivial⟩, ?_⟩, ⟨rfl, trivial, ?_⟩, ⟨rfl, trivial, ?_⟩, ⟨rfl, trivial, ?_⟩, ⟨rfl, trivial, ?_⟩, ⟨rfl, ⟨rfl, trivial⟩, ?_⟩, ⟨rfl, trivial, ?_⟩, ⟨rfl, trivial, ?_⟩, ⟨rfl, trivial, ?_⟩, ⟨rfl, trivial, ?_⟩, ⟨rfl, ⟨rfl, trivial⟩, ?_⟩, ⟨rfl, trivial, ?_⟩, ⟨rfl, trivial, ?_⟩, ⟨rfl, ⟨rfl, trivial⟩, ?_⟩, ⟨rfl, ⟨rfl, trivial⟩, ?_⟩, ⟨rfl, trivial, ?_⟩, ⟨rfl, trivial, ?_⟩, ⟨rfl, trivial, ?_⟩, ⟨rfl, trivial, ?_⟩, ⟨rfl, ⟨rfl, trivial⟩, ?_⟩, ⟨rfl, trivial, ?_⟩, ⟨rfl, trivial, ?_⟩, ⟨rfl, trivial, ?_⟩, ⟨rfl, trivial, ?_⟩, trivial⟩
                · intro w57 hE
                  intro R
                  refine WL.fieldA (off := 0) Try.fla37_0 rfl rfl ?_
                  exact WL.done ⟨_, rfl, rfl, rfl⟩
                · intro w58 hE
                  have hE := hE rfl
                  have hB := ext_trans hB hE
                  have hVgp := hVgp.ext hE
                  rintro _ rfl
                  intro R
                  refine WL.load Try.underlying3 rfl rfl (hVgp.vcells 0 _ rfl) rfl ?_
                  exact WL.done ⟨_, rfl, ext_refl _, rfl⟩
                · intro w59 hE
                  have hE := hE rfl
                  have hB := ext_trans hB hE
                  rintro _ rfl
                  intro R
                  refine WL.call Try.func24 rfl Try.nm24 rfl rfl (Prime_t (by omega) (by assumption)) ?_
                  rintro _ w60 ⟨rfl, hGw60⟩
                  have hB := ext_trans hB hGw60
                  exact WL.done ⟨_, rfl, hGw60, rfl⟩
                · intro w61 hE
                  rintro _ rfl
                  intro R
                  refine WL.not rfl rfl ?_
                  exact WL.done ⟨_, rfl, rfl, rfl⟩
                · intro w62 hE
                  rintro _ rfl
                  intro R
                  refine WL.move rfl rfl ?_
                  exact WL.done ⟨_, rfl, rfl, rfl⟩
                · intro w63 hE
                  rintro _ rfl
                  intro R
                  refine WL.take rfl ?_
                  refine WL.fieldA (off := 1) Try.fla37_1 rfl rfl ?_
                  exact WL.done ⟨_, rfl, rfl, rfl⟩
                · intro w64 hE
                  have hE := hE rfl
                  have hB := ext_trans hB hE
                  have hVgp := hVgp.ext hE
                  rintro _ rfl
                  rintro _ rfl
                  intro R
                  refine WL.take rfl ?_
                  refine WL.load Try.underlying3 rfl rfl (hVgp.vcells 1 _ rfl) rfl ?_
                  exact WL.done ⟨_, rfl, ext_refl _, rfl⟩
                · intro w65 hE
                  rintro _ rfl
                  rintro _ rfl
                  intro R
                  refine WL.take rfl ?_
                  refine WL.lssD rfl rfl rfl ?_
                  exact WL.done ⟨_, rfl, rfl, (dec_f (by omega))⟩
                · intro w66 hE
                  rintro _ rfl
                  rintro _ rfl
                  intro R
                  refine WL.pick rfl rfl rfl ?_
                  exact WL.done ⟨_, rfl, rfl, rfl⟩
                · intro w67 hE
                  rintro _ rfl
                  intro R
                  refine WL.move rfl rfl ?_
                  exact WL.done ⟨_, rfl, rfl, rfl⟩
                · intro w68 hE
                  rintro _ rfl
                  intro R
                  refine WL.take rfl ?_
                  refine WL.fieldA (off := 1) Try.fla37_1 rfl rfl ?_
                  exact WL.done ⟨_, rfl, rfl, rfl⟩
                · intro w69 hE
                  have hE := hE rfl
                  have hB := ext_trans hB hE
                  have hVgp := hVgp.ext hE
                  rintro _ rfl
                  rintro _ rfl
                  intro R
                  refine WL.take rfl ?_
                  refine WL.load Try.underlying3 rfl rfl (hVgp.vcells 1 _ rfl) rfl ?_
                  exact WL.done ⟨_, rfl, ext_refl _, rfl⟩
                · intro w70 hE
                  rintro _ rfl
                  rintro _ rfl
                  intro R
                  refine WL.take rfl ?_
                  refine WL.gtrD rfl rfl rfl ?_
                  exact WL.done ⟨_, rfl, rfl, (dec_f (by omega))⟩
                · intro w71 hE
                  rintro _ rfl
                  rintro _ rfl
                  intro R
                  refine WL.pick rfl rfl rfl ?_
                  exact WL.done ⟨_, rfl, rfl, rfl⟩
                · intro w72 hE
                  rintro _ rfl
                  intro R
                  refine WL.move rfl rfl ?_
                  exact WL.done ⟨_, rfl, rfl, rfl⟩
                · intro w73 hE
                  rintro _ rfl
                  intro R
                  refine WL.take rfl ?_
                  refine WL.move rfl rfl ?_
                  exact WL.done ⟨_, rfl, rfl, rfl⟩
                · intro w74 hE
                  rintro _ rfl
                  rintro _ rfl
                  intro R
                  refine WL.take rfl ?_
                  refine WL.gtrD rfl rfl rfl ?_
                  exact WL.done ⟨_, rfl, rfl, (dec_t (by omega))⟩
                · intro w75 hE
                  rintro _ rfl
                  rintro _ rfl
                  intro R
                  refine WL.take rfl ?_
                  refine WL.move rfl rfl ?_
                  exact WL.done ⟨_, rfl, rfl, rfl⟩
                · intro w76 hE
                  rintro _ rfl
                  intro R
                  refine WL.take rfl ?_
                  refine WL.move rfl rfl ?_
                  exact WL.done ⟨_, rfl, rfl, rfl⟩
                · intro w77 hE
                  rintro _ rfl
                  intro R
                  refine WL.take rfl ?_
                  refine WL.move rfl rfl ?_
                  exact WL.done ⟨_, rfl, rfl, rfl⟩
                · intro w78 hE
                  rintro _ rfl
                  rintro _ rfl
                  intro R
                  refine WL.take rfl ?_
                  refine WL.sub (r := ((i - 1 : Nat) : Int)) rfl rfl (wi64 (by omega) (by omega) (by omega)) rfl ?_
                  exact WL.done ⟨_, rfl, rfl, rfl⟩
                · intro w79 hE
                  rintro _ rfl
                  rintro _ rfl
                  rintro _ rfl
                  intro R
                  refine WL.take rfl ?_
                  refine WL.index (i - 1) Try.underlying23 Try.el37 rfl rfl (by omega) (by omega) ho.rd rfl ?_
                  exact WL.done ⟨_, rfl, rfl, rfl⟩
                · intro w80 hE
                  rintro _ rfl
                  rintro _ rfl
                  intro R
                  refine WL.take rfl ?_
                  refine WL.fieldA (off := 0) Try.fla37_0 rfl rfl ?_
                  exact WL.done ⟨_, rfl, rfl, rfl⟩
                · intro w81 hE
                  have hE := hE rfl
                  have hB := ext_trans hB hE
                  have ho := ho.ext hE
                  rintro _ rfl
                  rintro _ rfl
                  intro R
                  refine WL.take rfl ?_
                  refine WL.load Try.underlying3 rfl rfl (by rw [add_add]; exact Rd.at_ ho.rd (pc_at (by first | omega | decide)).1) rfl ?_
                  exact WL.done ⟨_, rfl, ext_refl _, rfl⟩
                · intro w82 hE
                  rintro _ rfl
                  intro R
                  refine WL.take rfl ?_
                  refine WL.fieldA (off := 0) Try.fla37_0 rfl rfl ?_
                  exact WL.done ⟨_, rfl, rfl, rfl⟩
                · intro w83 hE
                  have hE := hE rfl
                  have hB := ext_trans hB hE
                  have hVgp := hVgp.ext hE
                  rintro _ rfl
                  rintro _ rfl
                  intro R
                  refine WL.take rfl ?_
                  refine WL.load Try.underlying3 rfl rfl (hVgp.vcells 0 _ rfl) rfl ?_
                  exact WL.done ⟨_, rfl, ext_refl _, rfl⟩
                · intro w84 hE
                  rintro _ rfl
                  rintro _ rfl
                  rintro _ rfl
                  intro R
                  refine WL.take rfl ?_
                  refine WL.geqD rfl rfl rfl ?_
                  exact WL.done ⟨_, rfl, rfl, (dec_f (by have h9 := fac_mono hF (i - 1) (by omega); rw [show i - 1 + 1 = i by omega] at h9; omega))⟩
                · intro w85 hE
                  rintro _ rfl
                  rintro _ rfl
                  rintro _ rfl
                  intro R
                  refine WL.take rfl ?_
                  refine WL.pick rfl rfl rfl ?_
                  exact WL.done ⟨_, rfl, rfl, rfl⟩
                · intro w86 hE
                  rintro _ rfl
                  rintro _ rfl
                  intro R
                  refine WL.pick rfl rfl rfl ?_
                  exact WL.done ⟨_, rfl, rfl, rfl⟩
              · intro vals w87 hT hVs
                rw [if_neg (by decide)] at hT
                have hB := ext_trans hB hT
                have ho := ho.ext hT
                have hVgp := hVgp.ext hT
                have hv0 : vals 0 = _ := hVs 0 (by decide) (by decide)
                have hv1 : vals 1 = _ := hVs 1 (by decide) (by decide)
                have hv2 : vals 2 = _ := hVs 2 (by decide) (by decide)
                have hv3 : vals 3 = _ := hVs 3 (by decide) (by decide)
                have hv4 : vals 4 = _ := hVs 4 (by decide) (by decide)
                have hv5 : vals 5 = _ := hVs 5 (by decide) (by decide)
                have hv6 : vals 6 = _ := hVs 6 (by decide) (by decide)
                have hv7 : vals 7 = _ := hVs 7 (by decide) (by decide)
                have hv8 : vals 8 = _ := hVs 8 (by decide) (by decide)
                have hv9 : vals 9 = _ := hVs 9 (by decide) (by decide)
                have hv10 : vals 10 = _ := hVs 10 (by decide) (by decide)
                have hv11 : vals 11 = _ := hVs 11 (by decide) (by decide)
                have hv12 : vals 12 = _ := hVs 12 (by decide) (by decide)
                have hv13 : vals 13 = _ := hVs 13 (by decide) (by decide)
                have hv14 : vals 14 = _ := hVs 14 (by decide) (by decide)
                have hv15 : vals 15 = _ := hVs 15 (by decide) (by decide)
                have hv16 : vals 16 = _ := hVs 16 (by decide) (by decide)
                have hv17 : vals 17 = _ := hVs 17 (by decide) (by decide)
                have hv18 : vals 18 = _ := hVs 18 (by decide) (by decide)
                have hv19 : vals 19 = _ := hVs 19 (by decide) (by decide)
                have hv20 : vals 20 = _ := hVs 20 (by decide) (by decide)
                have hv21 : vals 21 = _ := hVs 21 (by decide) (by decide)
                have hv22 : vals 22 = _ := hVs 22 (by decide) (by decide)
                have hv23 : vals 23 = _ := hVs 23 (by decide) (by decide)
                have hv24 : vals 24 = _ := hVs 24 (by decide) (by decide)
                have hv25 : vals 25 = _ := hVs 25 (by decide) (by decide)
                have hv26 : vals 26 = _ := hVs 26 (by decide) (by decide)
                have hv27 : vals 27 = _ := hVs 27 (by decide) (by decide)
                have hv28 : vals 28 = _ := hVs 28 (by decide) (by decide)
                rw [show (List.filterMap (fun i => Option.map (fun t => (t, vals i)) (dstAt _ i)) (List.range _)) = [(34, .pointer (some ((⟨gp, 0, none⟩ : Addr).add 0))), (35, .int .i64 (((L.getD i (0, 0)).1 : Nat) : Int)), (36, .bool true), (37, .bool false), (38, .bool false), (39, .pointer (some ((⟨gp, 0, none⟩ : Addr).add 1))), (40, .int .i64 (((L.getD i (0, 0)).2 : Nat) : Int)), (41, .bool false), (42, .bool false), (43, .bool false), (44, .pointer (some ((⟨gp, 0, none⟩ : Addr).add 1))), (45, .int .i64 (((L.getD i (0, 0)).2 : Nat) : Int)), (46, .bool false), (47, .bool false), (48, .bool false), (49, .int .i64 ((i : Nat) : Int)), (50, .bool true), (51, .bool true), (52, .slice Ao mo co), (53, .int .i64 ((i : Nat) : Int)), (54, .int .i64 ((i - 1 : Nat) : Int)), (55, .pointer (some ((adOf Ao).add ((i - 1) * 2)))), (56, .pointer (some (((adOf Ao).add ((i - 1) * 2)).add 0))), (57, .int .i64 (((L.getD (i - 1) (0, 0)).1 : Nat) : Int)), (58, .pointer (some ((⟨gp, 0, none⟩ : Addr).add 0))), (59, .int .i64 (((L.getD i (0, 0)).1 : Nat) : Int)), (60, .bool false), (61, .bool false), (62, .bool false)] from by
                  show [(34, vals 0), (35, vals 1), (36, vals 2), (37, vals 3), (38, vals 4), (39, vals 5), (40, vals 6), (41, vals 7), (42, vals 8), (43, vals 9), (44, vals 10), (45, vals 11), (46, vals 12), (47, vals 13), (48, vals 14), (49, vals 15), (50, vals 16), (51, vals 17), (52, vals 18), (53, vals 19), (54, vals 20), (55, vals 21), (56, vals 22), (57, vals 23), (58, vals 24), (59, vals 25), (60, vals 26), (61, vals 27), (62, vals 28)] = _
                  rw [hv0, hv1, hv2, hv3, hv4, hv5, hv6, hv7, hv8, hv9, hv10, hv11, hv12, hv13, hv14, hv15, hv16, hv17, hv18, hv19, hv20, hv21, hv22, hv23, hv24, hv25, hv26, hv27, hv28]]
                refine W.condF rfl ?_
                refine W.skip ?_
                refine W.seq ?_
                refine W.region ?_
                have hp01 : ppv (L.take i) * (L.getD i (0, 0)).1 ^ 0 = ppv (L.take i) := Nat.mul_one _
                refine WL.fieldA (off := 1) Try.fla37_1 rfl rfl ?_
                refine WL.load Try.underlying3 rfl rfl (hVgp.vcells 1 _ rfl) rfl ?_
                refine WL.move rfl rfl ?_
                refine WL.done ?_
                refine W.block ?_
                refine W.loop (σ := Nat) (fun j w1 => w.grownBy w1 none ∧ j ≤ (L.getD i (0, 0)).2 ∧ Own w.heap.size w1 37 2 Ao mo co (pc (L)) ∧ Own w.heap.size w1 37 2 (some ⟨gp, 0, none⟩) 1 1 [.int .i64 (((L.getD i (0, 0)).1 : Nat) : Int), .int .i64 (((L.getD i (0, 0)).2 : Nat) : Int)]) (fun j => [(0, .int .u32 X), (3, .int .i64 ((v1 : Nat) : Int)), (4, .slice Ao mo co), (6, .int .i64 ((ppv (L.take i) * (L.getD i (0, 0)).1 ^ j : Nat) : Int)), (8, .pointer (some ⟨gp, 0, none⟩)), (27, .slice Ao mo co), (28, .int .i64 ((mo : Nat) : Int)), (29, .int .i64 ((i : Nat) : Int)), (64, .int .i64 (((L.getD i (0, 0)).2 : Nat) : Int)), (65, .int .i64 ((j : Nat) : Int))]) (fun j => (L.getD i (0, 0)).2 - j) 0 ?_ ?_ ?_
                · exact ⟨hB, by omega, ho, hVgp⟩
                · exact ⟨iv (by omega), iv (by omega), rfl, iv (by omega), rfl, rfl, iv (by omega), iv (by omega), iv (by omega), iv (by omega), trivial⟩
                · rintro j w88 ⟨hB, hj, ho, hVgp⟩
                  have ho_l := ho.rd.plen
                  refine W.seq ?_
                  refine W.region ?_
                  refine WL.lss rfl rfl rfl (fun c89 => ?_) (fun c89 => ?_)
                  · refine WL.done ?_
                    refine W.seq ?_
                    refine W.condT rfl ?_
                    refine W.skip ?_
                    refine W.seq ?_
                    refine W.block ?_
                    refine W.seq ?_
                    refine W.seq ?_
                    have hps : (L.getD i (0, 0)).1 ^ (j + 1) = (L.getD i (0, 0)).1 ^ j * (L.getD i (0, 0)).1 := Nat.pow_succ ..; have hgt := @gt_div (ppv (L.take i) * (L.getD i (0, 0)).1 ^ j) (L.getD i (0, 0)).1 v1 (by omega); have hmj : ppv (L.take i) * ((L.getD i (0, 0)).1 ^ j * (L.getD i (0, 0)).1) ≤ v1 := (by rw [hvx, hy, ← hps]; exact Nat.mul_le_mul_left _ (Nat.le_trans (Nat.pow_le_pow_right (by omega) (by omega)) (Nat.le_mul_of_pos_left _ hy0))); rw [Nat.mul_assoc] at hgt; have hpj : ppv (L.take i) * (L.getD i (0, 0)).1 ^ j ≤ v1 := Nat.le_trans (Nat.mul_le_mul_left _ (Nat.le_mul_of_pos_right _ (by omega))) hmj; have hpk : ppv (L.take i) * (L.getD i (0, 0)).1 ^ (j + 1) = ppv (L.take i) * ((L.getD i (0, 0)).1 ^ j * (L.getD i (0, 0)).1) := (by rw [hps])
                    · refine W.region ?_
                      refine WL.move rfl rfl ?_
                      refine WL.move rfl rfl ?_
                      refine WL.fieldA (off := 0) Try.fla37_0 rfl rfl ?_
                      refine WL.load Try.underlying3 rfl rfl (hVgp.vcells 0 _ rfl) rfl ?_
                      refine WL.quo (r := ((v1 / ((L.getD i (0, 0)).1) : Nat) : Int)) rfl rfl (by omega) (qi64 (by omega) (by omega) (by omega)) rfl ?_
                      refine WL.gtr rfl rfl rfl (fun c90 => ?_) (fun c90 => ?_)
                      · exfalso
                        omega
                      · refine WL.done ?_
                        refine W.condF rfl ?_
                        refine W.skip ?_
                        refine W.region ?_
                        refine WL.move rfl rfl ?_
                        refine WL.fieldA (off := 0) Try.fla37_0 rfl rfl ?_
                        refine WL.load Try.underlying3 rfl rfl (hVgp.vcells 0 _ rfl) rfl ?_
                        refine WL.mul (r := ((ppv (L.take i) * (L.getD i (0, 0)).1 ^ (j + 1) : Nat) : Int)) rfl rfl (by rw [← Int.natCast_mul, Nat.mul_assoc, ← hps]; exact wi64n (by omega)) rfl ?_
                        refine WL.assign rfl rfl ?_
                        refine WL.done ?_
                        refine W.region ?_
                        refine WL.add (r := ((j + 1 : Nat) : Int)) rfl rfl (wi64 (by omega) (by omega) (by omega)) rfl ?_
                        refine WL.move rfl rfl ?_
                        refine WL.done ?_
                        refine ⟨(j + 1), ⟨iv (by omega), iv (by omega), rfl, iv (by omega), rfl, rfl, iv (by omega), iv (by omega), iv (by omega), iv (by omega), trivial⟩, by omega, ?_⟩
                        exact ⟨hB, by omega, ho, hVgp⟩
                  · refine WL.done ?_
                    refine W.seq ?_
                    refine W.condF rfl ?_
                    refine W.exit ?_
                    refine W.region ?_
                    have hje : j = (L.getD i (0, 0)).2 := by omega
                    have hpe : ppv (L.take i) * (L.getD i (0, 0)).1 ^ j = ppv (L.take (i + 1)) := by rw [hpt, hje]
                    refine WL.add (r := ((i + 1 : Nat) : Int)) rfl rfl (wi64 (by omega) (by omega) (by omega)) rfl ?_
                    refine WL.move rfl rfl ?_
                    refine WL.done ?_
                    refine ⟨(i + 1, y, Ao, mo, co), ⟨iv (by omega), iv (by omega), rfl, iv (by omega), rfl, iv (by omega), iv (by omega), trivial⟩, by (dsimp only; omega), ?_⟩
                    exact ⟨hB, by omega, hF3, by rw [hpt, hvx, hy]; rw [Nat.mul_comm y, Nat.mul_assoc], ho⟩
        · refine WL.done ?_
          refine W.seq ?_
          refine W.condF rfl ?_
          refine W.exit ?_
          refine W.seq ?_
          refine W.region ?_
          refine WL.move rfl rfl ?_
          refine WL.move rfl rfl ?_
          refine WL.eql rfl rfl rfl (fun c91 => ?_) (fun c91 => ?_)
          · refine WL.assign rfl rfl ?_
            refine WL.done ?_
            refine W.ret ?_
            refine ⟨_, rfl, ?_⟩
            exact ⟨rfl, hB⟩
          · exfalso
            have hie : i = L.length := by omega
            subst hie
            rw [List.drop_length] at hF2
            have hx1 := hF2.nil
            subst hx1
            omega

set_option maxHeartbeats 4000000 in
theorem NumberEuler_c {w : World} {X : Int} (hX : -9223372036854775808 ≤ X ∧ X ≤ 9223372036854775807) {Y : Int} (hY : -9223372036854775808 ≤ Y ∧ Y ≤ 9223372036854775807) (k : Nat) {Z : Int} (hZ : Z = k) (hk : k < 4294967296) :
    Calls Try.prog 9 #[.int .i64 X, .int .i64 Y, .int .u32 Z] w fun e w2 => ∃ v, e = .returned v ∧ (fun v w2 => v = .bool true ∧ w.grownBy w2 none) v w2 := by
  obtain ⟨m, hm⟩ : ∃ m, m = k % 2147483647 + 1 := ⟨_, rfl⟩
  obtain ⟨x, e1, hI⟩ := InvR.ex X ((m : Nat) : Int)
  obtain ⟨K, e2, hO⟩ := OrdR.ex X ((m : Nat) : Int)
  obtain ⟨L, hF⟩ := fac_exists m (by omega)
  have hphi := phiL_pos hF
  have hB := ext_refl w
  refine calls_of_W (vs := [.int .i64 X, .int .i64 Y, .int .u32 Z]) [6] Try.func9 rfl rfl rfl rfl ?_
  refine W.seq ?_
  refine W.region ?_
  refine WL.assign rfl rfl ?_
  refine WL.done ?_
  refine W.seq ?_
  refine W.seq ?_
  refine W.region ?_
  refine WL.call Try.func15 rfl Try.nm15 rfl rfl (awake_c) ?_
  rintro _ w11 ⟨rfl, hGw11⟩
  have hB := ext_trans hB hGw11
  refine WL.not rfl rfl ?_
  refine WL.done ?_
  refine W.condF rfl ?_
  refine W.skip ?_
  refine W.seq ?_
  refine W.region ?_
  refine WL.move rfl rfl ?_
  refine WL.rem (r := ((k % 2147483647 : Nat) : Int)) rfl rfl (by omega) (tmod_nat (by omega) (by omega)) rfl ?_
  refine WL.conv (r := ((k % 2147483647 : Nat) : Int)) Try.underlying35 Try.underlying3 rfl (wi64 (by omega) (by omega) (by omega)) rfl ?_
  refine WL.add (r := ((m : Nat) : Int)) rfl rfl (by rw [hm]; exact wi64 (by omega) (by omega) (by omega)) rfl ?_
  refine WL.assign rfl rfl ?_
  refine WL.done ?_
  refine W.seq ?_
  refine W.region ?_
  refine WL.move rfl rfl ?_
  refine WL.move rfl rfl ?_
  refine WL.call Try.func31 rfl Try.nm31 rfl rfl (Inverse_c (by omega) (by omega) x e1 hI) ?_
  rintro _ w12 ⟨rfl, hGw12⟩
  have hB := ext_trans hB hGw12
  refine WL.move rfl rfl ?_
  refine WL.extract rfl rfl rfl ?_
  refine WL.extract rfl rfl rfl ?_
  refine WL.assign rfl rfl ?_
  refine WL.assign rfl rfl ?_
  refine WL.done ?_
  refine W.seq ?_
  refine W.region ?_
  refine WL.move rfl rfl ?_
  refine WL.move rfl rfl ?_
  refine WL.call Try.func35 rfl Try.nm35 rfl rfl (Order_c (by omega) (by omega) K e2 hO) ?_
  rintro _ w13 ⟨rfl, hGw13⟩
  have hB := ext_trans hB hGw13
  refine WL.move rfl rfl ?_
  refine WL.extract rfl rfl rfl ?_
  refine WL.extract rfl rfl rfl ?_
  refine WL.assign rfl rfl ?_
  refine WL.assign rfl rfl ?_
  refine WL.done ?_
  refine W.seq ?_
  refine W.seq ?_
  refine W.region ?_
  refine WL.move rfl rfl ?_
  refine WL.neq rfl rfl rfl (fun c_e => ?_) (fun c_e => ?_)
  · refine WL.done ?_
    refine W.condT rfl ?_
    refine W.seq ?_
    refine W.region ?_
    refine WL.move rfl rfl ?_
    refine WL.move rfl rfl ?_
    obtain ⟨hx0, he11, hgn⟩ := invR_err hI (by omega) (by omega)
    obtain ⟨hK0, he22⟩ := ordR_err hO (by omega) hgn
    rw [Int.toNat_natCast] at hgn
    have htm := tmod_range (a := X) (n := ((m : Nat) : Int)) (by omega)
    have hgs := gcdS_ok (a := X.tmod ((m : Nat) : Int)) (b := ((m : Nat) : Int)) ⟨by omega, by omega⟩
    rw [Int.natAbs_natCast, natAbs_tmod_gcd X (by omega)] at hgs
    have hgp : 0 < Nat.gcd X.natAbs m := Nat.gcd_pos_of_pos_right _ (by omega)
    refine WL.rem (r := (X.tmod ((m : Nat) : Int))) rfl rfl (by omega) rfl rfl ?_
    refine WL.move rfl rfl ?_
    refine WL.call Try.func27 rfl Try.nm27 rfl rfl (Gcd_c (by omega) (by omega)) ?_
    rintro _ w15 ⟨rfl, hGw15⟩
    have hB := ext_trans hB hGw15
    rw [show (gcdS (X.tmod ((m : Nat) : Int)) ((m : Nat) : Int)).1 = Nat.gcd X.natAbs m by rw [hgs], show (gcdS (X.tmod ((m : Nat) : Int)) ((m : Nat) : Int)).2 = 0 by rw [hgs]]
    refine WL.move rfl rfl ?_
    refine WL.extract rfl rfl rfl ?_
    refine WL.extract rfl rfl rfl ?_
    refine WL.assign rfl rfl ?_
    refine WL.assign rfl rfl ?_
    refine WL.done ?_
    refine W.seq ?_
    refine W.region ?_
    refine WL.move rfl rfl ?_
    refine WL.eql rfl rfl rfl (fun c16 => ?_) (fun c16 => ?_)
    · refine WL.move rfl rfl ?_
      refine WL.take rfl ?_
      refine WL.move rfl rfl ?_
      refine WL.take rfl ?_
      refine WL.eql rfl rfl rfl (fun c17 => ?_) (fun c17 => ?_)
      · refine WL.pick rfl rfl rfl ?_
        refine WL.move rfl rfl ?_
        refine WL.take rfl ?_
        refine WL.move rfl rfl ?_
        refine WL.take rfl ?_
        refine WL.eql rfl rfl rfl (fun c18 => ?_) (fun c18 => ?_)
        · refine WL.pick rfl rfl rfl ?_
          refine WL.move rfl rfl ?_
          refine WL.take rfl ?_
          refine WL.move rfl rfl ?_
          refine WL.take rfl ?_
          refine WL.gtr rfl rfl rfl (fun c19 => ?_) (fun c19 => ?_)
          · refine WL.pick rfl rfl rfl ?_
            refine WL.assign rfl rfl ?_
            refine WL.done ?_
            refine W.ret ?_
            refine ⟨_, rfl, ?_⟩
            exact ⟨rfl, hB⟩
          · exfalso
            omega
        · exfalso
          omega
      · exfalso
        omega
    · exfalso
      omega
  · refine WL.done ?_
    refine W.condF rfl ?_
    refine W.skip ?_
    refine W.seq ?_
    refine W.region ?_
    refine WL.move rfl rfl ?_
    have hv := invR_ok hI (by omega)
    rw [Int.toNat_natCast] at hv
    have hgc := hv.cop
    obtain ⟨he20, hord⟩ := ordR_ok hO (by omega) (by rw [Int.toNat_natCast]; exact hgc)
    rw [Int.toNat_natCast] at hord
    have hgm := gcd_emod X (show 0 < m by omega)
    have heu := euler (a := (X % ((m : Nat) : Int)).toNat) hF (by rw [hgm]; exact hgc)
    have hKd := hord.dvd heu
    have hKle := Nat.le_of_dvd hphi.1 hKd
    have hK1 := hord.pos
    have hvl := hv.lt
    have he1n := Int.emod_nonneg X (show ((m : Nat) : Int) ≠ 0 by omega)
    have he1l := Int.emod_lt_of_pos X (show (0 : Int) < ((m : Nat) : Int) by omega)
    refine WL.call Try.func37 rfl Try.nm37 rfl rfl (Phi_ok m rfl L hF (by omega) (by omega)) ?_
    rintro _ w20 ⟨rfl, hGw20⟩
    have hB := ext_trans hB hGw20
    refine WL.move rfl rfl ?_
    refine WL.extract rfl rfl rfl ?_
    refine WL.extract rfl rfl rfl ?_
    refine WL.assign rfl rfl ?_
    refine WL.assign rfl rfl ?_
    refine WL.done ?_
    refine W.seq ?_
    refine W.seq ?_
    refine W.region ?_
    refine WL.move rfl rfl ?_
    refine WL.neq rfl rfl rfl (fun c21 => ?_) (fun c21 => ?_)
    · exfalso
      omega
    · refine WL.move rfl rfl ?_
      refine WL.take rfl ?_
      refine WL.move rfl rfl ?_
      refine WL.take rfl ?_
      refine WL.neq rfl rfl rfl (fun c22 => ?_) (fun c22 => ?_)
      · exfalso
        omega
      · refine WL.pick rfl rfl rfl ?_
        refine WL.move rfl rfl ?_
        refine WL.take rfl ?_
        refine WL.move rfl rfl ?_
        refine WL.take rfl ?_
        refine WL.lss rfl rfl rfl (fun c23 => ?_) (fun c23 => ?_)
        · exfalso
          omega
        · refine WL.pick rfl rfl rfl ?_
          refine WL.move rfl rfl ?_
          refine WL.take rfl ?_
          refine WL.move rfl rfl ?_
          refine WL.take rfl ?_
          refine WL.lss rfl rfl rfl (fun c24 => ?_) (fun c24 => ?_)
          · exfalso
            omega
          · refine WL.pick rfl rfl rfl ?_
            refine WL.move rfl rfl ?_
            refine WL.take rfl ?_
            refine WL.move rfl rfl ?_
            refine WL.take rfl ?_
            refine WL.move rfl rfl ?_
            refine WL.take rfl ?_
            refine WL.rem (r := ((0 : Nat) : Int)) rfl rfl (by omega) (by rw [Int.tmod_eq_emod_of_nonneg (by omega)]; exact_mod_cast Nat.mod_eq_zero_of_dvd hKd) rfl ?_
            refine WL.take rfl ?_
            refine WL.neq rfl rfl rfl (fun c25 => ?_) (fun c25 => ?_)
            · exfalso
              omega
            · refine WL.pick rfl rfl rfl ?_
              refine WL.move rfl rfl ?_
              refine WL.take rfl ?_
              refine WL.move rfl rfl ?_
              refine WL.take rfl ?_
              refine WL.lss rfl rfl rfl (fun c26 => ?_) (fun c26 => ?_)
              · exfalso
                omega
              · refine WL.pick rfl rfl rfl ?_
                refine WL.move rfl rfl ?_
                refine WL.take rfl ?_
                refine WL.move rfl rfl ?_
                refine WL.take rfl ?_
                refine WL.move rfl rfl ?_
                refine WL.take rfl ?_
                refine WL.geq rfl rfl rfl (fun c27 => ?_) (fun c27 => ?_)
                · exfalso
                  omega
                · refine WL.pick rfl rfl rfl ?_
                  refine WL.move rfl rfl ?_
                  refine WL.take rfl ?_
                  refine WL.move rfl rfl ?_
                  refine WL.take rfl ?_
                  refine WL.move rfl rfl ?_
                  refine WL.take rfl ?_
                  refine WL.call Try.func38 rfl Try.nm38 rfl rfl (rMod_c (by omega) m (by omega) (by omega) (by omega)) ?_
                  rintro _ w28 ⟨rfl, hGw28⟩
                  have hB := ext_trans hB hGw28
                  have hxm := mul_range (a := (((X % ((m : Nat) : Int)).toNat : Nat) : Int)) (b := ((x : Nat) : Int)) (by omega) (by omega)
                  refine WL.take rfl ?_
                  refine WL.move rfl rfl ?_
                  refine WL.take rfl ?_
                  refine WL.mul (r := ((((X % ((m : Nat) : Int)).toNat : Nat) : Int) * ((x : Nat) : Int))) rfl rfl (wi64 (by omega) (by omega) rfl) rfl ?_
                  refine WL.take rfl ?_
                  refine WL.sub (r := ((((X % ((m : Nat) : Int)).toNat : Nat) : Int) * ((x : Nat) : Int) - 1)) rfl rfl (wi64 (by omega) (by omega) (by omega)) rfl ?_
                  refine WL.take rfl ?_
                  refine WL.move rfl rfl ?_
                  refine WL.take rfl ?_
                  refine WL.rem (r := (0 : Int)) rfl rfl (by omega) (Int.tmod_eq_zero_of_dvd (by rw [Int.toNat_of_nonneg he1n]; exact hv.emod'.dvd)) rfl ?_
                  refine WL.take rfl ?_
                  refine WL.neq rfl rfl rfl (fun c29 => ?_) (fun c29 => ?_)
                  · exfalso
                    omega
                  · refine WL.pick rfl rfl rfl ?_
                    refine WL.done ?_
                    refine W.condF rfl ?_
                    refine W.skip ?_
                    refine W.seq ?_
                    refine W.region ?_
                    refine WL.move rfl rfl ?_
                    refine WL.move rfl rfl ?_
                    refine WL.move rfl rfl ?_
                    refine WL.call Try.func33 rfl Try.nm33 rfl rfl (Power_c (by omega) (by omega) (by omega)) ?_
                    rintro _ w30 ⟨rfl, hGw30⟩
                    have hB := ext_trans hB hGw30
                    rw [pow_one_of (by omega) (One.iff.1 heu)]
                    rw [pow_err_of (by omega)]
                    refine WL.move rfl rfl ?_
                    refine WL.extract rfl rfl rfl ?_
                    refine WL.extract rfl rfl rfl ?_
                    refine WL.assign rfl rfl ?_
                    refine WL.assign rfl rfl ?_
                    refine WL.done ?_
                    refine W.seq ?_
                    refine W.region ?_
                    refine WL.move rfl rfl ?_
                    refine WL.move rfl rfl ?_
                    refine WL.move rfl rfl ?_
                    refine WL.call Try.func33 rfl Try.nm33 rfl rfl (Power_c (by omega) (by omega) (by omega)) ?_
                    rintro _ w31 ⟨rfl, hGw31⟩
                    have hB := ext_trans hB hGw31
                    rw [pow_one_of (by omega) (One.iff.1 hord.one)]
                    rw [pow_err_of (by omega)]
                    refine WL.move rfl rfl ?_
                    refine WL.extract rfl rfl rfl ?_
                    refine WL.extract rfl rfl rfl ?_
                    refine WL.assign rfl rfl ?_
                    refine WL.assign rfl rfl ?_
                    refine WL.done ?_
                    refine W.seq ?_
                    refine W.seq ?_
                    refine W.region ?_
                    refine WL.move rfl rfl ?_
                    refine WL.neq rfl rfl rfl (fun c32 => ?_) (fun c32 => ?_)
                    · exfalso
                      omega
                    · refine WL.move rfl rfl ?_
                      refine WL.take rfl ?_
                      refine WL.move rfl rfl ?_
                      refine WL.take rfl ?_
                      refine WL.neq rfl rfl rfl (fun c33 => ?_) (fun c33 => ?_)
                      · exfalso
                        omega
                      · refine WL.pick rfl rfl rfl ?_
                        refine WL.move rfl rfl ?_
                        refine WL.take rfl ?_
                        refine WL.move rfl rfl ?_
                        refine WL.take rfl ?_
                        refine WL.move rfl rfl ?_
                        refine WL.take rfl ?_
                        refine WL.rem (r := ((1 % m : Nat) : Int)) rfl rfl (by omega) (tmod_nat rfl rfl) rfl ?_
                        refine WL.take rfl ?_
                        refine WL.neq rfl rfl rfl (fun c34 => ?_) (fun c34 => ?_)
                        · exfalso
                          exact c34 rfl
                        · refine WL.pick rfl rfl rfl ?_
                          refine WL.move rfl rfl ?_
                          refine WL.take rfl ?_
                          refine WL.move rfl rfl ?_
                          refine WL.take rfl ?_
                          refine WL.move rfl rfl ?_
                          refine WL.take rfl ?_
                          refine WL.rem (r := ((1 % m : Nat) : Int)) rfl rfl (by omega) (tmod_nat rfl rfl) rfl ?_
                          refine WL.take rfl ?_
                          refine WL.neq rfl rfl rfl (fun c35 => ?_) (fun c35 => ?_)
                          · exfalso
                            exact c35 rfl
                          · refine WL.pick rfl rfl rfl ?_
                            refine WL.done ?_
                            refine W.condF rfl ?_
                            refine W.skip ?_
                            refine W.seq ?_
                            refine W.seq ?_
                            refine W.region ?_
                            refine WL.move rfl rfl ?_
                            refine WL.lss rfl rfl rfl (fun c36 => ?_) (fun c36 => ?_)
                            · refine WL.move rfl rfl ?_
                              refine WL.pass rfl rfl rfl ?_
                              refine WL.pass rfl rfl rfl ?_
                              refine WL.pass rfl rfl rfl ?_
                              refine WL.pick rfl rfl rfl ?_
                              refine WL.done ?_
                              refine W.condT rfl ?_
                              refine W.seq ?_
                              refine W.region ?_
                              refine WL.assign rfl rfl ?_
                              refine WL.done ?_
                              refine W.ret ?_
                              refine ⟨_, rfl, ?_⟩
                              exact ⟨rfl, hB⟩
                            · refine WL.move rfl rfl ?_
                              refine WL.take rfl ?_
                              refine WL.move rfl rfl ?_
                              refine WL.take rfl ?_
                              refine WL.move rfl rfl ?_
                              refine WL.take rfl ?_
                              refine WL.geq rfl rfl rfl (fun c37 => ?_) (fun c37 => ?_)
                              · refine WL.pick rfl rfl rfl ?_
                                refine WL.done ?_
                                refine W.condT rfl ?_
                                refine W.seq ?_
                                refine W.region ?_
                                refine WL.assign rfl rfl ?_
                                refine WL.done ?_
                                refine W.ret ?_
                                refine ⟨_, rfl, ?_⟩
                                exact ⟨rfl, hB⟩
                              · refine WL.pick rfl rfl rfl ?_
                                refine WL.done ?_
                                refine W.condF rfl ?_
                                refine W.skip ?_
                                refine W.seq ?_
                                refine W.region ?_
                                refine WL.move rfl rfl ?_
                                refine WL.move rfl rfl ?_
                                refine WL.move rfl rfl ?_
                                refine WL.call Try.func33 rfl Try.nm33 rfl rfl (Power_c (by omega) (by omega) (by omega)) ?_
                                rintro _ w38 ⟨rfl, hGw38⟩
                                have hB := ext_trans hB hGw38
                                have hyt : Y = ((Y.toNat : Nat) : Int) := by omega
                                rw [hyt, pow_val_of (by omega), pow_err_of (by omega)]
                                rw [← hyt]
                                refine WL.move rfl rfl ?_
                                refine WL.extract rfl rfl rfl ?_
                                refine WL.extract rfl rfl rfl ?_
                                refine WL.assign rfl rfl ?_
                                refine WL.assign rfl rfl ?_
                                refine WL.done ?_
                                refine W.seq ?_
                                refine W.region ?_
                                refine WL.move rfl rfl ?_
                                refine WL.eql rfl rfl rfl (fun c39 => ?_) (fun c39 => ?_)
                                · refine WL.move rfl rfl ?_
                                  refine WL.take rfl ?_
                                  refine WL.move rfl rfl ?_
                                  refine WL.take rfl ?_
                                  refine WL.move rfl rfl ?_
                                  refine WL.take rfl ?_
                                  refine WL.rem (r := ((1 % m : Nat) : Int)) rfl rfl (by omega) (tmod_nat rfl rfl) rfl ?_
                                  refine WL.take rfl ?_
                                  refine WL.neq rfl rfl rfl (fun c40 => ?_) (fun c40 => ?_)
                                  · refine WL.pick rfl rfl rfl ?_
                                    refine WL.assign rfl rfl ?_
                                    refine WL.done ?_
                                    refine W.ret ?_
                                    refine ⟨_, rfl, ?_⟩
                                    exact ⟨rfl, hB⟩
                                  · exfalso
                                    have h9 := hord.min Y.toNat (by omega) (One.iff.2 (by omega))
                                    omega
                                · exfalso
                                  omega
end Go.Proofs.Ytdmgbahognfhbaa
set_option linter.unusedSimpArgs false
set_option linter.unusedVariables false
namespace Go.Proofs.Ytdmgbahognfhbaa
open Go.ChangeShapes Go.WideShapes Go.ChangeAt Go.RowKit
/-- A slice of ints that came in. -/
theorem ints_arg {H : Type} {enc : TypeId × Value → H} {P : Program} {W : World} {base : Nat} {spare : Nat → Bool} {held : Bool} {t e : TypeId} {A : Option Addr} {m c : Nat} {d : DataW H} {p : List MemPlace}
    (ht : P.underlying t = some (.slice e)) (he : P.underlying e = some (.int .i64)) (hc : P.cellsOf e = 1) (h : DataW.Trod enc P W base spare held t (.slice A m c) d p) : ∃ xs : List Int, Rd W.heap.size W 1 A m c (is xs) ∧ ILim xs ∧ ((d = .nil ∧ m = 0) ∨ ∃ es ss, d = .slice es ss ∧ es.length = m) := by
  obtain ⟨fuel, hf⟩ := h
  rcases open_ints ht he hc hf with ⟨hcs, hx⟩ | ⟨x, l, c', zs, hcs, _, hl, hm, hz, hx, hcell, hwz⟩
  · simp [Value.cells] at hcs
    obtain ⟨rfl, rfl, rfl⟩ := hcs
    cases hx
    exact ⟨[], Rd.nil (by simp [maxLen]), ILim.nil, .inl ⟨rfl, rfl⟩⟩
  · simp [Value.cells] at hcs
    obtain ⟨rfl, rfl, rfl⟩ := hcs
    have hzl : m ≤ zs.length := by rw [hz]; split <;> omega
    have hw : ∀ n ∈ zs, -9223372036854775808 ≤ n ∧ n ≤ 9223372036854775807 := fun n hn => int_arg (hwz n hn)
    have hr : Rd W.heap.size W 1 (some x) m c (is (zs.take m)) := by
      refine Rd.norm (B := x.block + 1) ⟨?_, hl, hm, fun hm0 => ⟨x, rfl, Nat.lt_succ_self _, fun j u hu => ?_⟩⟩
      · simp only [is_len, List.length_take]; omega
      · simp only [is, List.getElem?_map, Option.map_eq_some_iff] at hu
        obtain ⟨z, hz1, rfl⟩ := hu
        rw [List.getElem?_take] at hz1
        split at hz1
        · rename_i hj
          have hjl : j < zs.length := by omega
          have h1 := hcell j hjl
          rw [h1, List.getD_eq_getElem?_getD, hz1]
          rfl
        · cases hz1
    refine ⟨_, hr, fun n hn => hw n (List.mem_of_mem_take hn), .inr ?_⟩
    cases hx
    exact ⟨_, _, rfl, by simp [lits]; omega⟩
end Go.Proofs.Ytdmgbahognfhbaa
namespace Go.Proofs.Ytdmgbahognfhbaa
theorem u32n_arg {x : Int} (h : (Lit.int .u32 x).wf = true) : ∃ n : Nat, x = n ∧ n < 4294967296 := by
  have := u32_arg h; exact ⟨x.toNat, by omega, by omega⟩
theorem u16_arg {x : Int} (h : (Lit.int .u16 x).wf = true) : ∃ n : Nat, x = n ∧ n < 65536 := by
  simp [Lit.wf, IntKind.min, IntKind.max, IntKind.signed, IntKind.bits] at h
  exact ⟨x.toNat, by omega, by omega⟩
theorem i32_arg {x : Int} (h : (Lit.int .i32 x).wf = true) : -2147483648 ≤ x ∧ x ≤ 2147483647 := by
  simp [Lit.wf, IntKind.min, IntKind.max, IntKind.signed, IntKind.bits] at h
  omega
end Go.Proofs.Ytdmgbahognfhbaa
