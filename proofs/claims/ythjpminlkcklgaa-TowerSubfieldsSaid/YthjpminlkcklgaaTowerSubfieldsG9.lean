/- Contracts of functions of the program, and what they lean on: V6, V7, Fr, Fs2, Ft, Q1, Q2, Q3, Q4, Q5, Fz, Q6, D16, Q7. -/
import Derived.Test.YthjpminlkcklgaaTowerSubfieldsG8
set_option linter.unusedVariables false
set_option linter.unusedSimpArgs false
namespace Go.Proofs.Ythjpminlkcklgaa
/-! ### the methods -/
section
variable {F : GFv} {p m v g : Nat}
theorem v_Is {x : Int} {Q : Bool → Prop} (K : GFk F p m v g) (h : Q (decide (0 ≤ x ∧ x < ((p ^ m : Nat) : Int)))) : V_Is F x Q := by
  refine ⟨fun h0 => ?_, fun h0 => ?_⟩
  · rw [K.q]; simpa [h0] using h
  · simpa [h0] using h
theorem v_isUnit {x : Int} {Q : Bool → Prop} (K : GFk F p m v g) (h : Q (decide (inE (p ^ m) x ≠ 0))) : V_isUnit F x Q := by
  unfold inE at h
  refine ⟨fun h0 => ?_, fun h0 => ?_⟩
  · rw [K.q]
    by_cases hx : x < ((p ^ m : Nat) : Int)
    · rw [if_pos ⟨by omega, hx⟩] at h
      rw [decide_eq_true hx]
      rw [decide_eq_true (by omega)] at h; exact h
    · rw [if_neg (by omega)] at h
      rw [decide_eq_false hx]; exact h
  · by_cases hx : 0 ≤ x ∧ x < ((p ^ m : Nat) : Int)
    · rw [if_pos hx] at h
      rw [decide_eq_false (by omega)] at h; exact h
    · rw [if_neg hx] at h; exact h
theorem v_element {x : Int} {Q : Int → Prop} (K : GFk F p m v g) (h : Q ((inE (p ^ m) x : Nat) : Int)) : V_element F x Q := by
  refine v_Is K ⟨fun hb => ?_, fun hb => ?_⟩
  · have hb := of_decide_eq_true hb
    unfold inE at h
    rw [if_pos hb, Int.toNat_of_nonneg hb.1] at h; exact h
  · have hb := of_decide_eq_false hb
    unfold inE at h
    rw [if_neg hb] at h; exact h
theorem inE_cast {q : Nat} {x : Int} (h : inE q x ≠ 0) : x = ((inE q x : Nat) : Int) := by
  unfold inE at h ⊢
  split
  · rename_i hc; exact (Int.toNat_of_nonneg hc.1).symm
  · rename_i hc; rw [if_neg hc] at h; exact absurd rfl h
/-- an element but 0 is a power, and its logarithm stands in the table -/
theorem GFk.lg (K : GFk F p m v g) {x : Int} (h : inE (p ^ m) x ≠ 0) : ∃ a : Nat, a < p ^ m - 1 ∧ inE (p ^ m) x = pw (fmul p m (dv p v)) g a ∧ gi F.log x = (a : Int) ∧ (0 ≤ x ∧ x < (F.log.length : Nat)) := by
  have R := K.fv.ring
  have hlt := inE_lt R.pos x
  obtain ⟨a, ha, he⟩ := K.G.surj R (Nat.pos_of_ne_zero h) hlt
  have hx := inE_cast h
  refine ⟨a, ha, he.symm, ?_, ?_⟩
  · rw [hx, ← he, gi_nat, K.lv a ha]
  · rw [K.ll]; omega
theorem xor_fadd {m x y : Nat} (hx : x < 2 ^ m) (hy : y < 2 ^ m) : x ^^^ y = fadd 2 m x y := by
  refine (nm_eq (by decide) (Nat.xor_lt_two_pow hx hy) fun i hi => ?_).symm
  have h := Nat.testBit_xor x y i
  rw [Nat.testBit_eq_decide_div_mod_eq, Nat.testBit_eq_decide_div_mod_eq, Nat.testBit_eq_decide_div_mod_eq] at h
  simp only [dv, vadd]
  have h1 := Nat.mod_two_eq_zero_or_one (x / 2 ^ i)
  have h2 := Nat.mod_two_eq_zero_or_one (y / 2 ^ i)
  have h3 := Nat.mod_two_eq_zero_or_one ((x ^^^ y) / 2 ^ i)
  rcases h1 with h1 | h1 <;> rcases h2 with h2 | h2 <;> rcases h3 with h3 | h3 <;> rw [h1, h2, h3] at h <;> rw [h1, h2, h3] <;> first | rfl | exact absurd h (by decide)
theorem v_Add {x y : Int} {Q : Int → Prop} (K : GFk F p m v g) (h : Q ((fadd p m (inE (p ^ m) x) (inE (p ^ m) y) : Nat) : Int)) : V_Add F x y Q := by
  have R := K.fv.ring
  have hq := K.fv.q
  have hx := inE_lt R.pos x
  have hy := inE_lt R.pos y
  have hq2 := R.q2
  refine v_element K (v_element K ⟨fun h2 => ⟨⟨by omega, by omega, by omega, by omega⟩, ?_⟩, fun h2 => ⟨fun h0 => ?_, fun h0 => ⟨fun h1 => ?_, fun h1 => ?_⟩⟩⟩)
  · have hp2 : p = 2 := by have := K.fv.eP; omega
    subst hp2
    rw [← xor_fadd hx hy] at h
    exact h
  · rw [show inE (p ^ m) x = 0 by omega, R.zA hy] at h; exact h
  · rw [show inE (p ^ m) y = 0 by omega, R.Az hx] at h; exact h
  · have hi : ∀ z : Nat, z < p ^ m → inE (p ^ m) (z : Int) = z := fun z hz => inE_nat hz
    obtain ⟨a, ha, ea, la, bx⟩ := K.lg (x := ((inE (p ^ m) x : Nat) : Int)) (by rw [hi _ hx]; omega)
    obtain ⟨b, hb, eb, lb, by_⟩ := K.lg (x := ((inE (p ^ m) y : Nat) : Int)) (by rw [hi _ hy]; omega)
    rw [hi _ hx] at ea
    rw [hi _ hy] at eb
    rw [la, lb]
    have hal := K.al
    have hel := K.el
    refine ⟨by_, bx, small (by omega) (by omega), fun z => ∃ d : Nat, z = d ∧ d < p ^ m - 1 ∧ pw (fmul p m (dv p v)) g (a + d) = pw (fmul p m (dv p v)) g b, ⟨fun hn => ?_, fun hn => ?_⟩, ?_⟩
    · rw [K.q]
      refine ⟨small (by omega) (by omega), small (by omega) (by omega), b + (p ^ m - 1) - a, by omega, by omega, ?_⟩
      have := K.G.per R b 1
      rw [Nat.mul_one] at this
      rw [show a + (b + (p ^ m - 1) - a) = b + (p ^ m - 1) by omega]; exact this
    · exact ⟨b - a, by omega, by omega, by rw [show a + (b - a) = b by omega]⟩
    · rintro _ ⟨d, rfl, hd, hpd⟩
      rw [gi_nat, K.av d hd]
      have hgd := R.pw_lt g d
      have hga := R.pw_lt g a
      -- x + y = x (g^d + 1)
      have hsum : fadd p m (inE (p ^ m) x) (inE (p ^ m) y) = fmul p m (dv p v) (pw (fmul p m (dv p v)) g a) (fadd p m (pw (fmul p m (dv p v)) g d) 1) := by
        rw [R.Md hga hgd R.one_lt, R.M1 hga, ← R.pw_add K.G.lt, hpd, ← ea, ← eb, R.Ac]
      rw [hsum] at h
      have hsl := R.Al (pw (fmul p m (dv p v)) g d) 1
      refine ⟨⟨by omega, by omega⟩, fun hm1 => ?_, fun hm1 => ?_⟩
      · have hz : fadd p m (pw (fmul p m (dv p v)) g d) 1 = 0 := by
          rcases Nat.eq_zero_or_pos (fadd p m (pw (fmul p m (dv p v)) g d) 1) with h3 | h3
          · exact h3
          · obtain ⟨s, hs, hse⟩ := K.G.surj R h3 hsl
            rw [← hse, K.lv s hs] at hm1; omega
        rw [hz, R.M0 hga] at h; exact h
      · have hnz : 0 < fadd p m (pw (fmul p m (dv p v)) g d) 1 := by
          rcases Nat.eq_zero_or_pos (fadd p m (pw (fmul p m (dv p v)) g d) 1) with h3 | h3
          · rw [h3, K.l0] at hm1; exact absurd rfl hm1
          · exact h3
        obtain ⟨s, hs, hse⟩ := K.G.surj R hnz hsl
        rw [← hse] at h ⊢
        rw [K.lv s hs]
        refine ⟨bx, small (by omega) (by omega), ⟨by omega, by omega⟩, ?_⟩
        rw [show (a : Int) + (s : Int) = ((a + s : Nat) : Int) by push_cast; rfl, gi_nat, K.ev _ (by omega), R.pw_add K.G.lt]; exact h
theorem v_exponent {n : Int} {Q : Int → Prop} (K : GFk F p m v g) (hn : I64 n) (h : Q (n % (((p ^ m : Nat) : Int) - 1))) : V_exponent F n Q := by
  have hq := K.fv.q
  have hq2 := K.fv.ring.q2
  unfold V_exponent
  rw [K.q]
  have hk : (0 : Int) < ((p ^ m : Nat) : Int) - 1 := by omega
  have t1 := Int.tmod_lt_of_pos n hk
  have t2 := Int.lt_tmod_of_pos n hk
  have hm := modk (n := n) hk
  refine ⟨small (by omega) (by omega), by omega, fun z => z = n % (((p ^ m : Nat) : Int) - 1), ⟨fun hneg => ⟨small (by omega) (by omega), small (by omega) (by omega), ?_⟩, fun hpos => ?_⟩, fun z hz => by rw [hz]; exact h⟩
  · rw [← hm, Int.tmod_eq_emod_of_nonneg (by omega), Int.emod_eq_of_lt (by omega) (by omega)]
  · rw [← hm, Int.tmod_eq_emod_of_nonneg (by omega), show n.tmod (((p ^ m : Nat) : Int) - 1) + (((p ^ m : Nat) : Int) - 1) = n.tmod (((p ^ m : Nat) : Int) - 1) + (((p ^ m : Nat) : Int) - 1) * 1 by omega, Int.add_mul_emod_self_left, Int.emod_eq_of_lt (by omega) (by omega)]
theorem v_Pow {x n : Int} {Q : Int × Int → Prop} (K : GFk F p m v g) (hn : I64 n) (h0 : inE (p ^ m) x = 0 → Q (if n = 0 then (1, 0) else if n < 0 then (0, 7) else (0, 0)))
    (h1 : inE (p ^ m) x ≠ 0 → Q (((pw (fmul p m (dv p v)) (inE (p ^ m) x) (n % (((p ^ m : Nat) : Int) - 1)).toNat : Nat) : Int), 0)) : V_Pow F x n Q := by
  have R := K.fv.ring
  have hq := K.fv.q
  have hq2 := R.q2
  refine v_isUnit K ⟨fun hb => ?_, fun hb => ?_⟩
  · have hne : inE (p ^ m) x ≠ 0 := by simpa using hb
    obtain ⟨a, ha, ea, la, bx⟩ := K.lg hne
    have hel := K.el
    have hk : (0 : Int) < ((p ^ m : Nat) : Int) - 1 := by omega
    have e1 := Int.emod_nonneg n (show ((p ^ m : Nat) : Int) - 1 ≠ 0 by omega)
    have e2 := Int.emod_lt_of_pos n hk
    have h1 := h1 hne
    refine ⟨bx, _, v_exponent K hn rfl, ?_⟩
    rw [la]
    obtain ⟨e, he⟩ := Int.eq_ofNat_of_zero_le e1
    rw [he] at h1 ⊢
    rw [Int.toNat_natCast] at h1
    have hae : a * e ≤ 256 * 256 := Nat.mul_le_mul (by omega) (by omega)
    have hcast : (a : Int) * (e : Int) = ((a * e : Nat) : Int) := by push_cast; rfl
    have hmod : ((a * e : Nat) : Int) % (((p ^ m : Nat) : Int) - 1) = ((a * e % (p ^ m - 1) : Nat) : Int) := by
      rw [show ((p ^ m : Nat) : Int) - 1 = ((p ^ m - 1 : Nat) : Int) by omega]; rfl
    have hlt := Nat.mod_lt (a * e) (show 0 < p ^ m - 1 by omega)
    rw [hcast]
    refine ⟨smallN (by omega), _, v_exponent K (smallN (by omega)) rfl, ?_⟩
    rw [hmod]
    refine ⟨⟨by omega, by omega⟩, ?_⟩
    rw [gi_nat, K.ev _ (by omega), K.G.modp R, ← R.pw_pw K.G.lt, ← ea]
    exact h1
  · have hz : inE (p ^ m) x = 0 := by simpa using hb
    have h0 := h0 hz
    refine ⟨fun hneg => ?_, fun hpos => ⟨fun hz0 => ?_, fun hz0 => ?_⟩⟩
    · rwa [if_neg (by omega), if_pos hneg] at h0
    · rwa [if_pos hz0] at h0
    · rwa [if_neg hz0, if_neg hpos] at h0
theorem Od.uniq {M : Nat → Nat → Nat} {x n k : Nat} (h : Od M x n) (h' : Od M x k) : n = k := by
  rcases Nat.lt_trichotomy n k with h1 | h1 | h1
  · exact absurd h.one (h'.least n h.pos h1)
  · exact h1
  · exact absurd h'.one (h.least k h'.pos h1)
/-- sums -/
def fsum (p m : Nat) (l : List Int) : Nat → Nat
  | 0 => 0
  | k + 1 => fadd p m (fsum p m l k) (inE (p ^ m) (vo l k))
theorem fsum_lt {p m : Nat} {l : List Int} (hp : 0 < p) : ∀ k, fsum p m l k < p ^ m
  | 0 => Nat.pow_pos hp
  | k + 1 => fadd_lt hp _ _
theorem v_Sum {l : List Int} {Q : Int → Prop} (K : GFk F p m v g) (hl : l.length ≤ 1000) (h : Q ((fsum p m l l.length : Nat) : Int)) : V_Sum F l Q := by
  have hp := K.fv.p2
  refine ⟨fun z i => ∃ k : Nat, i = k ∧ k ≤ l.length ∧ z = ((fsum p m l k : Nat) : Int), fun z i => (l.length - i).toNat, ⟨0, rfl, Nat.zero_le _, rfl⟩, ?_⟩
  rintro _ _ ⟨k, rfl, hk, rfl⟩
  dsimp only
  rw [gi_nat]
  refine ⟨fun hlt => ⟨⟨by omega, by omega⟩, v_Add K ?_⟩, fun hge => by rw [show k = l.length by omega]; exact h⟩
  rw [inE_nat (fsum_lt (by omega) k)]
  exact ⟨small (by omega) (by omega), ⟨k + 1, by push_cast; rfl, by omega, rfl⟩, by omega⟩
end
end Go.Proofs.Ythjpminlkcklgaa
set_option linter.unusedVariables false
set_option linter.unusedSimpArgs false
namespace Go.Proofs.Ythjpminlkcklgaa
theorem FV.same {P M : Int} {mf : List Int} {p m v p' m' v' : Nat} (F : FV P M mf p m v) (F' : FV P M mf p' m' v') : p = p' ∧ m = m' ∧ v = v' := by
  have h1 := F.eP; have h2 := F'.eP; have h3 := F.eM; have h4 := F'.eM
  have e1 : p = p' := by omega
  have e2 : m = m' := by omega
  subst e1; subst e2
  refine ⟨rfl, rfl, ?_⟩
  have hp := F.p2
  rw [← nm_dv (p := p) (m := m) (by omega) F.vlt, ← nm_dv (p := p) (m := m) (by omega) F'.vlt, ← F.vo, ← F'.vo]
theorem v_field {F : GFv} {Q : Int × Int × List Int → Prop} (hl : F.mod.length ≤ 1000000) (h : Q (F.P, F.M, F.mod)) : V_field F Q := by
  unfold V_field V_cloneF
  exact v_clone hl h
theorem FV.len {P M : Int} {mf : List Int} {p m v : Nat} (F : FV P M mf p m v) : mf.length ≤ 1000000 := by
  have := F.m8
  by_cases hm1 : m = 1
  · rw [(F.m1 hm1).1]; simp
  · rw [F.m2 hm1, dgi_len]; omega
theorem Gn.xmod {q g : Nat} {A M : Nat → Nat → Nat} (G : Gn q M g) (R : CR q A M) {x : Nat} (h0 : 0 < x) (hx : x < q) (n : Nat) : pw M x (n % (q - 1)) = pw M x n := by
  have h1 := G.xone R h0 hx
  have h2 := Nat.mod_add_div n (q - 1)
  have h3 : pw M x (n % (q - 1) + (q - 1) * (n / (q - 1))) = pw M x (n % (q - 1)) := by rw [R.pw_add hx, ← R.pw_pw hx, h1, R.one_pw, R.M1 (R.pw_lt x _)]
  rw [h2] at h3; exact h3.symm
theorem v_PowN {F : GFv} {p m v g n : Nat} {x : Int} {Q : Int × Int → Prop} (K : GFk F p m v g) (hn0 : 0 < n) (hn : n ≤ 1000) (h : Q (((pw (fmul p m (dv p v)) (inE (p ^ m) x) n : Nat) : Int), 0)) : V_Pow F x n Q := by
  have R := K.fv.ring
  have hq2 := R.q2
  refine v_Pow K (smallN (by omega)) (fun h0 => ?_) (fun h1 => ?_)
  · rw [if_neg (by omega), if_neg (by omega)]
    rw [h0, R.zero_pw hn0] at h; exact h
  · have e : ((n : Int) % (((p ^ m : Nat) : Int) - 1)).toNat = n % (p ^ m - 1) := by
      rw [show ((p ^ m : Nat) : Int) - 1 = ((p ^ m - 1 : Nat) : Int) by omega]; rfl
    rw [e, K.G.xmod R (Nat.pos_of_ne_zero h1) (inE_lt R.pos x)]; exact h
end Go.Proofs.Ythjpminlkcklgaa
set_option linter.unusedVariables false
namespace Go.Proofs.Ythjpminlkcklgaa
/-! ### powers of the Frobenius map -/
namespace CR
variable {q g p m : Nat} {A M : Nat → Nat → Nat} (R : CR q A M)
include R
theorem fr_zero {x : Nat} (hx : x < q) : pw M x (p ^ 0) = x := by rw [Nat.pow_zero, R.pw_one hx]
theorem fr_comp {x : Nat} (hx : x < q) (i j : Nat) : pw M (pw M x (p ^ i)) (p ^ j) = pw M x (p ^ (i + j)) := by
  rw [R.pw_pw hx, ← Nat.pow_add]
theorem fr_succ {x : Nat} (hx : x < q) (j : Nat) : pw M (pw M x (p ^ j)) p = pw M x (p ^ (j + 1)) := by
  rw [R.pw_pw hx, ← Nat.pow_succ]
theorem fr_add (G : Gn q M g) (hp : IsLf p p) (hch : ∀ x, x < q → ns A x p = 0) {x y : Nat} (hx : x < q) (hy : y < q) : ∀ j, pw M (A x y) (p ^ j) = A (pw M x (p ^ j)) (pw M y (p ^ j))
  | 0 => by rw [Nat.pow_zero, R.pw_one hx, R.pw_one hy, R.pw_one (R.Al x y)]
  | j + 1 => by
    rw [← R.fr_succ (R.Al x y), fr_add G hp hch hx hy j, R.frob G hp hch (R.pw_lt x _) (R.pw_lt y _), R.fr_succ hx, R.fr_succ hy]
theorem fr_mul {x y : Nat} (hx : x < q) (hy : y < q) (j : Nat) : pw M (M x y) (p ^ j) = M (pw M x (p ^ j)) (pw M y (p ^ j)) := R.mul_pw hx hy _
theorem fr_m (G : Gn q M g) (hq : q = p ^ m) {x : Nat} (hx : x < q) : pw M x (p ^ m) = x := by rw [← hq]; exact G.xq R hx
theorem fr_per (G : Gn q M g) (hq : q = p ^ m) {x : Nat} (hx : x < q) (j : Nat) : ∀ t, pw M x (p ^ (j + m * t)) = pw M x (p ^ j)
  | 0 => rfl
  | t + 1 => by
    rw [Nat.mul_succ, ← Nat.add_assoc, ← R.fr_comp hx, fr_per G hq hx j t, R.fr_m G hq (R.pw_lt x _)]
theorem fr_mod (G : Gn q M g) (hq : q = p ^ m) {x : Nat} (hx : x < q) (j : Nat) : pw M x (p ^ (j % m)) = pw M x (p ^ j) := by
  have := R.fr_per G hq hx (j % m) (j / m)
  rw [Nat.mod_add_div] at this; exact this.symm
/-- One step more of a map that is a power. -/
theorem fr_iter {P : Nat} {x : Nat} (hx : x < q) {t : Nat} (h : pw M x (P ^ t) = x) : ∀ s, pw M x (P ^ (t * s)) = x
  | 0 => by rw [Nat.mul_zero, R.fr_zero hx]
  | s + 1 => by rw [Nat.mul_succ, ← R.fr_comp hx, fr_iter hx h s, h]
end CR
/-- t is the least number of steps after which x comes again. -/
structure Pe (M : Nat → Nat → Nat) (P x t : Nat) : Prop where
  pos : 0 < t
  back : pw M x (P ^ t) = x
  no : ∀ j, 0 < j → j < t → pw M x (P ^ j) ≠ x
theorem Pe.ex {M : Nat → Nat → Nat} {P x : Nat} : ∀ n, 0 < n → pw M x (P ^ n) = x → ∃ t, t ≤ n ∧ Pe M P x t := by
  intro n
  induction n using Nat.strongRecOn with
  | ind n ih =>
    intro h0 h
    by_cases hc : ∃ j, 0 < j ∧ j < n ∧ pw M x (P ^ j) = x
    · obtain ⟨j, h1, h2, h3⟩ := hc
      obtain ⟨t, h4, h5⟩ := ih j h2 h1 h3
      exact ⟨t, by omega, h5⟩
    · exact ⟨n, Nat.le_refl n, h0, h, fun j h1 h2 h3 => hc ⟨j, h1, h2, h3⟩⟩
theorem Pe.iff {q : Nat} {A M : Nat → Nat → Nat} (R : CR q A M) {P x t : Nat} (h : Pe M P x t) (hx : x < q) (j : Nat) : pw M x (P ^ j) = x ↔ j % t = 0 := by
  have e : pw M x (P ^ j) = pw M x (P ^ (j % t)) := by
    have h1 := R.fr_iter hx h.back (j / t)
    have h2 := R.fr_comp (p := P) hx (t * (j / t)) (j % t)
    rw [h1, Nat.div_add_mod] at h2
    exact h2.symm
  rw [e]
  refine ⟨fun h1 => ?_, fun h1 => by rw [h1, R.fr_zero hx]⟩
  rcases Nat.eq_zero_or_pos (j % t) with h2 | h2
  · exact h2
  · exact absurd h1 (h.no _ h2 (Nat.mod_lt _ h.pos))
theorem Pe.uniq {M : Nat → Nat → Nat} {P x t u : Nat} (h : Pe M P x t) (h' : Pe M P x u) : t = u := by
  rcases Nat.lt_trichotomy t u with h1 | h1 | h1
  · exact absurd h.back (h'.no t h.pos h1)
  · exact h1
  · exact absurd h'.back (h.no u h'.pos h1)
/-- The steps before the first return are different. -/
theorem Pe.inj {q : Nat} {A M : Nat → Nat → Nat} (R : CR q A M) {P x t : Nat} (h : Pe M P x t) (hx : x < q) {i j : Nat} (hij : i < j) (hj : j < t) : pw M x (P ^ i) ≠ pw M x (P ^ j) := fun e => by
  have h1 := R.fr_comp (p := P) hx i (t - i)
  have h2 := R.fr_comp (p := P) hx j (t - i)
  rw [e, h2, show i + (t - i) = t by omega, h.back] at h1
  have h3 := (h.iff R hx _).1 h1
  rw [show j + (t - i) = (j - i) + t by omega, Nat.add_mod_right, Nat.mod_eq_of_lt (by omega)] at h3
  omega
end Go.Proofs.Ythjpminlkcklgaa
set_option linter.unusedVariables false
namespace Go.Proofs.Ythjpminlkcklgaa
/-! ### the elements that a power of the Frobenius map leaves as they are -/
theorem pow_one_mod (u : Nat) (hu : 0 < u) : ∀ t, ∃ N, u ^ t = 1 + (u - 1) * N
  | 0 => ⟨0, rfl⟩
  | t + 1 => by
    obtain ⟨N, h⟩ := pow_one_mod u hu t
    refine ⟨1 + N * u, ?_⟩
    obtain ⟨w, rfl⟩ : ∃ w, u = w + 1 := ⟨u - 1, by omega⟩
    rw [Nat.pow_succ, h, Nat.add_sub_cancel, Nat.add_mul, Nat.mul_add w, Nat.mul_assoc]; omega
variable {q g p m : Nat} {A M : Nat → Nat → Nat}
theorem fix_step (G : Gn q M g) (R : CR q A M) {u N : Nat} (hN : q - 1 = (u - 1) * N) (hu : 2 ≤ u) (i : Nat) : pw M (pw M g (N * i)) u = pw M g (N * i) := by
  rw [R.pw_pw G.lt, show N * i * u = N * i + (q - 1) * i by
    obtain ⟨w, rfl⟩ : ∃ w, u = w + 1 := ⟨u - 1, by omega⟩
    rw [hN, Nat.add_sub_cancel, Nat.mul_succ, Nat.mul_comm w N, Nat.mul_assoc, Nat.mul_assoc, Nat.mul_comm i w]; omega]
  exact G.per R _ _
theorem fix_of (G : Gn q M g) (R : CR q A M) {u N a : Nat} (hN : q - 1 = (u - 1) * N) (hu : 2 ≤ u) (ha : a < q - 1) (h : pw M (pw M g a) u = pw M g a) : ∃ i, i < u - 1 ∧ a = N * i := by
  obtain ⟨w, rfl⟩ : ∃ w, u = w + 1 := ⟨u - 1, by omega⟩
  rw [Nat.add_sub_cancel] at hN ⊢
  have h0 : 0 < q - 1 := by omega
  rw [R.pw_pw G.lt, ← G.modp R (a * (w + 1))] at h
  have h1 : a * (w + 1) % (q - 1) = a := by
    have hl := Nat.mod_lt (a * (w + 1)) h0
    rcases Nat.lt_trichotomy (a * (w + 1) % (q - 1)) a with h2 | h2 | h2
    · exact absurd h (G.inj R h2 ha)
    · exact h2
    · exact absurd h.symm (G.inj R h2 hl)
  have h2 := Nat.mod_add_div (a * (w + 1)) (q - 1)
  rw [h1] at h2
  generalize a * (w + 1) / (q - 1) = c at h2
  have h3 : w * N * c = a * w := by
    rw [← hN]
    have : a * (w + 1) = a * w + a := Nat.mul_succ a w
    omega
  have hw : 0 < w := by omega
  have h4 : a = N * c := by
    have : w * (N * c) = w * a := by rw [← Nat.mul_assoc, h3, Nat.mul_comm]
    exact (Nat.eq_of_mul_eq_mul_left hw this).symm
  refine ⟨c, ?_, h4⟩
  rcases Nat.lt_or_ge c w with h5 | h5
  · exact h5
  · have : N * w ≤ N * c := Nat.mul_le_mul_left _ h5
    rw [Nat.mul_comm] at hN
    omega
theorem sub_count (G : Gn q M g) (R : CR q A M) (hp : 2 ≤ p) {d t : Nat} (hq : q = p ^ (d * t)) (hd : 0 < d) : ((List.range q).filter (fun x => decide (pw M x (p ^ d) = x))).length = p ^ d := by
  have hu : 2 ≤ p ^ d := Nat.le_trans hp (by have := Nat.pow_le_pow_right (show 0 < p by omega) hd; simpa using this)
  have hq2 := R.q2
  obtain ⟨N, hN0⟩ := pow_one_mod (p ^ d) (by omega) t
  rw [← Nat.pow_mul, ← hq] at hN0
  generalize p ^ d = u at *
  have hN : q - 1 = (u - 1) * N := by omega
  have hNp : 0 < N := Nat.pos_of_ne_zero fun e => by rw [e] at hN; omega
  have hlt : ∀ i, i < u - 1 → N * i < q - 1 := fun i hi => by
    rw [hN, Nat.mul_comm (u - 1)]; exact Nat.mul_lt_mul_of_pos_left hi hNp
  have hnd : (0 :: (List.range (u - 1)).map (fun i => pw M g (N * i))).Nodup := by
    rw [List.nodup_cons]
    refine ⟨fun h => ?_, ?_⟩
    · obtain ⟨i, _, h2⟩ := List.mem_map.1 h
      exact G.ne0 R _ h2
    · refine List.pairwise_map.2 ?_
      refine List.Pairwise.imp_of_mem ?_ (List.pairwise_lt_range (n := u - 1))
      intro a b ha hb hab
      exact G.inj R (Nat.mul_lt_mul_of_pos_left hab hNp) (hlt b (List.mem_range.1 hb))
  have hperm : ((List.range q).filter (fun x => decide (pw M x u = x))).Perm (0 :: (List.range (u - 1)).map (fun i => pw M g (N * i))) := by
    refine (List.perm_ext_iff_of_nodup (List.Pairwise.filter _ List.nodup_range) hnd).2 fun x => ?_
    rw [List.mem_filter, List.mem_range, List.mem_cons, List.mem_map, decide_eq_true_eq]
    refine ⟨fun ⟨hx, hf⟩ => ?_, fun h => ?_⟩
    · rcases Nat.eq_zero_or_pos x with h0 | h0
      · exact .inl h0
      · obtain ⟨a, ha, rfl⟩ := G.surj R h0 hx
        obtain ⟨i, hi, rfl⟩ := fix_of G R hN hu ha hf
        exact .inr ⟨i, List.mem_range.2 hi, rfl⟩
    · rcases h with rfl | ⟨i, _, rfl⟩
      · exact ⟨by omega, R.zero_pw (by omega)⟩
      · exact ⟨R.pw_lt _ _, fix_step G R hN hu i⟩
  rw [hperm.length_eq, List.length_cons, List.length_map, List.length_range]; omega
end Go.Proofs.Ythjpminlkcklgaa
set_option linter.unusedVariables false
namespace Go.Proofs.Ythjpminlkcklgaa
/-! ### sums and products over orbits -/
structure Cm (q : Nat) (o : Nat → Nat → Nat) (e : Nat) : Prop where
  el : e < q
  ol : ∀ x y, o x y < q
  oc : ∀ {x y}, x < q → y < q → o x y = o y x
  oa : ∀ {x y z}, x < q → y < q → z < q → o (o x y) z = o x (o y z)
  oe : ∀ {x}, x < q → o x e = x
def sO (o : Nat → Nat → Nat) (e : Nat) (f : Nat → Nat) : Nat → Nat
  | 0 => e
  | n + 1 => o (sO o e f n) (f n)
namespace Cm
variable {q e : Nat} {o : Nat → Nat → Nat} (C : Cm q o e)
include C
theorem lt (f : Nat → Nat) : ∀ n, sO o e f n < q
  | 0 => C.el
  | n + 1 => C.ol _ _
theorem swap4 {a b c d : Nat} (ha : a < q) (hb : b < q) (hc : c < q) (hd : d < q) : o (o a b) (o c d) = o (o a c) (o b d) := by
  rw [C.oa ha hb (C.ol c d), ← C.oa hb hc hd, C.oc hb hc, C.oa hc hb hd, ← C.oa ha hc (C.ol b d)]
theorem two {f h : Nat → Nat} (hf : ∀ i, f i < q) (hh : ∀ i, h i < q) : ∀ n, sO o e (fun i => o (f i) (h i)) n = o (sO o e f n) (sO o e h n)
  | 0 => (C.oe C.el).symm
  | n + 1 => by
    unfold sO; rw [two hf hh n, C.swap4 (C.lt f n) (C.lt h n) (hf n) (hh n)]
theorem head {f : Nat → Nat} (hf : ∀ i, f i < q) : ∀ n, sO o e f (n + 1) = o (f 0) (sO o e (fun i => f (i + 1)) n)
  | 0 => by show o e (f 0) = o (f 0) e; rw [C.oc C.el (hf 0)]
  | n + 1 => by
    have h := head hf n
    show o (sO o e f (n + 1)) (f (n + 1)) = o (f 0) (o (sO o e (fun i => f (i + 1)) n) (f (n + 1)))
    rw [h, C.oa (hf 0) (C.lt _ n) (hf _)]
theorem app {f : Nat → Nat} (hf : ∀ i, f i < q) (n : Nat) : ∀ k, sO o e f (n + k) = o (sO o e f n) (sO o e (fun i => f (n + i)) k)
  | 0 => (C.oe (C.lt f n)).symm
  | k + 1 => by
    show o (sO o e f (n + k)) (f (n + k)) = o (sO o e f n) (o (sO o e (fun i => f (n + i)) k) (f (n + k)))
    rw [app hf n k, C.oa (C.lt f n) (C.lt _ k) (hf _)]
theorem unit : ∀ n, sO o e (fun _ => e) n = e
  | 0 => rfl
  | n + 1 => by unfold sO; rw [unit n, C.oe C.el]
/-- The steps by classes: i = s * a + b. -/
theorem block {f : Nat → Nat} (hf : ∀ i, f i < q) (s : Nat) : ∀ t, sO o e f (s * t) = sO o e (fun b => sO o e (fun a => f (s * a + b)) t) s
  | 0 => by show sO o e f 0 = _; rw [show sO o e f 0 = e from rfl]; exact (C.unit s).symm
  | t + 1 => by
    rw [Nat.mul_succ, C.app hf, block hf s t, ← C.two (fun b => C.lt _ t) (fun b => hf _)]
    rfl
end Cm
theorem CR.add {q : Nat} {A M : Nat → Nat → Nat} (R : CR q A M) : Cm q A 0 := ⟨R.pos, R.Al, fun _ _ => R.Ac _ _, R.Aa, R.Az⟩
theorem CR.mul {q : Nat} {A M : Nat → Nat → Nat} (R : CR q A M) : Cm q M 1 := ⟨R.one_lt, R.Ml, R.Mc, R.Ma, R.M1⟩
section
variable {q g p m : Nat} {A M : Nat → Nat → Nat}
/-- The trace. -/
def trc (A M : Nat → Nat → Nat) (p d t x : Nat) : Nat := sO A 0 (fun i => pw M x (p ^ (d * i))) t
end
end Go.Proofs.Ythjpminlkcklgaa
set_option linter.unusedVariables false
set_option linter.unusedSimpArgs false
namespace Go.Proofs.Ythjpminlkcklgaa
section
variable {F : GFv} {p m v g : Nat} {P M : Int} {mf : List Int}
theorem w_lsame {l o : List Int} {Q : Bool → Prop} (hl : l.length ≤ 1000000) (h : Q (decide (l = o))) : V_lsame l o Q := by
  refine ⟨fun hne => ?_, fun he => ?_⟩
  · rw [decide_eq_false (fun e => hne (by rw [e]))] at h; exact h
  · have hlen : l.length = o.length := by omega
    refine ⟨fun z => ∃ j : Nat, z = j ∧ j ≤ l.length ∧ ∀ i, i < j → vo l i = vo o i, fun z => (l.length - z).toNat, ⟨0, rfl, Nat.zero_le _, fun i hi => by omega⟩, ?_⟩
    rintro _ ⟨j, rfl, hj, hv⟩
    dsimp only
    rw [gi_nat, gi_nat]
    refine ⟨fun hz => ⟨⟨by omega, by omega⟩, ⟨by omega, by omega⟩, fun hne => ?_, fun he => ⟨small (by omega) (by omega), ⟨j + 1, by push_cast; rfl, by omega, fun i hi => ?_⟩, by omega⟩⟩, fun hz => ?_⟩
    · rw [decide_eq_false (fun e => hne (by rw [e]))] at h; exact h
    · by_cases e : i = j
      · rw [e]; exact Decidable.not_not.1 he
      · exact hv i (by omega)
    · rw [decide_eq_true (vo_ext hlen fun i hi => hv i (by omega))] at h; exact h
theorem w_made {Q : Option GFv → Prop} (h0 : ¬ Valid P M mf → Q none) (h1 : ∀ (F : GFv) (p m v g : Nat), GFk F p m v g → FV P M mf p m v → Q (some F)) : V_made P M mf Q := by
  refine v_rCheck ⟨fun hn => h0 fun hV => hn (ck_ok hV), fun hn => ?_⟩
  refine v_New (fun hV => absurd (ck_no hV) (by intro e; rw [e] at hn; exact hn (by decide))) fun F p m v g K eP eM em => ⟨fun h => absurd rfl h, fun _ => ?_⟩
  have hF : FV P M mf p m v := by have := K.fv; rwa [eP, eM, em] at this
  exact h1 F p m v g K hF
theorem w_field {Q : Int × Int × List Int → Prop} (K : GFk F p m v g) (h : Q ((p : Int), (m : Int), F.mod)) : V_field F Q := by
  have hl : F.mod.length ≤ 1000000 := by
    have h8 := K.fv.m8
    by_cases hm1 : m = 1
    · rw [(K.fv.m1 hm1).1]; simp
    · rw [K.fv.m2 hm1, dgi_len]; omega
  refine v_field hl ?_
  rw [K.fv.eP, K.fv.eM]; exact h
theorem ppow (hF : FV P M mf p m v) {i : Nat} (hi : i ≤ m) : 0 < p ^ i ∧ p ^ i ≤ 256 := by
  have hp := hF.p2
  exact ⟨Nat.pow_pos (by omega), Nat.le_trans (Nat.pow_le_pow_right (by omega) hi) hF.q⟩
theorem w_frob {x k : Int} {Q : Int → Prop} (K : GFk F p m v g) (hk : I64 k) (h : Q ((pw (fmul p m (dv p v)) (inE (p ^ m) x) (p ^ (k % (m : Int)).toNat) : Nat) : Int)) : V_frob F x k Q := by
  have hm0 := K.fv.m0
  have hm8 := K.fv.m8
  have hm : (0 : Int) < m := by omega
  have t1 := Int.tmod_lt_of_pos k hm
  have t2 := Int.lt_tmod_of_pos k hm
  have hmod := modk (n := k) hm
  refine w_field K ⟨by omega, fun z => z = k % (m : Int), ⟨fun hneg => ⟨small (by omega) (by omega), ?_⟩, fun hpos => ?_⟩, ?_⟩
  · rw [← hmod, Int.tmod_eq_emod_of_nonneg (by omega), Int.emod_eq_of_lt (by omega) (by omega)]
  · rw [← hmod, Int.tmod_eq_emod_of_nonneg (by omega), show k.tmod (m : Int) + (m : Int) = k.tmod (m : Int) + (m : Int) * 1 by omega, Int.add_mul_emod_self_left, Int.emod_eq_of_lt (by omega) (by omega)]
  · rintro _ rfl
    have h3 := Int.emod_nonneg k (show (m : Int) ≠ 0 by omega)
    have h4 := Int.emod_lt_of_pos k hm
    obtain ⟨j, hj⟩ : ∃ j : Nat, k % (m : Int) = j := ⟨_, (Int.toNat_of_nonneg h3).symm⟩
    rw [hj, Int.toNat_natCast] at h
    rw [hj] at h4 ⊢
    refine ⟨fun z i => ∃ n : Nat, i = n ∧ n ≤ j ∧ z = ((p ^ n : Nat) : Int), fun z i => (j - i).toNat, ⟨0, rfl, Nat.zero_le _, by simp⟩, ?_⟩
    rintro _ _ ⟨n, rfl, hn, rfl⟩
    refine ⟨fun hlt => ?_, fun hge => ?_⟩
    · have h5 := ppow K.fv (i := n + 1) (by omega)
      have h6 : ((p ^ n : Nat) : Int) * (p : Int) = ((p ^ (n + 1) : Nat) : Int) := by rw [Nat.pow_succ]; push_cast; rfl
      rw [h6]
      exact ⟨smallN (by omega), small (by omega) (by omega), ⟨n + 1, by push_cast; rfl, by omega, rfl⟩, by show ((j : Int) - ((n : Int) + 1)).toNat < ((j : Int) - (n : Int)).toNat; omega⟩
    · obtain rfl : n = j := by omega
      have h5 := ppow K.fv (i := n) (by omega)
      exact v_PowN K h5.1 (by omega) h
theorem w_frobN {x : Int} {c : Nat} {Q : Int → Prop} (K : GFk F p m v g) (hc : c ≤ 1000000) (h : Q ((pw (fmul p m (dv p v)) (inE (p ^ m) x) (p ^ c) : Nat) : Int)) : V_frob F x (c : Int) Q := by
  refine w_frob K (smallN (by omega)) ?_
  rw [show ((c : Int) % (m : Int)).toNat = c % m by rw [← Int.natCast_emod]; rfl, K.fv.ring.fr_mod K.G rfl (inE_lt K.fv.ring.pos x)]
  exact h
theorem w_rPowP {n : Nat} {x : Int} {Q : Int × Int → Prop} (K : GFk F p m v g) (hF : FV P M mf p m v) (hn0 : 0 < n) (hn : n ≤ 1000) (h : Q (((pw (fmul p m (dv p v)) (inE (p ^ m) x) n : Nat) : Int), 0)) : V_rPow P M mf x n Q := by
  have R := K.fv.ring
  have hq2 := R.q2
  refine v_rPow hF (fun h0 => ?_) (fun h1 => ?_) (smallN (by omega))
  · rw [if_neg (by omega), if_neg (by omega)]
    rw [h0, R.zero_pw hn0] at h; exact h
  · have e : ((n : Int) % (((p ^ m : Nat) : Int) - 1)).toNat = n % (p ^ m - 1) := by
      rw [show ((p ^ m : Nat) : Int) - 1 = ((p ^ m - 1 : Nat) : Int) by omega]; rfl
    rw [e, K.G.xmod R (Nat.pos_of_ne_zero h1) (inE_lt R.pos x)]; exact h
theorem w_rfrob {x : Int} {c : Nat} {Q : Int → Prop} (K : GFk F p m v g) (hF : FV P M mf p m v) (hc : c ≤ 1000000) (h : Q ((pw (fmul p m (dv p v)) (inE (p ^ m) x) (p ^ c) : Nat) : Int)) : V_rfrob P M mf x (c : Int) Q := by
  have R := K.fv.ring
  have hx := inE_lt R.pos x
  have hp := hF.p2
  have hp256 := hF.p256
  refine v_rIn hF ⟨fun z i => ∃ n : Nat, i = n ∧ n ≤ c ∧ z = ((pw (fmul p m (dv p v)) (inE (p ^ m) x) (p ^ n) : Nat) : Int), fun z i => (c - i).toNat, ⟨0, rfl, Nat.zero_le _, by rw [R.fr_zero hx]⟩, ?_⟩
  rintro _ _ ⟨n, rfl, hn, rfl⟩
  refine ⟨fun hlt => ?_, fun hge => ?_⟩
  · rw [show P = (p : Int) from hF.eP]
    have hF' : FV (p : Int) M mf p m v := by have := hF; rwa [hF.eP] at this
    refine w_rPowP K hF' (by omega) (by omega) ?_
    rw [inE_nat (R.pw_lt _ _), R.fr_succ hx]
    exact ⟨small (by omega) (by omega), ⟨n + 1, by push_cast; rfl, by omega, rfl⟩, by show ((c : Int) - ((n : Int) + 1)).toNat < ((c : Int) - (n : Int)).toNat; omega⟩
  · obtain rfl : n = c := by omega
    exact h
end
end Go.Proofs.Ythjpminlkcklgaa
set_option linter.unusedVariables false
set_option linter.unusedSimpArgs false
namespace Go.Proofs.Ythjpminlkcklgaa
section
variable {F : GFv} {p m v g : Nat} {P M : Int} {mf : List Int}
theorem vo_map (f : Nat → Int) (n i : Nat) : vo ((List.range n).map f) i = if i < n then f i else 0 := by
  unfold vo
  rw [List.getD_eq_getElem?_getD, List.getElem?_map]
  by_cases h : i < n
  · rw [if_pos h, List.getElem?_range h]; rfl
  · rw [if_neg h, List.getElem?_eq_none (by simpa using h)]; rfl
/-- d is a degree of a subfield. -/
def IsD (m : Nat) (d : Int) : Prop := ∃ c t : Nat, d = (c : Int) ∧ 0 < c ∧ m = c * t
theorem IsD.of {m c : Nat} (hc : 0 < c) (h : m % c = 0) : m = c * (m / c) := by
  have := Nat.mod_add_div m c; omega
theorem w_isDegree {d : Int} {Q : Bool → Prop} (K : GFk F p m v g) (h1 : ∀ c t : Nat, d = c → 0 < c → m = c * t → Q true) (h0 : ¬ IsD m d → Q false) : V_isDegree F d Q := by
  refine ⟨fun hd => w_field K ⟨by omega, ?_⟩, fun hd => h0 fun ⟨c, t, h2, h3, _⟩ => by omega⟩
  obtain ⟨c, rfl⟩ := Int.eq_ofNat_of_zero_le (show 0 ≤ d by omega)
  rw [tmodN m c]
  by_cases hm : m % c = 0
  · rw [decide_eq_true (by rw [hm]; rfl)]
    exact h1 c (m / c) rfl (by omega) (IsD.of (by omega) hm)
  · rw [decide_eq_false (by omega)]
    refine h0 fun ⟨c', t, h2, h3, h4⟩ => hm ?_
    obtain rfl : c = c' := by omega
    rw [h4]; exact Nat.mul_mod_right _ _
theorem w_tdivides {d : Int} {Q : Bool → Prop} (hF : FV P M mf p m v) (h1 : ∀ c t : Nat, d = c → 0 < c → m = c * t → Q true) (h0 : ¬ IsD m d → Q false) : V_tdivides P M mf d Q := by
  have hm0 := hF.m0
  have hno : m < d.toNat → ¬ IsD m d := fun hl ⟨c, t, h2, h3, h4⟩ => by
    have ht : 0 < t := Nat.pos_of_ne_zero fun e => by rw [e, Nat.mul_zero] at h4; omega
    have : c * 1 ≤ c * t := Nat.mul_le_mul_left c ht
    omega
  refine ⟨fun hd => ⟨fun hle => ⟨by omega, ?_⟩, fun hgt => h0 (hno (by rw [hF.eM] at hgt; omega))⟩, fun hd => h0 fun ⟨c, t, h2, h3, _⟩ => by omega⟩
  obtain ⟨c, rfl⟩ := Int.eq_ofNat_of_zero_le (show 0 ≤ d by omega)
  rw [hF.eM, tmodN m c]
  by_cases hm : m % c = 0
  · rw [decide_eq_true (by rw [hm]; rfl)]
    exact h1 c (m / c) rfl (by omega) (IsD.of (by omega) hm)
  · rw [decide_eq_false (by omega)]
    refine h0 fun ⟨c', t, h2, h3, h4⟩ => hm ?_
    obtain rfl : c = c' := by omega
    rw [h4]; exact Nat.mul_mod_right _ _
/-- The list of the steps of an orbit. -/
def orb (p m v c t x : Nat) : List Int := (List.range t).map (fun i => ((pw (fmul p m (dv p v)) x (p ^ (c * i)) : Nat) : Int))
theorem orb_len {c t x : Nat} : (orb p m v c t x).length = t := by simp [orb]
theorem orb_at {c t x i : Nat} (hi : i < t) : vo (orb p m v c t x) i = ((pw (fmul p m (dv p v)) x (p ^ (c * i)) : Nat) : Int) := by
  unfold orb; rw [vo_map, if_pos hi]
theorem w_orbit {x : Int} {c t : Nat} {Q : List Int → Prop} (K : GFk F p m v g) (hc : 0 < c) (hm : m = c * t) (h : Q (orb p m v c t (inE (p ^ m) x))) : V_orbit F x (c : Int) Q := by
  have hm8 := K.fv.m8
  have e : (m : Int).tdiv (c : Int) = (t : Int) := by rw [tdivN m c, hm, Nat.mul_div_cancel_left _ hc]
  have ht : t ≤ m := by rw [hm]; exact Nat.le_mul_of_pos_left _ hc
  refine w_field K ?_
  dsimp only
  rw [e, Int.toNat_natCast]
  refine ⟨⟨by omega, small (by omega) (by omega)⟩, ⟨by omega, by omega, by omega⟩, fun l z => ∃ j : Nat, z = j ∧ j ≤ t ∧ l.length = t ∧ ∀ i, i < j → vo l i = ((pw (fmul p m (dv p v)) (inE (p ^ m) x) (p ^ (c * i)) : Nat) : Int), fun l z => (t - z).toNat, ⟨0, rfl, Nat.zero_le _, by simp, fun i hi => by omega⟩, ?_⟩
  rintro l _ ⟨j, rfl, hj, hl, hv⟩
  dsimp only
  have ecj : (c : Int) * (j : Int) = ((c * j : Nat) : Int) := by push_cast; rfl
  refine ⟨fun hlt => ?_, fun hge => ?_⟩
  · have hb : c * j ≤ m := by rw [hm]; exact Nat.mul_le_mul_left _ hj
    rw [ecj]
    refine ⟨small (by omega) (by omega), w_frobN K (by omega) ⟨⟨by omega, by omega⟩, small (by omega) (by omega), ⟨j + 1, by push_cast; rfl, by omega, by simp [si, hl], fun i hi => ?_⟩, by omega⟩⟩
    rw [si_nat, vo_set]
    by_cases hij : j = i
    · rw [if_pos ⟨hij, by omega⟩, hij]
    · rw [if_neg (by omega), hv i (by omega)]
  · have : l = orb p m v c t (inE (p ^ m) x) := vo_ext (by rw [hl, orb_len]) fun i hi => by rw [hv i (by omega), orb_at (by omega)]
    rw [this]; exact h
theorem fsum_orb (K : GFk F p m v g) {c t x : Nat} : ∀ k, k ≤ t → fsum p m (orb p m v c t x) k = sO (fadd p m) 0 (fun i => pw (fmul p m (dv p v)) x (p ^ (c * i))) k
  | 0, _ => rfl
  | k + 1, hk => by
    show fadd p m (fsum p m (orb p m v c t x) k) _ = fadd p m (sO _ 0 _ k) _
    rw [fsum_orb K k (by omega), orb_at (by omega), inE_nat (K.fv.ring.pw_lt _ _)]
theorem w_trace {x d : Int} {Q : Int × Int → Prop} (K : GFk F p m v g) (h6 : ¬ IsD m d → Q (0, 6)) (h : ∀ c t : Nat, d = c → 0 < c → m = c * t → Q (((trc (fadd p m) (fmul p m (dv p v)) p c t (inE (p ^ m) x) : Nat) : Int), 0)) : V_trace F x d Q := by
  have hm8 := K.fv.m8
  refine w_isDegree K (fun c t e hc hm => ⟨fun h => absurd h (by decide), fun _ => ?_⟩) fun hn => ⟨fun _ => h6 hn, fun h => absurd h (by decide)⟩
  subst e
  have ht : t ≤ m := by rw [hm]; exact Nat.le_mul_of_pos_left _ hc
  refine w_orbit K hc hm (v_Sum K (by rw [orb_len]; omega) ?_)
  rw [orb_len, fsum_orb K t (Nat.le_refl t)]
  exact h c t rfl hc hm
theorem w_rin {x : Int} {c : Nat} {Q : Bool → Prop} (K : GFk F p m v g) (hF : FV P M mf p m v) (hc : c ≤ 1000000) (h : Q (decide (pw (fmul p m (dv p v)) (inE (p ^ m) x) (p ^ c) = inE (p ^ m) x))) : V_rin P M mf x (c : Int) Q := by
  refine ⟨_, w_rfrob K hF hc rfl, _, v_rIn hF rfl, ?_⟩
  simp only [Int.ofNat_inj] at *
  exact h
end
end Go.Proofs.Ythjpminlkcklgaa
set_option linter.unusedVariables false
set_option linter.unusedSimpArgs false
namespace Go.Proofs.Ythjpminlkcklgaa
section
variable {F : GFv} {p m v g : Nat} {P M : Int} {mf : List Int}
theorem pe_ex (K : GFk F p m v g) {x c t : Nat} (hx : x < p ^ m) (hc : 0 < c) (hm : m = c * t) : ∃ u, u ≤ t ∧ Pe (fmul p m (dv p v)) (p ^ c) x u := by
  have hm0 := K.fv.m0
  have ht : 0 < t := Nat.pos_of_ne_zero fun e => by rw [e, Nat.mul_zero] at hm; omega
  refine Pe.ex t ht ?_
  rw [← Nat.pow_mul, ← hm]
  exact K.G.xq K.fv.ring hx
theorem orb_take {c t u x : Nat} (h : u ≤ t) : (orb p m v c t x).take u = orb p m v c u x := by
  unfold orb
  rw [← List.map_take, List.take_range, Nat.min_eq_left h]
theorem w_conj {x d : Int} {Q : List Int × Int → Prop} (K : GFk F p m v g) (h6 : ¬ IsD m d → Q ([], 6)) (h : ∀ c t u : Nat, d = c → 0 < c → m = c * t → u ≤ t → Pe (fmul p m (dv p v)) (p ^ c) (inE (p ^ m) x) u → Q (orb p m v c u (inE (p ^ m) x), 0)) : V_conj F x d Q := by
  have hm8 := K.fv.m8
  have R := K.fv.ring
  have hx := inE_lt R.pos x
  refine w_isDegree K (fun c t e hc hm => ⟨fun h => absurd h (by decide), fun _ => ?_⟩) fun hn => ⟨fun _ => h6 hn, fun h => absurd h (by decide)⟩
  subst e
  have ht : t ≤ m := by rw [hm]; exact Nat.le_mul_of_pos_left _ hc
  obtain ⟨u, hu, hP⟩ := pe_ex K hx hc hm
  have hu0 := hP.pos
  refine w_orbit K hc hm ⟨fun z => z = (u : Int), ⟨fun z => ∃ j : Nat, z = j ∧ 1 ≤ j ∧ j ≤ u, fun z => (u - z).toNat, ⟨1, rfl, Nat.le_refl 1, hu0⟩, ?_⟩, ?_⟩
  · rintro _ ⟨j, rfl, hj1, hj⟩
    dsimp only
    rw [orb_len]
    refine ⟨fun hlt => ⟨⟨by omega, by omega⟩, ⟨by omega, by omega⟩, ?_⟩, fun hge => by omega⟩
    have e0 : gi (orb p m v c t (inE (p ^ m) x)) (0 : Int) = ((inE (p ^ m) x : Nat) : Int) := by
      show vo (orb p m v c t (inE (p ^ m) x)) 0 = _
      rw [orb_at (by omega), Nat.mul_zero, R.fr_zero hx]
    have ej : gi (orb p m v c t (inE (p ^ m) x)) (j : Int) = ((pw (fmul p m (dv p v)) (inE (p ^ m) x) ((p ^ c) ^ j) : Nat) : Int) := by
      rw [gi_nat, orb_at (by omega), Nat.pow_mul]
    rw [e0, ej]
    refine ⟨fun hne => ?_, fun he => ?_⟩
    · have : j ≠ u := fun e => hne (by rw [e, hP.back])
      exact ⟨small (by omega) (by omega), ⟨j + 1, by push_cast; rfl, by omega, by omega⟩, by omega⟩
    · have he2 : pw (fmul p m (dv p v)) (inE (p ^ m) x) ((p ^ c) ^ j) = inE (p ^ m) x := Int.ofNat.inj (Decidable.not_not.1 he)
      have : ¬ j < u := fun hl => hP.no j hj1 hl he2
      show (j : Int) = u
      omega
  · rintro _ rfl
    rw [orb_len, Int.toNat_natCast, orb_take hu]
    exact ⟨⟨by omega, by omega⟩, h c t u rfl hc hm hu hP⟩
theorem w_tdegree {x : Int} {Q : Int → Prop} (K : GFk F p m v g) (h : ∀ u : Nat, u ≤ m → Pe (fmul p m (dv p v)) p (inE (p ^ m) x) u → Q (u : Int)) : V_tdegree F x Q := by
  refine w_conj K (fun hn => absurd ⟨1, m, rfl, by decide, by omega⟩ hn) fun c t u e hc hm hu hP => ?_
  obtain rfl : c = 1 := by omega
  dsimp only
  rw [orb_len]
  rw [Nat.pow_one] at hP
  exact h u (by omega) hP
def subL (p m v c n : Nat) : List Int := ((List.range n).filter (fun x => decide (pw (fmul p m (dv p v)) x (p ^ c) = x))).map (fun (a : Nat) => (a : Int))
theorem subL_succ (p m v c n : Nat) : subL p m v c (n + 1) = if pw (fmul p m (dv p v)) n (p ^ c) = n then subL p m v c n ++ [(n : Int)] else subL p m v c n := by
  unfold subL
  rw [List.range_succ, List.filter_append, List.map_append]
  by_cases h : pw (fmul p m (dv p v)) n (p ^ c) = n
  · rw [if_pos h]; congr 1; simp [h]
  · rw [if_neg h]; simp [h]
theorem subL_len (p m v c : Nat) : ∀ n, (subL p m v c n).length ≤ n
  | 0 => Nat.le_refl 0
  | n + 1 => by
    have := subL_len p m v c n
    rw [subL_succ]
    split
    · rw [List.length_append]; simp; omega
    · omega
theorem w_subfield {d : Int} {Q : List Int × Int → Prop} (K : GFk F p m v g) (h6 : ¬ IsD m d → Q ([], 6)) (h : ∀ c t : Nat, d = c → 0 < c → m = c * t → Q (subL p m v c (p ^ m), 0)) : V_subfield F d Q := by
  have hm8 := K.fv.m8
  have hq := K.fv.q
  have R := K.fv.ring
  refine w_isDegree K (fun c t e hc hm => ⟨fun h => absurd h (by decide), fun _ => ?_⟩) fun hn => ⟨fun _ => h6 hn, fun h => absurd h (by decide)⟩
  subst e
  have hcm : c ≤ m := by
    have hm0 := K.fv.m0
    have ht : 0 < t := Nat.pos_of_ne_zero fun e => by rw [e, Nat.mul_zero] at hm; omega
    rw [hm]; exact Nat.le_mul_of_pos_right _ ht
  show I64 F.q ∧ _
  rw [K.q, Int.toNat_natCast]
  refine ⟨small (by omega) (by omega), fun i l => l = subL p m v c i, rfl, ?_, ?_⟩
  · rintro i hi _ rfl
    have hl := subL_len p m v c i
    refine w_frobN K (by omega) ?_
    rw [inE_nat hi]
    refine ⟨fun he => ⟨by omega, ?_⟩, fun hne => ?_⟩
    · show _ = subL p m v c (i + 1)
      rw [subL_succ, if_pos (Int.ofNat.inj he)]
    · show _ = subL p m v c (i + 1)
      rw [subL_succ, if_neg (fun e => hne (by rw [e]))]
  · rintro _ rfl
    exact h c t rfl hc hm
theorem fv24 : FV 2 4 [1, 1, 0, 0] 2 4 3 := ⟨rfl, rfl, ⟨by decide, rfl, fun e he _ => he⟩, by decide, by decide, by decide, fun h => absurd h (by decide), fun _ => by decide +kernel, (irrB_iff (by decide) (by decide)).1 (by decide +kernel)⟩
theorem w_alive {Q : Bool → Prop} (h : Q true) : V_alive Q := by
  refine w_made (fun hn => absurd ⟨_, _, _, fv24⟩ hn) fun F p m v g K hF => ?_
  obtain ⟨rfl, rfl, rfl⟩ := fv24.same hF
  refine w_subfield K (fun hn => absurd ⟨2, 2, rfl, by decide, rfl⟩ hn) fun c t e hc hm => ?_
  obtain rfl : c = 2 := by omega
  refine w_trace K (fun hn => absurd ⟨1, 4, rfl, by decide, rfl⟩ hn) fun c t e hc hm => ?_
  obtain rfl : c = 1 := by omega
  obtain rfl : t = 4 := by omega
  have e1 : subL 2 4 3 2 (2 ^ 4) = [0, 1, 6, 7] := by kernel_rfl
  have e2 : trc (fadd 2 4) (fmul 2 4 (dv 2 3)) 2 1 4 (inE (2 ^ 4) 8) = 1 := by kernel_rfl
  dsimp only
  rw [e1, e2]
  refine ⟨fun _ => w_lsame (by simp) ⟨fun _ => ⟨fun _ => ⟨fun _ => w_tdegree K fun u hu hP => ?_, fun hne => absurd rfl hne⟩, fun hne => absurd rfl hne⟩, fun hf => absurd hf (by decide)⟩, fun hne => absurd rfl hne⟩
  have hb : inE (2 ^ 4) 2 = 2 := by kernel_rfl
  rw [hb] at hP
  have h1 : pw (fmul 2 4 (dv 2 3)) 2 (2 ^ 1) = 4 := by kernel_rfl
  have h2 : pw (fmul 2 4 (dv 2 3)) 2 (2 ^ 2) = 3 := by kernel_rfl
  have h3 : pw (fmul 2 4 (dv 2 3)) 2 (2 ^ 3) = 5 := by kernel_rfl
  have hu0 := hP.pos
  have hb := hP.back
  have : u = 4 := by
    rcases (show u = 1 ∨ u = 2 ∨ u = 3 ∨ u = 4 by omega) with rfl | rfl | rfl | rfl
    · rw [h1] at hb; omega
    · rw [h2] at hb; omega
    · rw [h3] at hb; omega
    · rfl
  subst this
  exact h
theorem nb {A B : Prop} (h : B) : ((!true) = true → A) ∧ ((!true) = false → B) := ⟨fun e => absurd e (by decide), fun _ => h⟩
theorem nf {A B : Prop} (h : A) : ((!false) = true → A) ∧ ((!false) = false → B) := ⟨fun _ => h, fun e => absurd e (by decide)⟩
end
end Go.Proofs.Ythjpminlkcklgaa
set_option linter.unusedVariables false
set_option linter.unusedSimpArgs false
namespace Go.Proofs.Ythjpminlkcklgaa
section
variable {F : GFv} {p m v g : Nat} {P M : Int} {mf : List Int}
theorem chz (hF : FV P M mf p m v) : ∀ x, x < p ^ m → ns (fadd p m) x p = 0 := fun x hx => ns_char (by have := hF.p2; omega) hx
end
end Go.Proofs.Ythjpminlkcklgaa
set_option linter.unusedVariables false
set_option linter.unusedSimpArgs false
namespace Go.Proofs.Ythjpminlkcklgaa
section
variable {F : GFv} {p m v g : Nat} {P M : Int} {mf : List Int}
theorem cm_le {m c t : Nat} (hm0 : 0 < m) (hm : m = c * t) : c ≤ m ∧ t ≤ m := by
  have ht : 0 < t := Nat.pos_of_ne_zero fun e => by rw [e, Nat.mul_zero] at hm; omega
  have hc : 0 < c := Nat.pos_of_ne_zero fun e => by rw [e, Nat.zero_mul] at hm; omega
  exact ⟨by rw [hm]; exact Nat.le_mul_of_pos_right _ ht, by rw [hm]; exact Nat.le_mul_of_pos_left _ hc⟩
theorem subL_count (K : GFk F p m v g) (hF : FV P M mf p m v) {c t : Nat} (hc : 0 < c) (hm : m = c * t) : (subL p m v c (p ^ m)).length = p ^ c := by
  unfold subL
  rw [List.length_map]
  exact sub_count K.G hF.ring hF.p2 (d := c) (t := t) (by rw [← hm]) hc
end
end Go.Proofs.Ythjpminlkcklgaa
set_option linter.unusedSimpArgs false
set_option linter.unusedVariables false
namespace Go.Proofs.Ythjpminlkcklgaa
open Go.ChangeShapes Go.WideShapes Go.ChangeAt Go.RowKit
/-- an array of two ints -/
theorem arr2_arg {H : Type} {enc : TypeId × Value → H} {P : Program} {W : World} {base : Nat} {spare : Nat → Bool} {held : Bool} {t e : TypeId} {cs : Array Value} {d : DataW H} {p : List MemPlace} (ht : P.underlying t = some (.array 2 e)) (he : P.underlying e = some (.int .i64)) (hc : P.cellsOf e = 1) (h3 : P.cellsOf t = 2) (h : DataW.Trod enc P W base spare held t (.agg cs) d p) :
    ∃ a b : Int, cs = #[.int .i64 a, .int .i64 b] := by
  obtain ⟨fuel, hf⟩ := h
  obtain ⟨xs, n, _, _, hl, hx, hel⟩ := DataW.trod_array ht hf
  have e2 : (Value.agg cs).cells.toList = cs.toList := rfl
  rw [e2] at hl hel
  rw [h3] at hl
  generalize hcs : cs.toList = l at *
  match l, hl with
  | [v0, v1], _ =>
    match xs, hx with
    | [x0, x1], _ =>
      have h0 := hel 0 (by omega)
      have h1 := hel 1 (by omega)
      simp only [hc, Nat.zero_mul, Nat.one_mul, Nat.mul_one, List.drop_zero, List.drop_succ_cons, List.take_succ_cons, List.take_zero, List.getElem?_cons_zero, List.getElem?_cons_succ] at h0 h1
      obtain ⟨a, e0, _, _⟩ := DataW.trod_int he h0
      obtain ⟨b, e1, _, _⟩ := DataW.trod_int he h1
      have e0' : v0 = .int .i64 a := by simpa using e0
      have e1' : v1 = .int .i64 b := by simpa using e1
      subst e0'; subst e1'
      refine ⟨a, b, ?_⟩
      rw [← Array.toArray_toList (xs := cs), hcs]
end Go.Proofs.Ythjpminlkcklgaa
set_option linter.unusedVariables false
set_option linter.unusedSimpArgs false
namespace Go.Proofs.Ythjpminlkcklgaa
section
variable {F : GFv} {p m v g : Nat} {P M : Int} {mf : List Int}
end
end Go.Proofs.Ythjpminlkcklgaa
set_option linter.unusedSimpArgs false
set_option linter.unusedVariables false
namespace Go.Proofs.Ythjpminlkcklgaa
open Go.RowKit
end Go.Proofs.Ythjpminlkcklgaa
set_option linter.unusedVariables false
set_option linter.unusedSimpArgs false
namespace Go.Proofs.Ythjpminlkcklgaa
section
variable {F : GFv} {p m v g : Nat} {P M : Int} {mf : List Int}
end
end Go.Proofs.Ythjpminlkcklgaa
