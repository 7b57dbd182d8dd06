/- Contracts of functions of the program, and what they lean on: V6, V7, V8. -/
import Derived.Test.YtinibbfpdbddpaaFieldFrobeniusG9
set_option linter.unusedVariables false
set_option linter.unusedSimpArgs false
namespace Go.Proofs.Ytinibbfpdbddpaa
/-! ### the methods -/
section
variable {F : GFv} {p m v g : Nat}
theorem v_Is {x : Int} {Q : Bool → Prop} (K : GFk F p m v g) (h : Q (decide (0 ≤ x ∧ x < ((p ^ m : Nat) : Int)))) : V_Is F x Q := by
  refine ⟨fun h0 => ?_, fun h0 => ?_⟩
  · rw [K.q]; simpa [h0] using h
  · simpa [h0] using h
theorem v_isUnit {x : Int} {Q : Bool → Prop} (K : GFk F p m v g) (h : Q (decide (inE (p ^ m) x ≠ 0))) : V_isUnit F x Q := by
  unfold inE at h
  refine ⟨fun h0 => ?_, fun h0 => ?_⟩
  · rw [K.q]
    by_cases hx : x < ((p ^ m : Nat) : Int)
    · rw [if_pos ⟨by omega, hx⟩] at h
      rw [decide_eq_true hx]
      rw [decide_eq_true (by omega)] at h; exact h
    · rw [if_neg (by omega)] at h
      rw [decide_eq_false hx]; exact h
  · by_cases hx : 0 ≤ x ∧ x < ((p ^ m : Nat) : Int)
    · rw [if_pos hx] at h
      rw [decide_eq_false (by omega)] at h; exact h
    · rw [if_neg hx] at h; exact h
theorem v_element {x : Int} {Q : Int → Prop} (K : GFk F p m v g) (h : Q ((inE (p ^ m) x : Nat) : Int)) : V_element F x Q := by
  refine v_Is K ⟨fun hb => ?_, fun hb => ?_⟩
  · have hb := of_decide_eq_true hb
    unfold inE at h
    rw [if_pos hb, Int.toNat_of_nonneg hb.1] at h; exact h
  · have hb := of_decide_eq_false hb
    unfold inE at h
    rw [if_neg hb] at h; exact h
theorem inE_cast {q : Nat} {x : Int} (h : inE q x ≠ 0) : x = ((inE q x : Nat) : Int) := by
  unfold inE at h ⊢
  split
  · rename_i hc; exact (Int.toNat_of_nonneg hc.1).symm
  · rename_i hc; rw [if_neg hc] at h; exact absurd rfl h
/-- an element but 0 is a power, and its logarithm stands in the table -/
theorem GFk.lg (K : GFk F p m v g) {x : Int} (h : inE (p ^ m) x ≠ 0) : ∃ a : Nat, a < p ^ m - 1 ∧ inE (p ^ m) x = pw (fmul p m (dv p v)) g a ∧ gi F.log x = (a : Int) ∧ (0 ≤ x ∧ x < (F.log.length : Nat)) := by
  have R := K.fv.ring
  have hlt := inE_lt R.pos x
  obtain ⟨a, ha, he⟩ := K.G.surj R (Nat.pos_of_ne_zero h) hlt
  have hx := inE_cast h
  refine ⟨a, ha, he.symm, ?_, ?_⟩
  · rw [hx, ← he, gi_nat, K.lv a ha]
  · rw [K.ll]; omega
theorem v_Mul {x y : Int} {Q : Int → Prop} (K : GFk F p m v g) (h : Q ((fmul p m (dv p v) (inE (p ^ m) x) (inE (p ^ m) y) : Nat) : Int)) : V_Mul F x y Q := by
  have R := K.fv.ring
  have hq := K.fv.q
  have hx := inE_lt R.pos x
  have hy := inE_lt R.pos y
  refine v_isUnit K ⟨fun hb => ?_, fun hb => v_isUnit K ⟨fun hb2 => ?_, fun hb2 => ?_⟩⟩
  · have h0 : inE (p ^ m) x = 0 := by simpa using hb
    rw [h0, R.Z0 hy] at h; exact h
  · have h0 : inE (p ^ m) y = 0 := by simpa using hb2
    rw [h0, R.M0 hx] at h; exact h
  · obtain ⟨a, ha, ea, la, bx⟩ := K.lg (x := x) (by simpa using hb)
    obtain ⟨b, hb', eb, lb, by_⟩ := K.lg (x := y) (by simpa using hb2)
    rw [la, lb]
    have hel := K.el
    refine ⟨bx, by_, small (by omega) (by omega), ⟨by omega, by omega⟩, ?_⟩
    rw [show (a : Int) + (b : Int) = ((a + b : Nat) : Int) by push_cast; rfl, gi_nat, K.ev _ (by omega), R.pw_add K.G.lt, ← ea, ← eb]; exact h
theorem xor_fadd {m x y : Nat} (hx : x < 2 ^ m) (hy : y < 2 ^ m) : x ^^^ y = fadd 2 m x y := by
  refine (nm_eq (by decide) (Nat.xor_lt_two_pow hx hy) fun i hi => ?_).symm
  have h := Nat.testBit_xor x y i
  rw [Nat.testBit_eq_decide_div_mod_eq, Nat.testBit_eq_decide_div_mod_eq, Nat.testBit_eq_decide_div_mod_eq] at h
  simp only [dv, vadd]
  have h1 := Nat.mod_two_eq_zero_or_one (x / 2 ^ i)
  have h2 := Nat.mod_two_eq_zero_or_one (y / 2 ^ i)
  have h3 := Nat.mod_two_eq_zero_or_one ((x ^^^ y) / 2 ^ i)
  rcases h1 with h1 | h1 <;> rcases h2 with h2 | h2 <;> rcases h3 with h3 | h3 <;> rw [h1, h2, h3] at h <;> rw [h1, h2, h3] <;> first | rfl | exact absurd h (by decide)
theorem v_Add {x y : Int} {Q : Int → Prop} (K : GFk F p m v g) (h : Q ((fadd p m (inE (p ^ m) x) (inE (p ^ m) y) : Nat) : Int)) : V_Add F x y Q := by
  have R := K.fv.ring
  have hq := K.fv.q
  have hx := inE_lt R.pos x
  have hy := inE_lt R.pos y
  have hq2 := R.q2
  refine v_element K (v_element K ⟨fun h2 => ⟨⟨by omega, by omega, by omega, by omega⟩, ?_⟩, fun h2 => ⟨fun h0 => ?_, fun h0 => ⟨fun h1 => ?_, fun h1 => ?_⟩⟩⟩)
  · have hp2 : p = 2 := by have := K.fv.eP; omega
    subst hp2
    rw [← xor_fadd hx hy] at h
    exact h
  · rw [show inE (p ^ m) x = 0 by omega, R.zA hy] at h; exact h
  · rw [show inE (p ^ m) y = 0 by omega, R.Az hx] at h; exact h
  · have hi : ∀ z : Nat, z < p ^ m → inE (p ^ m) (z : Int) = z := fun z hz => inE_nat hz
    obtain ⟨a, ha, ea, la, bx⟩ := K.lg (x := ((inE (p ^ m) x : Nat) : Int)) (by rw [hi _ hx]; omega)
    obtain ⟨b, hb, eb, lb, by_⟩ := K.lg (x := ((inE (p ^ m) y : Nat) : Int)) (by rw [hi _ hy]; omega)
    rw [hi _ hx] at ea
    rw [hi _ hy] at eb
    rw [la, lb]
    have hal := K.al
    have hel := K.el
    refine ⟨by_, bx, small (by omega) (by omega), fun z => ∃ d : Nat, z = d ∧ d < p ^ m - 1 ∧ pw (fmul p m (dv p v)) g (a + d) = pw (fmul p m (dv p v)) g b, ⟨fun hn => ?_, fun hn => ?_⟩, ?_⟩
    · rw [K.q]
      refine ⟨small (by omega) (by omega), small (by omega) (by omega), b + (p ^ m - 1) - a, by omega, by omega, ?_⟩
      have := K.G.per R b 1
      rw [Nat.mul_one] at this
      rw [show a + (b + (p ^ m - 1) - a) = b + (p ^ m - 1) by omega]; exact this
    · exact ⟨b - a, by omega, by omega, by rw [show a + (b - a) = b by omega]⟩
    · rintro _ ⟨d, rfl, hd, hpd⟩
      rw [gi_nat, K.av d hd]
      have hgd := R.pw_lt g d
      have hga := R.pw_lt g a
      -- x + y = x (g^d + 1)
      have hsum : fadd p m (inE (p ^ m) x) (inE (p ^ m) y) = fmul p m (dv p v) (pw (fmul p m (dv p v)) g a) (fadd p m (pw (fmul p m (dv p v)) g d) 1) := by
        rw [R.Md hga hgd R.one_lt, R.M1 hga, ← R.pw_add K.G.lt, hpd, ← ea, ← eb, R.Ac]
      rw [hsum] at h
      have hsl := R.Al (pw (fmul p m (dv p v)) g d) 1
      refine ⟨⟨by omega, by omega⟩, fun hm1 => ?_, fun hm1 => ?_⟩
      · have hz : fadd p m (pw (fmul p m (dv p v)) g d) 1 = 0 := by
          rcases Nat.eq_zero_or_pos (fadd p m (pw (fmul p m (dv p v)) g d) 1) with h3 | h3
          · exact h3
          · obtain ⟨s, hs, hse⟩ := K.G.surj R h3 hsl
            rw [← hse, K.lv s hs] at hm1; omega
        rw [hz, R.M0 hga] at h; exact h
      · have hnz : 0 < fadd p m (pw (fmul p m (dv p v)) g d) 1 := by
          rcases Nat.eq_zero_or_pos (fadd p m (pw (fmul p m (dv p v)) g d) 1) with h3 | h3
          · rw [h3, K.l0] at hm1; exact absurd rfl hm1
          · exact h3
        obtain ⟨s, hs, hse⟩ := K.G.surj R hnz hsl
        rw [← hse] at h ⊢
        rw [K.lv s hs]
        refine ⟨bx, small (by omega) (by omega), ⟨by omega, by omega⟩, ?_⟩
        rw [show (a : Int) + (s : Int) = ((a + s : Nat) : Int) by push_cast; rfl, gi_nat, K.ev _ (by omega), R.pw_add K.G.lt]; exact h
theorem v_exponent {n : Int} {Q : Int → Prop} (K : GFk F p m v g) (hn : I64 n) (h : Q (n % (((p ^ m : Nat) : Int) - 1))) : V_exponent F n Q := by
  have hq := K.fv.q
  have hq2 := K.fv.ring.q2
  unfold V_exponent
  rw [K.q]
  have hk : (0 : Int) < ((p ^ m : Nat) : Int) - 1 := by omega
  have t1 := Int.tmod_lt_of_pos n hk
  have t2 := Int.lt_tmod_of_pos n hk
  have hm := modk (n := n) hk
  refine ⟨small (by omega) (by omega), by omega, fun z => z = n % (((p ^ m : Nat) : Int) - 1), ⟨fun hneg => ⟨small (by omega) (by omega), small (by omega) (by omega), ?_⟩, fun hpos => ?_⟩, fun z hz => by rw [hz]; exact h⟩
  · rw [← hm, Int.tmod_eq_emod_of_nonneg (by omega), Int.emod_eq_of_lt (by omega) (by omega)]
  · rw [← hm, Int.tmod_eq_emod_of_nonneg (by omega), show n.tmod (((p ^ m : Nat) : Int) - 1) + (((p ^ m : Nat) : Int) - 1) = n.tmod (((p ^ m : Nat) : Int) - 1) + (((p ^ m : Nat) : Int) - 1) * 1 by omega, Int.add_mul_emod_self_left, Int.emod_eq_of_lt (by omega) (by omega)]
theorem v_Pow {x n : Int} {Q : Int × Int → Prop} (K : GFk F p m v g) (hn : I64 n) (h0 : inE (p ^ m) x = 0 → Q (if n = 0 then (1, 0) else if n < 0 then (0, 7) else (0, 0)))
    (h1 : inE (p ^ m) x ≠ 0 → Q (((pw (fmul p m (dv p v)) (inE (p ^ m) x) (n % (((p ^ m : Nat) : Int) - 1)).toNat : Nat) : Int), 0)) : V_Pow F x n Q := by
  have R := K.fv.ring
  have hq := K.fv.q
  have hq2 := R.q2
  refine v_isUnit K ⟨fun hb => ?_, fun hb => ?_⟩
  · have hne : inE (p ^ m) x ≠ 0 := by simpa using hb
    obtain ⟨a, ha, ea, la, bx⟩ := K.lg hne
    have hel := K.el
    have hk : (0 : Int) < ((p ^ m : Nat) : Int) - 1 := by omega
    have e1 := Int.emod_nonneg n (show ((p ^ m : Nat) : Int) - 1 ≠ 0 by omega)
    have e2 := Int.emod_lt_of_pos n hk
    have h1 := h1 hne
    refine ⟨bx, _, v_exponent K hn rfl, ?_⟩
    rw [la]
    obtain ⟨e, he⟩ := Int.eq_ofNat_of_zero_le e1
    rw [he] at h1 ⊢
    rw [Int.toNat_natCast] at h1
    have hae : a * e ≤ 256 * 256 := Nat.mul_le_mul (by omega) (by omega)
    have hcast : (a : Int) * (e : Int) = ((a * e : Nat) : Int) := by push_cast; rfl
    have hmod : ((a * e : Nat) : Int) % (((p ^ m : Nat) : Int) - 1) = ((a * e % (p ^ m - 1) : Nat) : Int) := by
      rw [show ((p ^ m : Nat) : Int) - 1 = ((p ^ m - 1 : Nat) : Int) by omega]; rfl
    have hlt := Nat.mod_lt (a * e) (show 0 < p ^ m - 1 by omega)
    rw [hcast]
    refine ⟨smallN (by omega), _, v_exponent K (smallN (by omega)) rfl, ?_⟩
    rw [hmod]
    refine ⟨⟨by omega, by omega⟩, ?_⟩
    rw [gi_nat, K.ev _ (by omega), K.G.modp R, ← R.pw_pw K.G.lt, ← ea]
    exact h1
  · have hz : inE (p ^ m) x = 0 := by simpa using hb
    have h0 := h0 hz
    refine ⟨fun hneg => ?_, fun hpos => ⟨fun hz0 => ?_, fun hz0 => ?_⟩⟩
    · rwa [if_neg (by omega), if_pos hneg] at h0
    · rwa [if_pos hz0] at h0
    · rwa [if_neg hz0, if_neg hpos] at h0
theorem Od.uniq {M : Nat → Nat → Nat} {x n k : Nat} (h : Od M x n) (h' : Od M x k) : n = k := by
  rcases Nat.lt_trichotomy n k with h1 | h1 | h1
  · exact absurd h.one (h'.least n h.pos h1)
  · exact h1
  · exact absurd h'.one (h.least k h'.pos h1)
theorem v_MulOrder {x : Int} {Q : Int × Int → Prop} (K : GFk F p m v g) (h0 : inE (p ^ m) x = 0 → Q (0, 7)) (h1 : ∀ a : Nat, a < p ^ m - 1 → inE (p ^ m) x = pw (fmul p m (dv p v)) g a → Q ((((p ^ m - 1) / Nat.gcd (p ^ m - 1) a : Nat) : Int), 0)) : V_MulOrder F x Q := by
  have R := K.fv.ring
  have hq := K.fv.q
  have hq2 := R.q2
  refine v_isUnit K ⟨fun hb => h0 (by simpa using hb), fun hb => ?_⟩
  have hne : inE (p ^ m) x ≠ 0 := by simpa using hb
  obtain ⟨a, ha, ea, la, bx⟩ := K.lg hne
  have h1 := h1 a ha ea
  rw [K.q, la]
  have e1 : ((p ^ m : Nat) : Int) - 1 = ((p ^ m - 1 : Nat) : Int) := by omega
  rw [e1]
  have hg : 0 < Nat.gcd (p ^ m - 1) a := Nat.gcd_pos_of_pos_left _ (by omega)
  have hd : (p ^ m - 1) / Nat.gcd (p ^ m - 1) a ≤ p ^ m - 1 := Nat.div_le_self _ _
  refine ⟨smallN (by omega), smallN (by omega), bx, _, v_gcd rfl, ⟨by omega, ?_⟩, h1⟩
  rw [tdivN]; exact smallN (by omega)
/-- sums -/
def fsum (p m : Nat) (l : List Int) : Nat → Nat
  | 0 => 0
  | k + 1 => fadd p m (fsum p m l k) (inE (p ^ m) (vo l k))
theorem fsum_lt {p m : Nat} {l : List Int} (hp : 0 < p) : ∀ k, fsum p m l k < p ^ m
  | 0 => Nat.pow_pos hp
  | k + 1 => fadd_lt hp _ _
theorem v_Sum {l : List Int} {Q : Int → Prop} (K : GFk F p m v g) (hl : l.length ≤ 1000) (h : Q ((fsum p m l l.length : Nat) : Int)) : V_Sum F l Q := by
  have hp := K.fv.p2
  refine ⟨fun z i => ∃ k : Nat, i = k ∧ k ≤ l.length ∧ z = ((fsum p m l k : Nat) : Int), fun z i => (l.length - i).toNat, ⟨0, rfl, Nat.zero_le _, rfl⟩, ?_⟩
  rintro _ _ ⟨k, rfl, hk, rfl⟩
  dsimp only
  rw [gi_nat]
  refine ⟨fun hlt => ⟨⟨by omega, by omega⟩, v_Add K ?_⟩, fun hge => by rw [show k = l.length by omega]; exact h⟩
  rw [inE_nat (fsum_lt (by omega) k)]
  exact ⟨small (by omega) (by omega), ⟨k + 1, by push_cast; rfl, by omega, rfl⟩, by omega⟩
theorem v_Dot {l o : List Int} {Q : Int → Prop} (K : GFk F p m v g) (hl : l.length ≤ 1000) (ho : o.length ≤ 1000) (h : Q ((fdot p m (dv p v) l o (min l.length o.length) : Nat) : Int)) : V_Dot F l o Q := by
  have hp := K.fv.p2
  refine ⟨fun z i => ∃ k : Nat, i = k ∧ k ≤ min l.length o.length ∧ z = ((fdot p m (dv p v) l o k : Nat) : Int), fun z i => (l.length - i).toNat, ⟨0, rfl, Nat.zero_le _, rfl⟩, ?_⟩
  rintro _ _ ⟨k, rfl, hk, rfl⟩
  dsimp only
  rw [gi_nat, gi_nat]
  refine ⟨fun hlt => ?_, fun hge => by rw [show k = min l.length o.length by omega]; exact h⟩
  refine ⟨⟨by omega, by omega⟩, ⟨by omega, by omega⟩, _, v_Mul K rfl, _, v_Add K rfl, small (by omega) (by omega), ⟨k + 1, by push_cast; rfl, by omega, ?_⟩, by omega⟩
  rw [inE_nat (fdot_lt (by omega) k), inE_nat (fmul_lt (by omega) _ _)]; rfl
theorem v_Scale {x : Int} {l : List Int} {Q : List Int → Prop} (K : GFk F p m v g) (hl : l.length ≤ 1000) (h : ∀ r : List Int, r.length = l.length → (∀ i, i < l.length → vo r i = ((fmul p m (dv p v) (inE (p ^ m) x) (inE (p ^ m) (vo l i)) : Nat) : Int)) → Q r) : V_Scale F x l Q := by
  refine ⟨⟨by omega, by omega, by omega⟩, fun r i => ∃ k : Nat, i = k ∧ k ≤ l.length ∧ r.length = l.length ∧ ∀ j, j < k → vo r j = ((fmul p m (dv p v) (inE (p ^ m) x) (inE (p ^ m) (vo l j)) : Nat) : Int), fun r i => (l.length - i).toNat, ⟨0, rfl, Nat.zero_le _, by simp, fun j hj => by omega⟩, ?_⟩
  rintro r _ ⟨k, rfl, hk, hr, hv⟩
  dsimp only
  rw [gi_nat]
  refine ⟨fun hlt => ⟨⟨by omega, by omega⟩, v_Mul K ⟨⟨by omega, by omega⟩, small (by omega) (by omega), ⟨k + 1, by push_cast; rfl, by omega, ?_, fun j hj => ?_⟩, by omega⟩⟩, fun hge => h r hr fun i hi => hv i (by omega)⟩
  · rw [si_nat, List.length_set, hr]
  · rw [si_nat, vo_set]
    by_cases hkj : k = j
    · subst hkj; rw [if_pos ⟨rfl, by omega⟩]
    · rw [if_neg (fun h => hkj h.1)]; exact hv j (by omega)
theorem v_Digits {x : Int} {Q : List Int → Prop} (K : GFk F p m v g) (h : Q (dgi p m (inE (p ^ m) x))) : V_Digits F x Q := by
  have hp := K.fv.p2
  have hq := K.fv.q
  have hm8 := K.fv.m8
  have hlt := inE_lt K.fv.ring.pos x
  refine ⟨_, v_element K rfl, _, ?_, h⟩
  rw [K.fv.eP, K.fv.eM]
  exact v_digits (by omega) (by omega) (by omega) rfl
theorem v_FromDigits {l : List Int} {Q : Int × Int → Prop} (K : GFk F p m v g) (h0 : l.length ≠ m → Q (0, 3)) (h1 : l.length = m → ¬ Cn p m (vo l) → Q (0, 2)) (h2 : l.length = m → Cn p m (vo l) → Q (vl p m (vo l), 0)) : V_FromDigits F l Q := by
  have hp := K.fv.p2
  have hq := K.fv.q
  have hm8 := K.fv.m8
  unfold V_FromDigits
  rw [K.fv.eM, K.fv.eP]
  refine ⟨fun hne => h0 (by omega), fun heq => ?_⟩
  have hl : l.length = m := by omega
  rw [hl]
  refine ⟨fun i => ∃ k : Nat, i = k ∧ k ≤ m ∧ Cn p k (vo l), fun i => (m - i).toNat, ⟨0, rfl, Nat.zero_le _, fun i hi => by omega⟩, ?_⟩
  rintro _ ⟨k, rfl, hk, hc⟩
  dsimp only
  rw [gi_nat]
  refine ⟨fun hlt => ⟨⟨by omega, by omega⟩, fun hneg => h1 hl fun hC => ?_, fun hpos => ⟨fun hbig => h1 hl fun hC => ?_, fun hsm => ⟨small (by omega) (by omega), ⟨k + 1, by push_cast; rfl, by omega, fun i hi => ?_⟩, by omega⟩⟩⟩, fun hge => ?_⟩
  · have := hC k (by omega); omega
  · have := hC k (by omega); omega
  · by_cases hik : i = k
    · subst hik; omega
    · exact hc i (by omega)
  · have hkm : k = m := by omega
    subst hkm
    refine v_fromDigits hp K.fv.p256 (by rw [hl]; exact hc) (by rw [hl]; exact hq) ?_
    rw [hl]; exact h2 hl hc
end
end Go.Proofs.Ytinibbfpdbddpaa
set_option linter.unusedVariables false
set_option linter.unusedSimpArgs false
namespace Go.Proofs.Ytinibbfpdbddpaa
/-! ### the laws -/
theorem prime2 : IsLf 2 2 := ⟨by decide, rfl, fun e he _ => he⟩
theorem prime3 : IsLf 3 3 := ⟨by decide, rfl, fun e he h => by
  rcases Nat.lt_or_ge e 3 with hc | hc
  · have : e = 2 := by omega
    subst this; exact absurd h (by decide)
  · exact hc⟩
theorem fv22 : FV 2 2 [1, 1] 2 2 3 := ⟨rfl, rfl, prime2, by decide, by decide, by decide, fun h => absurd h (by decide), fun _ => rfl, (irrB_iff (by decide) (by decide)).1 (by decide +kernel)⟩
theorem fv32 : FV 3 2 [1, 0] 3 2 1 := ⟨rfl, rfl, prime3, by decide, by decide, by decide, fun h => absurd h (by decide), fun _ => rfl, (irrB_iff (by decide) (by decide)).1 (by decide +kernel)⟩
theorem FV.same {P M : Int} {mf : List Int} {p m v p' m' v' : Nat} (F : FV P M mf p m v) (F' : FV P M mf p' m' v') : p = p' ∧ m = m' ∧ v = v' := by
  have h1 := F.eP; have h2 := F'.eP; have h3 := F.eM; have h4 := F'.eM
  have e1 : p = p' := by omega
  have e2 : m = m' := by omega
  subst e1; subst e2
  refine ⟨rfl, rfl, ?_⟩
  have hp := F.p2
  rw [← nm_dv (p := p) (m := m) (by omega) F.vlt, ← nm_dv (p := p) (m := m) (by omega) F'.vlt, ← F.vo, ← F'.vo]
theorem v_alive {Q : Bool → Prop} (h : Q true) : V_alive Q := by
  refine v_New (fun hn => absurd ⟨_, _, _, fv22⟩ hn) fun F p m v g K eP eM em => v_New (fun hn => absurd ⟨_, _, _, fv32⟩ hn) fun F' p' m' v' g' K' eP' eM' em' => ⟨fun h0 => absurd rfl h0, fun _ => ⟨fun h0 => absurd rfl h0, fun _ => ?_⟩⟩
  have hF : FV 2 2 [1, 1] p m v := by have := K.fv; rwa [eP, eM, em] at this
  have hF' : FV 3 2 [1, 0] p' m' v' := by have := K'.fv; rwa [eP', eM', em'] at this
  obtain ⟨rfl, rfl, rfl⟩ := fv22.same hF
  obtain ⟨rfl, rfl, rfl⟩ := fv32.same hF'
  refine v_Add K ⟨fun _ => v_Mul K ⟨fun _ => v_Mul K ⟨fun _ => v_Mul K' ?_, fun hn => absurd ?_ hn⟩, fun hn => absurd ?_ hn⟩, fun hn => absurd ?_ hn⟩
  · have : decide (((fmul 3 2 (dv 3 1) (inE (3 ^ 2) 3) (inE (3 ^ 2) 3) : Nat) : Int) = 2) = true := by decide +kernel
    rw [this]; exact h
  · decide +kernel
  · decide +kernel
  · decide +kernel
theorem v_made {P M : Int} {mf : List Int} {Q : Option GFv → Prop} (h0 : ¬ Valid P M mf → Q none) (h1 : ∀ (F : GFv) (p m v g : Nat), GFk F p m v g → FV P M mf p m v → Q (some F)) : V_made P M mf Q := by
  refine v_New (fun hn => ⟨fun e => absurd e (by decide), fun _ => h0 hn⟩) fun F p m v g K eP eM em => ⟨fun _ => v_rCheck ?_, fun hn => absurd rfl hn⟩
  have hF : FV P M mf p m v := by have := K.fv; rwa [eP, eM, em] at this
  exact ⟨ck_ok ⟨_, _, _, hF⟩, h1 F p m v g K hF⟩
theorem v_none {P M : Int} {mf : List Int} {Q : Bool → Prop} (hn : ¬ Valid P M mf) (h : Q true) : V_none P M mf Q := by
  refine v_New (fun _ => v_rCheck ?_) fun F p m v g K eP eM em => absurd ⟨p, m, v, by have := K.fv; rwa [eP, eM, em] at this⟩ hn
  rw [ck_no hn]
  exact ⟨fun _ => h, fun hc => absurd rfl hc⟩
theorem v_Order {F : GFv} {p m v g : Nat} {Q : Int → Prop} (K : GFk F p m v g) (h : Q ((p ^ m : Nat) : Int)) : V_Order F Q := by
  unfold V_Order
  rw [K.q]; exact h
theorem FV.len {P M : Int} {mf : List Int} {p m v : Nat} (F : FV P M mf p m v) : mf.length ≤ 1000000 := by
  have := F.m8
  by_cases hm1 : m = 1
  · rw [(F.m1 hm1).1]; simp
  · rw [F.m2 hm1, dgi_len]; omega
theorem same_refl (P M : Int) (mf : List Int) : sameR P M mf P M mf = true := by simp [sameR]
theorem Gn.xmod {q g : Nat} {A M : Nat → Nat → Nat} (G : Gn q M g) (R : CR q A M) {x : Nat} (h0 : 0 < x) (hx : x < q) (n : Nat) : pw M x (n % (q - 1)) = pw M x n := by
  have h1 := G.xone R h0 hx
  have h2 := Nat.mod_add_div n (q - 1)
  have h3 : pw M x (n % (q - 1) + (q - 1) * (n / (q - 1))) = pw M x (n % (q - 1)) := by rw [R.pw_add hx, ← R.pw_pw hx, h1, R.one_pw, R.M1 (R.pw_lt x _)]
  rw [h2] at h3; exact h3.symm
theorem v_PowN {F : GFv} {p m v g n : Nat} {x : Int} {Q : Int × Int → Prop} (K : GFk F p m v g) (hn0 : 0 < n) (hn : n ≤ 1000) (h : Q (((pw (fmul p m (dv p v)) (inE (p ^ m) x) n : Nat) : Int), 0)) : V_Pow F x n Q := by
  have R := K.fv.ring
  have hq2 := R.q2
  refine v_Pow K (smallN (by omega)) (fun h0 => ?_) (fun h1 => ?_)
  · rw [if_neg (by omega), if_neg (by omega)]
    rw [h0, R.zero_pw hn0] at h; exact h
  · have e : ((n : Int) % (((p ^ m : Nat) : Int) - 1)).toNat = n % (p ^ m - 1) := by
      rw [show ((p ^ m : Nat) : Int) - 1 = ((p ^ m - 1 : Nat) : Int) by omega]; rfl
    rw [e, K.G.xmod R (Nat.pos_of_ne_zero h1) (inE_lt R.pos x)]; exact h
theorem law_FieldFrobenius (P M : Int) (mf : List Int) (x y : Int) : V_FieldFrobenius P M mf x y (fun b => b = true) := by
  refine v_alive ⟨fun h => absurd h (by decide), fun _ => v_made (fun hn => v_none hn rfl) fun F p m v g K hF => ?_⟩
  have R := hF.ring
  have hx := inE_lt R.pos x
  have hy := inE_lt R.pos y
  have hp := hF.p2
  have hp256 := hF.p256
  have hq := hF.q
  have hfr := R.frob K.G hF.pr (fun z hz => ns_char (by omega) hz) hx hy
  obtain rfl := hF.eP
  refine v_PowN K (by omega) (by omega) (v_PowN K (by omega) (by omega) ⟨_, v_Add K rfl, _, _, v_PowN K (by omega) (by omega) rfl, ?_⟩)
  refine v_Order K ?_
  refine v_PowN K R.pos (by omega) (v_Add K ⟨fun _ => v_rIn hF ?_, fun h => absurd ?_ h⟩)
  · rw [K.G.xq R hx]; exact decide_eq_true rfl
  · rw [inE_nat (R.Al _ _), inE_nat (R.pw_lt _ _), inE_nat (R.pw_lt _ _), hfr]
theorem fdot_comm {p m v : Nat} {P M : Int} {mf l o : List Int} (hF : FV P M mf p m v) : ∀ k, fdot p m (dv p v) l o k = fdot p m (dv p v) o l k
  | 0 => rfl
  | k + 1 => by
    show fadd p m (fdot p m (dv p v) l o k) _ = fadd p m (fdot p m (dv p v) o l k) _
    rw [fdot_comm hF k, fmul_comm (inE_lt hF.ring.pos _) (inE_lt hF.ring.pos _)]
theorem law_FieldLists (P M : Int) (mf : List Int) (x : Int) (l o : List Int) : V_FieldLists P M mf x l o (fun b => b = true) := by
  refine v_alive ⟨fun h => absurd h (by decide), fun _ => v_made (fun hn => v_none hn rfl) fun F p m v g K hF => ?_⟩
  have R := hF.ring
  refine ⟨fun _ => rfl, fun hl => ⟨fun _ => rfl, fun ho => v_Scale K (by omega) fun r hr hv => ⟨fun h => absurd (by rw [hr]) h, fun _ => ?_⟩⟩⟩
  refine ⟨fun z i => ∃ k : Nat, i = k ∧ k ≤ l.length ∧ z = ((fsum p m l k : Nat) : Int), fun z i => (l.length - i).toNat, ⟨0, rfl, Nat.zero_le _, rfl⟩, ?_⟩
  rintro _ _ ⟨k, rfl, hk, rfl⟩
  dsimp only
  rw [gi_nat, gi_nat]
  refine ⟨fun hlt => ⟨⟨by omega, by omega⟩, v_rAdd hF ⟨⟨by omega, by omega⟩, _, v_rMul hF rfl, fun h => absurd (hv k (by omega)) h, fun _ => ?_⟩⟩, fun hge => ?_⟩
  · rw [inE_nat (fsum_lt (by have := hF.p2; omega) k)]
    exact ⟨small (by omega) (by omega), ⟨k + 1, by push_cast; rfl, by omega, rfl⟩, by omega⟩
  · rw [show k = l.length by omega]
    refine ⟨_, v_Sum K (by omega) rfl, rfl, _, v_Dot K (by omega) (by omega) rfl, _, v_rDot hF (by omega) (by omega) rfl, rfl, _, v_Dot K (by omega) (by omega) rfl, _, v_Dot K (by omega) (by omega) rfl, ?_⟩
    rw [fdot_comm hF, Nat.min_comm]; exact decide_eq_true rfl
theorem law_FieldDigits (P M : Int) (mf : List Int) (x : Int) (d : List Int) : V_FieldDigits P M mf x d (fun b => b = true) := by
  refine v_alive ⟨fun h => absurd h (by decide), fun _ => v_made (fun hn => v_none hn rfl) fun F p m v g K hF => ?_⟩
  have R := hF.ring
  have hx := inE_lt R.pos x
  have hp := hF.p2
  have hm8 := hF.m8
  have hlen := dgi_len p m (inE (p ^ m) x)
  refine v_Digits K (v_FromDigits K (fun h => absurd hlen h) (fun _ h => absurd (dgi_cn (by omega) hx m) h) fun _ _ => ?_)
  rw [dgi_vo hx, vl_dv (by omega) hx]
  refine v_rDigits hF (v_lsame (by rw [hlen]; omega) ⟨fun h => absurd h (by simp), fun _ => ⟨fun h => absurd rfl h, fun _ => v_rIn hF ⟨fun h => absurd rfl h, fun _ => ?_⟩⟩⟩)
  have hM := hF.eM
  have hPp := hF.eP
  refine v_FromDigits K (fun h => ?_) (fun h hc => ?_) (fun h hc => ?_)
  · exact ⟨fun _ => ⟨fun _ => rfl, fun h => absurd rfl h⟩, fun h2 => absurd (show ((d.length : Nat) : Int) ≠ M by omega) h2⟩
  · refine ⟨fun h2 => absurd h (by omega), fun _ => ⟨fun z => ∃ k : Nat, z = k ∧ k ≤ m ∧ Cn p k (vo d), fun z => (m - z).toNat, ⟨0, rfl, Nat.zero_le _, fun i hi => by omega⟩, ?_⟩⟩
    rintro _ ⟨k, rfl, hk, hck⟩
    dsimp only
    rw [gi_nat, hPp]
    refine ⟨fun hlt => ⟨⟨by omega, by omega⟩, fun _ => ⟨fun _ => rfl, fun h => absurd rfl h⟩, fun hpos => ⟨fun _ => ⟨fun _ => rfl, fun h => absurd rfl h⟩, fun hsm => ⟨small (by omega) (by omega), ⟨k + 1, by push_cast; rfl, by omega, fun i hi => ?_⟩, by omega⟩⟩⟩, fun hge => ?_⟩
    · by_cases hik : i = k
      · subst hik; omega
      · exact hck i (by omega)
    · rw [show k = m by omega] at hck; exact absurd hck hc
  · refine ⟨fun h2 => absurd h (by omega), fun _ => ⟨fun z => ∃ k : Nat, z = k ∧ k ≤ m, fun z => (m - z).toNat, ⟨0, rfl, Nat.zero_le _⟩, ?_⟩⟩
    rintro _ ⟨k, rfl, hk⟩
    dsimp only
    rw [gi_nat, hPp]
    refine ⟨fun hlt => ⟨⟨by omega, by omega⟩, fun hneg => ?_, fun hpos => ⟨fun hbig => ?_, fun hsm => ⟨small (by omega) (by omega), ⟨k + 1, by push_cast; rfl, by omega⟩, by omega⟩⟩⟩, fun hge => ⟨fun _ => ?_, fun h => absurd rfl h⟩⟩
    · have := hc k (by omega); omega
    · have := hc k (by omega); omega
    · refine v_rValue hp hF.p256 (by omega) (by rw [h]; exact hc) (by rw [h]; exact hF.q) ?_
      rw [h]; exact decide_eq_true rfl
end Go.Proofs.Ytinibbfpdbddpaa
set_option linter.unusedVariables false
set_option linter.unusedSimpArgs false
namespace Go.Proofs.Ytinibbfpdbddpaa
/-! ### the counts of elements of an order -/
theorem nsum_app (f : Nat → Nat) (a : Nat) : ∀ b, nsum f (a + b) = nsum f a + nsum (fun i => f (a + i)) b
  | 0 => rfl
  | b + 1 => by
    show nsum f (a + b) + f (a + b) = nsum f a + (nsum (fun i => f (a + i)) b + f (a + b))
    rw [nsum_app f a b, Nat.add_assoc]
theorem nsum_mult {h : Nat → Nat} {d : Nat} (hd : 0 < d) (h0 : ∀ e, ¬ d ∣ e → h e = 0) : ∀ n, nsum h (d * n) = nsum (fun f => h (d * f)) n
  | 0 => rfl
  | n + 1 => by
    rw [Nat.mul_succ, nsum_app, nsum_mult hd h0 n]
    show _ = nsum (fun f => h (d * f)) n + h (d * n)
    congr 1
    rw [nsum_one (k := 0) hd fun i hi hi0 => h0 _ fun hdv => ?_]
    · rfl
    · have := (Nat.dvd_add_right (Nat.dvd_mul_right d n)).1 hdv
      have := Nat.le_of_dvd (by omega) this
      omega
/-- how many numbers from 1 to n are coprime to n -/
def cop (n k : Nat) : Nat := nsum (fun i => if Nat.gcd (i + 1) n = 1 then 1 else 0) k
theorem nsum_shift (f : Nat → Nat) : ∀ n, nsum f (n + 1) = f 0 + nsum (fun i => f (i + 1)) n
  | 0 => by show 0 + f 0 = f 0 + 0; omega
  | n + 1 => by
    show nsum f (n + 1) + f (n + 1) = f 0 + (nsum (fun i => f (i + 1)) n + f (n + 1))
    rw [nsum_shift f n, Nat.add_assoc]
theorem count_dvd {N n : Nat} (hN : 0 < N) (hn : n ∣ N) : nsum (fun e => if N / Nat.gcd N e = n then 1 else 0) N = cop n n := by
  obtain ⟨d, rfl⟩ := hn
  have hn0 : 0 < n := Nat.pos_of_ne_zero fun h => by subst h; simp at hN
  have hd0 : 0 < d := Nat.pos_of_ne_zero fun h => by subst h; simp at hN
  have e0 : ∀ e, (n * d / Nat.gcd (n * d) e = n) ↔ Nat.gcd (n * d) e = d := fun e => by
    obtain ⟨t, ht⟩ := Nat.gcd_dvd_left (n * d) e
    have hg : 0 < Nat.gcd (n * d) e := Nat.gcd_pos_of_pos_left _ hN
    generalize Nat.gcd (n * d) e = g at *
    have hq : n * d / g = t := by rw [ht, Nat.mul_div_cancel_left _ hg]
    rw [hq]
    constructor
    · rintro rfl
      rw [Nat.mul_comm g t] at ht
      exact (Nat.eq_of_mul_eq_mul_left hn0 ht).symm
    · rintro rfl
      rw [Nat.mul_comm n g] at ht
      exact (Nat.eq_of_mul_eq_mul_left hg ht).symm
  rw [show n * d = d * n from Nat.mul_comm n d] at e0 ⊢
  rw [nsum_mult hd0 fun e he => if_neg fun h => he (by rw [← (e0 e).1 h]; exact Nat.gcd_dvd_right _ _)]
  have e1 : nsum (fun f => if d * n / Nat.gcd (d * n) (d * f) = n then 1 else 0) n = nsum (fun f => if Nat.gcd f n = 1 then 1 else 0) n := nsum_congr fun f _ => by
    have : (d * n / Nat.gcd (d * n) (d * f) = n) ↔ Nat.gcd f n = 1 := by
      rw [e0, Nat.gcd_mul_left, Nat.gcd_comm n f]
      constructor
      · intro h
        exact Nat.eq_of_mul_eq_mul_left hd0 (by omega)
      · intro h; rw [h, Nat.mul_one]
    by_cases hc : Nat.gcd f n = 1
    · rw [if_pos hc, if_pos (this.2 hc)]
    · rw [if_neg hc, if_neg fun h => hc (this.1 h)]
  rw [e1]
  obtain ⟨k, rfl⟩ : ∃ k, n = k + 1 := ⟨n - 1, by omega⟩
  rw [nsum_shift]
  show _ = nsum (fun i => if Nat.gcd (i + 1) (k + 1) = 1 then 1 else 0) k + (if Nat.gcd (k + 1) (k + 1) = 1 then 1 else 0)
  have h1 : Nat.gcd 0 (k + 1) = k + 1 := Nat.gcd_zero_left _
  have h2 : Nat.gcd (k + 1) (k + 1) = k + 1 := Nat.gcd_self _
  have h3 : (if Nat.gcd 0 (k + 1) = 1 then 1 else 0) = (if Nat.gcd (k + 1) (k + 1) = 1 then 1 else 0) := by
    by_cases hk : k + 1 = 1
    · rw [if_pos (by omega), if_pos (by omega)]
    · rw [if_neg (by omega), if_neg (by omega)]
  rw [h3, Nat.add_comm]
theorem v_coprime {n : Nat} {Q : Int → Prop} (hn : n ≤ 1000) (h : Q ((cop n n : Nat) : Int)) : V_coprime n Q := by
  have hcb : ∀ k, cop n k ≤ k := fun k => by
    induction k with
    | zero => exact Nat.le_refl _
    | succ k ih =>
      show cop n k + (if Nat.gcd (k + 1) n = 1 then 1 else 0) ≤ _
      split <;> omega
  refine ⟨fun c i => ∃ k : Nat, i = (k : Int) + 1 ∧ k ≤ n ∧ c = ((cop n k : Nat) : Int), fun c i => (n + 1 - i).toNat, ⟨0, rfl, Nat.zero_le _, rfl⟩, ?_⟩
  rintro _ _ ⟨k, rfl, hk, rfl⟩
  dsimp only
  have hck := hcb k
  refine ⟨fun hle => ⟨fun c _ _ _ _ => c = ((cop n (k + 1) : Nat) : Int), ⟨fun a b => ∃ x y : Nat, a = x ∧ b = y ∧ Nat.gcd x y = Nat.gcd (k + 1) n, fun a b => b.toNat, ⟨k + 1, n, by push_cast; rfl, rfl, rfl⟩, ?_⟩, ?_⟩, fun hgt => ?_⟩
  · rintro _ _ ⟨x, y, rfl, rfl, hg⟩
    dsimp only
    refine ⟨fun hy => ⟨hy, ?_, ?_⟩, fun hy => ⟨fun hx => ⟨small (by omega) (by omega), ?_⟩, fun hx => ?_⟩⟩
    · rw [tmodN]
      exact ⟨y, x % y, rfl, rfl, by rw [← hg, Nat.gcd_comm x y, Nat.gcd_rec y x, Nat.gcd_comm]⟩
    · rw [tmodN]
      have := Nat.mod_lt x (show 0 < y by omega)
      omega
    · have hy0 : y = 0 := by omega
      rw [hy0, Nat.gcd_zero_right] at hg
      show _ = ((cop n k + (if Nat.gcd (k + 1) n = 1 then 1 else 0) : Nat) : Int)
      rw [if_pos (by omega)]; push_cast; rfl
    · have hy0 : y = 0 := by omega
      rw [hy0, Nat.gcd_zero_right] at hg
      show _ = ((cop n k + (if Nat.gcd (k + 1) n = 1 then 1 else 0) : Nat) : Int)
      rw [if_neg (by omega)]; rfl
  · rintro _ _ _ _ _ rfl
    exact ⟨small (by omega) (by omega), ⟨k + 1, by push_cast; rfl, by omega, rfl⟩, by omega⟩
  · rw [show k = n by omega]; exact h
theorem law_FieldCounts (P M : Int) (mf : List Int) (n : Int) : V_FieldCounts P M mf n (fun b => b = true) := by
  refine v_alive ⟨fun h => absurd h (by decide), fun _ => v_made (fun hn => v_none hn rfl) fun F p m v g K hF => v_rOrder ?_⟩
  rw [hF.ord]
  have R := hF.ring
  have hq := hF.q
  have hq2 := R.q2
  have G := K.G
  refine ⟨fun _ => rfl, fun h1 => ⟨fun _ => rfl, fun h2 => ?_⟩⟩
  obtain ⟨c, rfl⟩ := Int.eq_ofNat_of_zero_le (show 0 ≤ n by omega)
  have hkm : ∀ {x : Nat} {Q : Int × Int → Prop}, 0 < x → x < p ^ m → Q ((((p ^ m - 1) / Nat.gcd (p ^ m - 1) (Gn.lg (p ^ m) (fmul p m (dv p v)) g x) : Nat) : Int), 0) → V_MulOrder F x Q := fun {x Q} h0 hx hQ => by
    refine v_MulOrder K (fun hz => ?_) fun a ha ea => ?_
    · rw [inE_nat hx] at hz; omega
    · rw [inE_nat hx] at ea
      rw [ea, G.lg_eq R ha] at hQ; exact hQ
  have hlg : ∀ t, t < p ^ m - 1 → Gn.lg (p ^ m) (fmul p m (dv p v)) g (t + 1) < p ^ m - 1 ∧ pw (fmul p m (dv p v)) g (Gn.lg (p ^ m) (fmul p m (dv p v)) g (t + 1)) = t + 1 := fun t ht => G.lg_spec R (by omega) (by omega)
  generalize hqq : p ^ m = q at *
  generalize hLL : (fun x => Gn.lg q (fmul p m (dv p v)) g x) = L at *
  have hL : ∀ x, Gn.lg q (fmul p m (dv p v)) g x = L x := fun x => by rw [← hLL]
  simp only [hL] at hkm hlg
  have hperm : ∀ h : Nat → Nat, nsum (fun t => h (L (t + 1))) (q - 1) = nsum h (q - 1) := fun h => nsum_perm (f := fun t => L (t + 1)) (h := h) (fun t ht => (hlg t ht).1) fun i j hij hj he => by
    have h1 := (hlg i (by omega)).2
    have h2 := (hlg j hj).2
    have he' : L (i + 1) = L (j + 1) := he
    rw [he'] at h1; omega
  have hbd : ∀ (f : Nat → Nat), (∀ i, f i ≤ 1) → ∀ k, nsum f k ≤ k := fun f hf k => by
    induction k with
    | zero => exact Nat.le_refl _
    | succ k ih => show nsum f k + f k ≤ _; have := hf k; omega
  have b1 := hbd (fun t => if (q - 1) / Nat.gcd (q - 1) (L (t + 1)) = c then 1 else 0) (fun i => by split <;> omega)
  have b2 := hbd (fun t => if (q - 1) / Nat.gcd (q - 1) (L (t + 1)) = q - 1 then 1 else 0) (fun i => by split <;> omega)
  refine ⟨fun a b x => ∃ k : Nat, x = (k : Int) + 1 ∧ k ≤ q - 1 ∧ a = ((nsum (fun t => if (q - 1) / Nat.gcd (q - 1) (L (t + 1)) = c then 1 else 0) k : Nat) : Int) ∧ b = ((nsum (fun t => if (q - 1) / Nat.gcd (q - 1) (L (t + 1)) = q - 1 then 1 else 0) k : Nat) : Int), fun a b x => (q - x).toNat, ⟨0, rfl, Nat.zero_le _, rfl, rfl⟩, ?_⟩
  rintro _ _ _ ⟨k, rfl, hk, rfl, rfl⟩
  dsimp only
  have bk1 := b1 k
  have bk2 := b2 k
  refine ⟨fun hlt => ?_, fun hge => ?_⟩
  · refine ⟨fun a b _ _ _ => a = ((nsum (fun t => if (q - 1) / Nat.gcd (q - 1) (L (t + 1)) = c then 1 else 0) (k + 1) : Nat) : Int) ∧ b = ((nsum (fun t => if (q - 1) / Nat.gcd (q - 1) (L (t + 1)) = q - 1 then 1 else 0) (k + 1) : Nat) : Int), ?_, ?_⟩
    · rw [show (k : Int) + 1 = ((k + 1 : Nat) : Int) by push_cast; rfl]
      refine hkm (by omega) (by omega) ?_
      refine ⟨fun a => a = ((nsum (fun t => if (q - 1) / Nat.gcd (q - 1) (L (t + 1)) = c then 1 else 0) (k + 1) : Nat) : Int), ⟨fun he => ⟨small (by omega) (by omega), ?_⟩, fun hne => ?_⟩, ?_⟩
      · show _ = ((nsum (fun t => if (q - 1) / Nat.gcd (q - 1) (L (t + 1)) = c then 1 else 0) k + (if (q - 1) / Nat.gcd (q - 1) (L (k + 1)) = c then 1 else 0) : Nat) : Int)
        rw [if_pos (show (q - 1) / Nat.gcd (q - 1) (L (k + 1)) = c by omega)]; push_cast; rfl
      · show _ = ((nsum (fun t => if (q - 1) / Nat.gcd (q - 1) (L (t + 1)) = c then 1 else 0) k + (if (q - 1) / Nat.gcd (q - 1) (L (k + 1)) = c then 1 else 0) : Nat) : Int)
        rw [if_neg (show ¬ (q - 1) / Nat.gcd (q - 1) (L (k + 1)) = c by omega)]; rfl
      · rintro _ rfl
        refine ⟨small (by omega) (by omega), fun he => ⟨small (by omega) (by omega), rfl, ?_⟩, fun hne => ⟨rfl, ?_⟩⟩
        · show _ = ((nsum (fun t => if (q - 1) / Nat.gcd (q - 1) (L (t + 1)) = q - 1 then 1 else 0) k + (if (q - 1) / Nat.gcd (q - 1) (L (k + 1)) = q - 1 then 1 else 0) : Nat) : Int)
          rw [if_pos (show (q - 1) / Nat.gcd (q - 1) (L (k + 1)) = q - 1 by omega)]; push_cast; rfl
        · show _ = ((nsum (fun t => if (q - 1) / Nat.gcd (q - 1) (L (t + 1)) = q - 1 then 1 else 0) k + (if (q - 1) / Nat.gcd (q - 1) (L (k + 1)) = q - 1 then 1 else 0) : Nat) : Int)
          rw [if_neg (show ¬ (q - 1) / Nat.gcd (q - 1) (L (k + 1)) = q - 1 by omega)]; rfl
    · rintro _ _ _ _ _ ⟨rfl, rfl⟩
      exact ⟨small (by omega) (by omega), ⟨k + 1, by push_cast; rfl, by omega, rfl, rfl⟩, by omega⟩
  · have hkq : k = q - 1 := by omega
    subst hkq
    have p1 := hperm (fun e => if (q - 1) / Nat.gcd (q - 1) e = c then 1 else 0)
    have p2 := hperm (fun e => if (q - 1) / Nat.gcd (q - 1) e = q - 1 then 1 else 0)
    rw [p1, p2]
    have hfull : 0 < nsum (fun e => if (q - 1) / Nat.gcd (q - 1) e = q - 1 then 1 else 0) (q - 1) := by
      rw [count_dvd (by omega) (Nat.dvd_refl _)]
      show 0 < cop (q - 1) (q - 1)
      obtain ⟨r, hr⟩ : ∃ r, q - 1 = r + 1 := ⟨q - 2, by omega⟩
      unfold cop
      rw [hr, nsum_shift]
      show 0 < (if Nat.gcd 1 (r + 1) = 1 then 1 else 0) + _
      rw [if_pos (Nat.gcd_one_left _)]; omega
    have e1 : (q : Int) - 1 = ((q - 1 : Nat) : Int) := by omega
    rw [e1, tmodN]
    have hQ : decide ((0 : Int) < ((nsum (fun e => if (q - 1) / Nat.gcd (q - 1) e = q - 1 then 1 else 0) (q - 1) : Nat) : Int)) = true := decide_eq_true (by omega)
    refine ⟨smallN (by omega), by omega, fun hnd => ⟨fun _ => hQ, fun h => absurd ?_ h⟩, fun hd => v_coprime (by omega) ⟨fun _ => hQ, fun h => absurd ?_ h⟩⟩
    · rw [nsum_zero fun e _ => if_neg fun he => hnd ?_]
      · rfl
      · have hdv : c ∣ q - 1 := by rw [← he]; exact Nat.div_dvd_of_dvd (Nat.gcd_dvd_left _ _)
        rw [Nat.mod_eq_zero_of_dvd hdv]; rfl
    · rw [count_dvd (by omega) (Nat.dvd_of_mod_eq_zero (by omega))]
/-! ### standard fields -/
def LeastI (p k i : Nat) : Prop := i < p ^ k ∧ Irr p k (dv p i) ∧ ∀ j, j < i → ¬ Irr p k (dv p j)
theorem LeastI.uniq {p k i j : Nat} (h : LeastI p k i) (h' : LeastI p k j) : i = j := by
  rcases Nat.lt_trichotomy i j with h1 | h1 | h1
  · exact absurd h.2.1 (h'.2.2 i h1)
  · exact h1
  · exact absurd h'.2.1 (h.2.2 j h1)
/-- the polynomial of the standard field -/
def Md (p k : Nat) (md : List Int) : Prop := (k = 1 ∧ md = []) ∨ (1 < k ∧ ∃ i, LeastI p k i ∧ md = dgi p k i)
theorem Md.uniq {p k : Nat} {a b : List Int} (h : Md p k a) (h' : Md p k b) : a = b := by
  rcases h with ⟨h1, rfl⟩ | ⟨h1, i, hi, rfl⟩ <;> rcases h' with ⟨h2, rfl⟩ | ⟨h2, j, hj, rfl⟩
  · rfl
  · omega
  · omega
  · rw [hi.uniq hj]
theorem lf_prime {n p : Nat} (hl : IsLf n p) : IsLf p p := ⟨hl.two, Nat.mod_self p, fun e he hm => hl.min e he (Nat.mod_eq_zero_of_dvd (Nat.dvd_trans (Nat.dvd_of_mod_eq_zero hm) (Nat.dvd_of_mod_eq_zero hl.dvd)))⟩
theorem v_leastMod {p k : Nat} {mf : List Int} {Q : List Int → Prop} (hp : IsLf p p) (hk : 2 ≤ k) (hq : p ^ k ≤ 256) (h : ∀ i, LeastI p k i → Q (dgi p k i)) : V_leastMod p k mf Q := by
  have hp2 := hp.two
  have hpq : p ≤ p ^ k := by
    have := pow_mono (p := p) (by omega) (show 1 ≤ k by omega)
    rwa [Nat.pow_one] at this
  have hk8 : k ≤ 8 := by
    rcases Nat.lt_or_ge 8 k with h1 | h1
    · have e1 : 2 ^ 9 ≤ p ^ 9 := Nat.pow_le_pow_left hp2 9
      have e2 := pow_mono (p := p) (by omega) (show 9 ≤ k by omega)
      omega
    · exact h1
  obtain ⟨v0, hv0, hI0⟩ := irr_ex hp hk hq
  refine ⟨fun l z => ∃ i : Nat, z = i ∧ i < p ^ k ∧ ∀ j, j < i → ¬ Irr p k (dv p j), fun l z => (300 - z).toNat, ⟨0, rfl, by omega, fun j hj => by omega⟩, ?_⟩
  rintro l _ ⟨i, rfl, hi, hno⟩
  refine v_digits (by omega) (by omega) (by omega) (v_isIrr hp2 (by omega) (dgi_len p k i) hq (dgi_cn (by omega) hi k) fun b hb => ?_)
  rw [dgi_vo hi] at hb
  dsimp only
  refine ⟨fun hbt => h i ⟨hi, hb.1 hbt, hno⟩, fun hbf => ?_⟩
  have hni : ¬ Irr p k (dv p i) := fun hI => by rw [hb.2 hI] at hbf; exact absurd hbf (by decide)
  have hno' : ∀ j, j < i + 1 → ¬ Irr p k (dv p j) := fun j hj => by
    by_cases hji : j = i
    · subst hji; exact hni
    · exact hno j (by omega)
  have hi1 : i + 1 < p ^ k := by
    rcases Nat.lt_or_ge (i + 1) (p ^ k) with hc | hc
    · exact hc
    · exact absurd hI0 (hno' v0 (by omega))
  exact ⟨small (by omega) (by omega), ⟨i + 1, by push_cast; rfl, hi1, hno'⟩, by omega⟩
theorem v_Standard {n : Nat} {Q : (Int × Int × List Int) × Int → Prop} (hn2 : 2 ≤ n) (hn : n ≤ 256) (h0 : (∀ p k, IsLf n p → 1 ≤ k → p ^ k ≠ n) → Q ((0, 0, []), 6)) (h1 : ∀ p k md, IsLf n p → 1 ≤ k → p ^ k = n → Md p k md → Q (((p : Int), (k : Int), md), 0)) : V_Standard n Q := by
  refine ⟨fun h => absurd h (by omega), fun _ => ⟨fun h => absurd h (by omega), fun _ => v_leastDivisor hn2 hn fun p hp => ?_⟩⟩
  have hp2 := hp.two
  have hpp := lf_prime hp
  have hpn : p ≤ n := Nat.le_of_dvd (by omega) (Nat.dvd_of_mod_eq_zero hp.dvd)
  refine ⟨fun z => ∃ k : Nat, z = k ∧ 1 ≤ k ∧ k ≤ 10 ∧ ∀ j, j < k → p ^ j < n, fun z => (20 - z).toNat, ⟨1, rfl, by omega, by omega, fun j hj => by rw [show j = 0 by omega, Nat.pow_zero]; omega⟩, ?_⟩
  rintro _ ⟨k, rfl, hk1, hk10, hlt⟩
  dsimp only
  refine v_order hp2 (by omega) fun r hr1 hr2 => ⟨fun hrn => ?_, fun hrn => v_order hp2 (by omega) fun r' hr1' hr2' => ⟨fun hne => ?_, fun heq => ?_⟩⟩
  · rw [Int.toNat_natCast] at hr1 hr2
    have hpk : p ^ k < n := by
      rcases Nat.lt_or_ge 256 (p ^ k) with hc | hc
      · have := hr2 hc; omega
      · have := hr1 hc; omega
    have hk8 : k < 10 := by
      rcases Nat.lt_or_ge k 9 with hc | hc
      · omega
      · have e1 : 2 ^ 9 ≤ p ^ 9 := Nat.pow_le_pow_left hp2 9
        have e2 := pow_mono (p := p) (by omega) hc
        omega
    refine ⟨small (by omega) (by omega), ⟨k + 1, by push_cast; rfl, by omega, by omega, fun j hj => ?_⟩, by omega⟩
    by_cases hjk : j = k
    · subst hjk; exact hpk
    · exact hlt j (by omega)
  · rw [Int.toNat_natCast] at hr1 hr2 hr1' hr2'
    refine h0 fun p' k' hp' hk' he => ?_
    have : p' = p := hp'.uniq hp
    subst this
    have hkk : k' = k ∨ k' < k ∨ k < k' := by omega
    rcases hkk with rfl | h | h
    · have := hr1' (by omega); omega
    · have := hlt k' h; omega
    · have e2 : p' ^ (k + 1) ≤ p' ^ k' := pow_mono (by omega) h
      rw [Nat.pow_succ] at e2
      have e3 : p' ^ k * 2 ≤ p' ^ k * p' := Nat.mul_le_mul_left _ hp2
      have hpos : 0 < p' ^ k := Nat.pow_pos (by omega)
      have := hr1 (by omega); omega
  · rw [Int.toNat_natCast] at hr1 hr2 hr1' hr2'
    have hpk : p ^ k = n := by
      rcases Nat.lt_or_ge 256 (p ^ k) with hc | hc
      · have := hr2' hc; omega
      · have := hr1' hc; omega
    refine ⟨fun md => Md p k md, ⟨fun hk => v_leastMod hpp (by omega) (by omega) fun i hi => .inr ⟨by omega, i, hi, rfl⟩, fun hk => .inl ⟨by omega, rfl⟩⟩, fun md hmd => h1 p k md hp hk1 hpk hmd⟩
theorem ordR_eq {c m n : Nat} (hn : 2 ≤ n) (hn2 : n ≤ 256) (hc : 2 ≤ c) (hm : 1 ≤ m) : ordR (c : Int) (m : Int) = n ↔ c ^ m = n := by
  unfold ordR
  simp only [Int.toNat_natCast]
  split
  · omega
  · rename_i h
    constructor
    · intro h'; omega
    · intro h'; exact absurd ⟨by omega, by omega, by omega⟩ h
theorem v_rStandard {n : Nat} {Q : (Int × Int × List Int) × Bool → Prop} (hn2 : 2 ≤ n) (hn : n ≤ 256) (h0 : (∀ p k, IsLf n p → 1 ≤ k → p ^ k ≠ n) → Q ((0, 0, []), false)) (h1 : ∀ p k md, IsLf n p → 1 ≤ k → p ^ k = n → Md p k md → Q (((p : Int), (k : Int), md), true)) : V_rStandard n Q := by
  -- a prime whose power is n is the least divisor
  have hun : ∀ c m, IsLf c c → 1 ≤ m → c ^ m = n → IsLf n c := fun c m hc hm he => by
    have hc2 := hc.two
    refine ⟨hc2, ?_, fun e he2 hme => ?_⟩
    · obtain ⟨t, rfl⟩ : ∃ t, m = t + 1 := ⟨m - 1, by omega⟩
      rw [← he, Nat.pow_succ, Nat.mul_mod_left]
    · -- a divisor of a power of a prime is at least the prime
      rcases Nat.lt_or_ge e c with hlt | hge
      · exfalso
        have hcop : Nat.Coprime e c := by
          have hne : e % c ≠ 0 := by rw [Nat.mod_eq_of_lt hlt]; omega
          have := prime_cop hc hne
          rw [Nat.gcd_comm] at this; exact this
        have hcp : Nat.Coprime e (c ^ m) := Nat.Coprime.pow_right m hcop
        have hd : e ∣ c ^ m := by rw [he]; exact Nat.dvd_of_mod_eq_zero hme
        have := Nat.Coprime.eq_one_of_dvd hcp hd
        omega
      · exact hge
  refine ⟨fun h => absurd h (by omega), fun _ => ⟨fun h => absurd h (by omega), fun _ => ?_⟩⟩
  refine ⟨fun z => ∃ m : Nat, z = m ∧ 1 ≤ m ∧ m ≤ 9 ∧ ∀ j c, 1 ≤ j → j < m → IsLf c c → c ^ j ≠ n, fun z => (20 - z).toNat, ⟨1, rfl, by omega, by omega, fun j c h1 h2 => by omega⟩, ?_⟩
  rintro _ ⟨m, rfl, hm1, hm9, hno⟩
  dsimp only
  refine ⟨fun hle => ?_, fun hgt => h0 fun p k hp hk he => ?_⟩
  · refine ⟨fun z => ∃ c : Nat, z = c ∧ 2 ≤ c ∧ c ≤ n + 1 ∧ ∀ e, e < c → IsLf e e → e ^ m ≠ n, fun z => (n + 1 - z).toNat, ⟨2, rfl, by omega, by omega, fun e he hl => by have := hl.two; omega⟩, ?_⟩
    rintro _ ⟨c, rfl, hc2, hcn, hnc⟩
    dsimp only
    refine ⟨fun hlec => ?_, fun hgtc => ?_⟩
    · refine ⟨fun _ => ¬ (IsLf c c ∧ c ^ m = n), v_rprime hc2 (by omega) fun b hb => ⟨fun hb0 => ?_, fun hb1 => v_rOrder ⟨fun hne => ?_, fun heq => ?_⟩⟩, ?_⟩
      · rintro ⟨hpc, _⟩
        rw [hb.2 hpc] at hb0; exact absurd hb0 (by decide)
      · rintro ⟨_, he⟩
        exact hne ((ordR_eq hn2 hn hc2 hm1).2 he)
      · have hbt : b = true := by cases b <;> first | rfl | exact absurd hb1 (by decide)
        have hpc := hb.1 hbt
        have hcm : c ^ m = n := (ordR_eq hn2 hn hc2 hm1).1 (by omega)
        have hlf := hun c m hpc hm1 hcm
        refine ⟨fun hm => ?_, fun hm => ?_⟩
        · have hm' : m = 1 := by omega
          subst hm'
          exact h1 c 1 [] hlf (by omega) hcm (.inl ⟨rfl, rfl⟩)
        · obtain ⟨v0, hv0, hI0⟩ := irr_ex hpc (show 2 ≤ m by omega) (by omega)
          refine ⟨fun z => ∃ i : Nat, z = i ∧ i ≤ n ∧ ∀ j, j < i → ¬ Irr c m (dv c j), fun z => (n - z).toNat, ⟨0, rfl, Nat.zero_le _, fun j hj => by omega⟩, ?_⟩
          rintro _ ⟨i, rfl, hi, hnoi⟩
          dsimp only
          refine ⟨fun hlti => ?_, fun hgei => ?_⟩
          · have hic : i < c ^ m := by omega
            refine v_rdigits (by omega) (by omega) (by omega) (v_rirr hc2 (by omega) (dgi_len c m i) (by omega) (dgi_cn (by omega) hic m) fun b2 hb2 => ?_)
            rw [dgi_vo hic] at hb2
            refine ⟨fun hbt2 => h1 c m _ hlf hm1 hcm (.inr ⟨by omega, i, ⟨hic, hb2.1 hbt2, hnoi⟩, rfl⟩), fun hbf2 => ⟨small (by omega) (by omega), ⟨i + 1, by push_cast; rfl, by omega, fun j hj => ?_⟩, by omega⟩⟩
            by_cases hji : j = i
            · subst hji; intro hI; rw [hb2.2 hI] at hbf2; exact absurd hbf2 (by decide)
            · exact hnoi j (by omega)
          · exact absurd hI0 (hnoi v0 (by omega))
      · rintro _ hnot
        refine ⟨small (by omega) (by omega), ⟨c + 1, by push_cast; rfl, by omega, by omega, fun e he hl h => ?_⟩, by omega⟩
        by_cases hec : e = c
        · subst hec; exact hnot ⟨hl, h⟩
        · exact hnc e (by omega) hl h
    · refine ⟨small (by omega) (by omega), ⟨m + 1, by push_cast; rfl, by omega, by omega, fun j e hj1 hj hl h => ?_⟩, by omega⟩
      by_cases hjm : j = m
      · subst hjm
        have hen : e ≤ n := by
          have := pow_mono (p := e) (by have := hl.two; omega) hj1
          rw [Nat.pow_one] at this; omega
        exact hnc e (by omega) hl h
      · exact hno j e hj1 (by omega) hl h
  · have hp2 := hp.two
    have hk8 : k ≤ 8 := by
      rcases Nat.lt_or_ge 8 k with h1 | h1
      · have e1 : 2 ^ 9 ≤ p ^ 9 := Nat.pow_le_pow_left hp2 9
        have e2 := pow_mono (p := p) (by omega) (show 9 ≤ k by omega)
        omega
      · exact h1
    exact hno k p hk (by omega) (lf_prime hp) he
theorem law_FieldStandard (x : Int) : V_FieldStandard x (fun b => b = true) := by
  refine v_alive ⟨fun h => absurd h (by decide), fun _ => ?_⟩
  have hbad : (x < 2 ∨ 256 < x) → V_Standard x (fun q => match q with | ((r15, r16, x17), r21) => V_rStandard x (fun q => match q with | ((r26, r27, x28), r32) => (((!r32) = true) → (((r21 = (6 : Int)) → (V_rSame r15 r16 x17 (0 : Int) (0 : Int) ([] : List Int) (fun r39 => r39 = true))) ∧ (¬ (r21 = (6 : Int)) → (false = true)))) ∧ ((!r32) = false → (((r21 = (0 : Int)) → (V_rSame r15 r16 x17 r26 r27 x28 (fun r42 => r42 = true))) ∧ (¬ (r21 = (0 : Int)) → (false = true)))))) := fun hx => by
    have hfin : (((!false) = true) → ((((6 : Int) = (6 : Int)) → (V_rSame 0 0 [] (0 : Int) (0 : Int) ([] : List Int) (fun r39 => r39 = true))) ∧ (¬ ((6 : Int) = (6 : Int)) → (false = true)))) ∧ ((!false) = false → ((((6 : Int) = (0 : Int)) → (V_rSame 0 0 [] 0 0 [] (fun r42 => r42 = true))) ∧ (¬ ((6 : Int) = (0 : Int)) → (false = true)))) := ⟨fun _ => ⟨fun _ => v_rSame (by simp) (same_refl _ _ _), fun h => absurd rfl h⟩, fun h => absurd h (by decide)⟩
    have hr : V_rStandard x (fun q => match q with | ((r26, r27, x28), r32) => (((!r32) = true) → ((((6 : Int) = (6 : Int)) → (V_rSame 0 0 [] (0 : Int) (0 : Int) ([] : List Int) (fun r39 => r39 = true))) ∧ (¬ ((6 : Int) = (6 : Int)) → (false = true)))) ∧ ((!r32) = false → ((((6 : Int) = (0 : Int)) → (V_rSame 0 0 [] r26 r27 x28 (fun r42 => r42 = true))) ∧ (¬ ((6 : Int) = (0 : Int)) → (false = true))))) := by
      by_cases h1 : x < 2
      · exact ⟨fun _ => hfin, fun h => absurd h1 h⟩
      · exact ⟨fun h => absurd h h1, fun _ => ⟨fun _ => hfin, fun h => absurd (by omega) h⟩⟩
    by_cases h1 : x < 2
    · exact ⟨fun _ => hr, fun h => absurd h1 h⟩
    · exact ⟨fun h => absurd h h1, fun _ => ⟨fun _ => hr, fun h => absurd (by omega) h⟩⟩
  by_cases hx : x < 2 ∨ 256 < x
  · exact hbad hx
  · obtain ⟨n, rfl⟩ := Int.eq_ofNat_of_zero_le (show 0 ≤ x by omega)
    refine v_Standard (by omega) (by omega) (fun hno => v_rStandard (by omega) (by omega) (fun _ => ?_) fun p k md hp hk he => absurd he (hno p k hp hk)) fun p k md hp hk he hmd => v_rStandard (by omega) (by omega) (fun hno => absurd he (hno p k hp hk)) fun p' k' md' hp' hk' he' hmd' => ?_
    · exact ⟨fun _ => ⟨fun _ => v_rSame (by simp) (same_refl _ _ _), fun h => absurd rfl h⟩, fun h => absurd h (by decide)⟩
    · have e1 : p = p' := hp.uniq hp'
      subst e1
      have hp2 := hp.two
      have e2 : k = k' := by
        rcases Nat.lt_trichotomy k k' with h | h | h
        · have := Nat.pow_lt_pow_right (show 1 < p by omega) h; omega
        · exact h
        · have := Nat.pow_lt_pow_right (show 1 < p by omega) h; omega
      subst e2
      have e3 := hmd.uniq hmd'
      subst e3
      have hml : md.length ≤ 9223372036854775807 := by
        rcases hmd with ⟨_, rfl⟩ | ⟨_, i, _, rfl⟩
        · simp
        · rw [dgi_len]
          have := Nat.lt_pow_self (n := k) (show 1 < p by omega)
          omega
      exact ⟨fun h => absurd h (by decide), fun _ => ⟨fun _ => v_rSame hml (same_refl _ _ _), fun h => absurd rfl h⟩⟩
end Go.Proofs.Ytinibbfpdbddpaa
