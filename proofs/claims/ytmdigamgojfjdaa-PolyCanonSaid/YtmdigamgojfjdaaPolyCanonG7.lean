/- Contracts of functions of the program, and what they lean on: Pa, Pb, P1. -/
import Derived.Test.YtmdigamgojfjdaaPolyCanonG6
set_option linter.unusedVariables false
set_option linter.unusedSimpArgs false
namespace Go.Proofs.Ytmdigamgojfjdaa
/-! ### commutative rings, sums, series -/
class Cr (α : Type) where
  add : α → α → α
  mul : α → α → α
  neg : α → α
  zero : α
  one : α
  ac : ∀ x y, add x y = add y x
  aa : ∀ x y z, add (add x y) z = add x (add y z)
  az : ∀ x, add x zero = x
  an : ∀ x, add x (neg x) = zero
  mc : ∀ x y, mul x y = mul y x
  ma : ∀ x y z, mul (mul x y) z = mul x (mul y z)
  m1 : ∀ x, mul x one = x
  md : ∀ x y z, mul x (add y z) = add (mul x y) (mul x z)
section
variable {α : Type} [Cr α]
instance (priority := 100) crAdd : Add α := ⟨Cr.add⟩
instance (priority := 100) crMul : Mul α := ⟨Cr.mul⟩
instance (priority := 100) crNeg : Neg α := ⟨Cr.neg⟩
instance (priority := 100) crSub : Sub α := ⟨fun x y => Cr.add x (Cr.neg y)⟩
instance (priority := 100) crZero : OfNat α 0 := ⟨Cr.zero⟩
instance (priority := 100) crOne : OfNat α 1 := ⟨Cr.one⟩
namespace Cr
theorem add_comm (x y : α) : x + y = y + x := Cr.ac x y
theorem add_assoc (x y z : α) : x + y + z = x + (y + z) := Cr.aa x y z
theorem add_zero (x : α) : x + 0 = x := Cr.az x
theorem zero_add (x : α) : 0 + x = x := by rw [Cr.add_comm, Cr.add_zero]
theorem add_neg (x : α) : x + -x = 0 := Cr.an x
theorem neg_add (x : α) : -x + x = 0 := by rw [Cr.add_comm, Cr.add_neg]
theorem mul_comm (x y : α) : x * y = y * x := Cr.mc x y
theorem mul_assoc (x y z : α) : x * y * z = x * (y * z) := Cr.ma x y z
theorem mul_one (x : α) : x * 1 = x := Cr.m1 x
theorem one_mul (x : α) : 1 * x = x := by rw [Cr.mul_comm, Cr.mul_one]
theorem mul_add (x y z : α) : x * (y + z) = x * y + x * z := Cr.md x y z
theorem add_mul (x y z : α) : (x + y) * z = x * z + y * z := by rw [Cr.mul_comm, Cr.mul_add, Cr.mul_comm z x, Cr.mul_comm z y]
theorem sub_eq (x y : α) : x - y = x + -y := rfl
theorem add_left_comm (x y z : α) : x + (y + z) = y + (x + z) := by rw [← Cr.add_assoc, Cr.add_comm x y, Cr.add_assoc]
theorem add_left_cancel {x y z : α} (h : x + y = x + z) : y = z := by
  have := congrArg (fun u => -x + u) h
  simpa [← Cr.add_assoc, Cr.neg_add, Cr.zero_add] using this
theorem mul_zero (x : α) : x * 0 = 0 := by
  refine Cr.add_left_cancel (x := x * 0) ?_
  rw [← Cr.mul_add, Cr.add_zero, Cr.add_zero]
theorem zero_mul (x : α) : 0 * x = 0 := by rw [Cr.mul_comm, Cr.mul_zero]
theorem neg_uniq {x y : α} (h : x + y = 0) : y = -x := Cr.add_left_cancel (x := x) (by rw [h, Cr.add_neg])
theorem neg_zero : -(0 : α) = 0 := (Cr.neg_uniq (Cr.add_zero (0 : α))).symm
theorem neg_neg (x : α) : - -x = x := (Cr.neg_uniq (Cr.neg_add x)).symm
theorem neg_addd (x y : α) : -(x + y) = -x + -y := (Cr.neg_uniq (by
  rw [Cr.add_assoc, Cr.add_left_comm y, ← Cr.add_assoc, Cr.add_neg, Cr.add_neg, Cr.add_zero])).symm
theorem mul_neg (x y : α) : x * -y = -(x * y) := Cr.neg_uniq (by rw [← Cr.mul_add, Cr.add_neg, Cr.mul_zero])
theorem neg_mul (x y : α) : -x * y = -(x * y) := by rw [Cr.mul_comm, Cr.mul_neg, Cr.mul_comm]
theorem sub_self (x : α) : x - x = 0 := Cr.add_neg x
theorem sub_zero (x : α) : x - 0 = x := by rw [Cr.sub_eq, Cr.neg_zero, Cr.add_zero]
theorem sub_add (x y : α) : x - y + y = x := by rw [Cr.sub_eq, Cr.add_assoc, Cr.neg_add, Cr.add_zero]
theorem add_sub (x y : α) : x + y - y = x := by rw [Cr.sub_eq, Cr.add_assoc, Cr.add_neg, Cr.add_zero]
theorem eq_of_sub {x y : α} (h : x - y = 0) : x = y := by rw [← Cr.sub_add x y, h, Cr.zero_add]
theorem sub_iff {x y z : α} : x - y = z ↔ x = z + y := ⟨fun h => by rw [← h, Cr.sub_add], fun h => by rw [h, Cr.add_sub]⟩
theorem mul_sub (x y z : α) : x * (y - z) = x * y - x * z := by rw [Cr.sub_eq, Cr.mul_add, Cr.mul_neg]; rfl
theorem sub_mul (x y z : α) : (x - y) * z = x * z - y * z := by rw [Cr.mul_comm, Cr.mul_sub, Cr.mul_comm z, Cr.mul_comm z]
theorem neg_sub (x y : α) : -(x - y) = y - x := by rw [Cr.sub_eq, Cr.neg_addd, Cr.neg_neg, Cr.add_comm]; rfl
end Cr
instance : Std.Commutative (α := α) (· + ·) := ⟨Cr.add_comm⟩
instance : Std.Associative (α := α) (· + ·) := ⟨Cr.add_assoc⟩
instance : Std.Commutative (α := α) (· * ·) := ⟨Cr.mul_comm⟩
instance : Std.Associative (α := α) (· * ·) := ⟨Cr.mul_assoc⟩
def sgm (f : Nat → α) : Nat → α
  | 0 => 0
  | n + 1 => sgm f n + f n
theorem sgm_congr {f g : Nat → α} : ∀ {n : Nat}, (∀ i, i < n → f i = g i) → sgm f n = sgm g n
  | 0, _ => rfl
  | n + 1, h => by rw [sgm, sgm, sgm_congr (n := n) fun i hi => h i (by omega), h n (by omega)]
theorem sgm_add (f g : Nat → α) : ∀ n, sgm (fun i => f i + g i) n = sgm f n + sgm g n
  | 0 => (Cr.add_zero 0).symm
  | n + 1 => by rw [sgm, sgm, sgm, sgm_add f g n]; ac_rfl
theorem sgm_mul (a : α) (f : Nat → α) : ∀ n, sgm (fun i => a * f i) n = a * sgm f n
  | 0 => (Cr.mul_zero a).symm
  | n + 1 => by rw [sgm, sgm, sgm_mul a f n, Cr.mul_add]
theorem sgm_mulr (a : α) (f : Nat → α) (n : Nat) : sgm (fun i => f i * a) n = sgm f n * a := by
  rw [Cr.mul_comm _ a, ← sgm_mul]
  exact sgm_congr fun i _ => Cr.mul_comm _ _
theorem sgm_zero {f : Nat → α} : ∀ {n : Nat}, (∀ i, i < n → f i = 0) → sgm f n = 0
  | 0, _ => rfl
  | n + 1, h => by rw [sgm, sgm_zero (n := n) fun i hi => h i (by omega), h n (by omega), Cr.add_zero]
theorem sgm_front (f : Nat → α) : ∀ n, sgm f (n + 1) = f 0 + sgm (fun i => f (i + 1)) n
  | 0 => by rw [sgm, sgm, sgm, Cr.add_comm]
  | n + 1 => by rw [sgm, sgm_front f n, sgm, Cr.add_assoc]
theorem sgm_rev (f : Nat → α) : ∀ n, sgm f n = sgm (fun i => f (n - 1 - i)) n
  | 0 => rfl
  | n + 1 => by
    rw [sgm_front (fun i => f (n + 1 - 1 - i)) n, sgm, sgm_rev f n, Cr.add_comm]
    congr 1
    exact sgm_congr fun i hi => by congr 1; omega
theorem sgm_one {f : Nat → α} {k : Nat} : ∀ {n : Nat}, k < n → (∀ i, i < n → i ≠ k → f i = 0) → sgm f n = f k
  | 0, h, _ => absurd h (Nat.not_lt_zero k)
  | n + 1, h, h0 => by
    by_cases hk : k = n
    · subst hk
      rw [sgm, sgm_zero fun i hi => h0 i (by omega) (by omega), Cr.zero_add]
    · rw [sgm, sgm_one (n := n) (by omega) fun i hi hne => h0 i (by omega) hne, h0 n (by omega) (Ne.symm hk), Cr.add_zero]
theorem sgm_tri (F : Nat → Nat → α) : ∀ n, sgm (fun s => sgm (fun i => F i (s - i)) (s + 1)) n = sgm (fun i => sgm (F i) (n - i)) n
  | 0 => rfl
  | n + 1 => by
    rw [sgm, sgm_tri F n, sgm]
    have h1 : sgm (fun i => sgm (F i) (n + 1 - i)) n = sgm (fun i => sgm (F i) (n - i)) n + sgm (fun i => F i (n - i)) n := by
      rw [← sgm_add]
      exact sgm_congr fun i hi => by rw [show n + 1 - i = (n - i) + 1 by omega, sgm]
    rw [sgm, h1, show n + 1 - n = 0 + 1 by omega, sgm, sgm, Cr.zero_add, Nat.sub_self, Cr.add_assoc]
/-! series -/
def Pl (α : Type) : Type := Nat → α
def pmul (f g : Nat → α) : Nat → α := fun k => sgm (fun i => f i * g (k - i)) (k + 1)
theorem pmul_comm (f g : Nat → α) : pmul f g = pmul g f := by
  funext k
  unfold pmul
  rw [sgm_rev]
  exact sgm_congr fun i hi => by
    rw [Cr.mul_comm]
    congr 2 <;> omega
theorem pmul_assoc (f g h : Nat → α) : pmul (pmul f g) h = pmul f (pmul g h) := by
  funext k
  have e1 : pmul (pmul f g) h k = sgm (fun s => sgm (fun i => f i * g (s - i) * h (k - (i + (s - i)))) (s + 1)) (k + 1) := by
    show sgm (fun s => sgm (fun i => f i * g (s - i)) (s + 1) * h (k - s)) (k + 1) = _
    refine sgm_congr fun s hs => ?_
    rw [← sgm_mulr]
    exact sgm_congr fun i hi => by rw [show i + (s - i) = s by omega]
  have e2 : pmul f (pmul g h) k = sgm (fun i => sgm (fun j => f i * g j * h (k - (i + j))) (k + 1 - i)) (k + 1) := by
    show sgm (fun i => f i * sgm (fun j => g j * h (k - i - j)) (k - i + 1)) (k + 1) = _
    refine sgm_congr fun i hi => ?_
    rw [← sgm_mul, show k + 1 - i = k - i + 1 by omega]
    exact sgm_congr fun j hj => by rw [Cr.mul_assoc, show k - i - j = k - (i + j) by omega]
  rw [e1, e2]
  exact sgm_tri (fun i j => f i * g j * h (k - (i + j))) (k + 1)
instance : Cr (Pl α) where
  add f g := fun i => f i + g i
  mul f g := pmul f g
  neg f := fun i => -(f i)
  zero := fun _ => 0
  one := fun i => if i = 0 then 1 else 0
  ac f g := funext fun i => Cr.add_comm _ _
  aa f g h := funext fun i => Cr.add_assoc _ _ _
  az f := funext fun i => Cr.add_zero _
  an f := funext fun i => Cr.add_neg _
  mc f g := pmul_comm f g
  ma f g h := pmul_assoc f g h
  m1 f := by
    refine (pmul_comm (α := α) f (fun i => if i = 0 then 1 else 0)).trans ?_
    funext k
    show sgm (fun i => (if i = 0 then (1 : α) else 0) * f (k - i)) (k + 1) = f k
    rw [sgm_one (k := 0) (by omega) fun i hi hne => by rw [if_neg hne, Cr.zero_mul], if_pos rfl, Cr.one_mul, Nat.sub_zero]
  md f g h := by
    funext k
    show sgm (fun i => f i * (g (k - i) + h (k - i))) (k + 1) = sgm (fun i => f i * g (k - i)) (k + 1) + sgm (fun i => f i * h (k - i)) (k + 1)
    rw [← sgm_add]
    exact sgm_congr fun i _ => Cr.mul_add _ _ _
namespace Pl
omit [Cr α] in
theorem ext {f g : Pl α} (h : ∀ i, f i = g i) : f = g := funext h
theorem add_at (f g : Pl α) (i : Nat) : (f + g) i = f i + g i := rfl
theorem neg_at (f : Pl α) (i : Nat) : (-f) i = -(f i) := rfl
theorem sub_at (f g : Pl α) (i : Nat) : (f - g) i = f i - g i := rfl
theorem one_at (i : Nat) : (1 : Pl α) i = if i = 0 then 1 else 0 := rfl
theorem mul_at (f g : Pl α) (k : Nat) : (f * g) k = sgm (fun i => f i * g (k - i)) (k + 1) := rfl
end Pl
/-! finite support -/
def Su (f : Pl α) (n : Nat) : Prop := ∀ i, n ≤ i → f i = 0
theorem Su.mono {f : Pl α} {n m : Nat} (h : Su f n) (hm : n ≤ m) : Su f m := fun i hi => h i (by omega)
theorem Su.add {f g : Pl α} {n : Nat} (hf : Su f n) (hg : Su g n) : Su (f + g) n := fun i hi => by rw [Pl.add_at, hf i hi, hg i hi, Cr.add_zero]
theorem Su.neg {f : Pl α} {n : Nat} (hf : Su f n) : Su (-f) n := fun i hi => by rw [Pl.neg_at, hf i hi, Cr.neg_zero]
theorem Su.sub {f g : Pl α} {n : Nat} (hf : Su f n) (hg : Su g n) : Su (f - g) n := Su.add hf hg.neg
theorem Su.zero (n : Nat) : Su (0 : Pl α) n := fun i _ => rfl
theorem Su.one : Su (1 : Pl α) 1 := fun i hi => by rw [Pl.one_at, if_neg (by omega)]
theorem Su.eq0 {f : Pl α} (h : Su f 0) : f = 0 := Pl.ext fun i => h i (Nat.zero_le i)
theorem Su.mul {f g : Pl α} {n m : Nat} (hf : Su f n) (hg : Su g m) : Su (f * g) (n + m - 1) := fun k hk => by
  rw [Pl.mul_at]
  refine sgm_zero fun i hi => ?_
  by_cases h : n ≤ i
  · rw [hf i h, Cr.zero_mul]
  · rw [hg (k - i) (by omega), Cr.mul_zero]
theorem top_mul {f g : Pl α} {n m : Nat} (hf : Su f (n + 1)) (hg : Su g (m + 1)) : (f * g) (n + m) = f n * g m := by
  rw [Pl.mul_at, sgm_one (k := n) (by omega) fun i hi hne => ?_, show n + m - n = m by omega]
  by_cases h : n + 1 ≤ i
  · rw [hf i h, Cr.zero_mul]
  · rw [hg (n + m - i) (by omega), Cr.mul_zero]
/-- degree d -/
def Dg (f : Pl α) (d : Nat) : Prop := f d ≠ 0 ∧ Su f (d + 1)
open Classical in
theorem dg_ex {f : Pl α} : ∀ {n : Nat}, Su f n → f = 0 ∨ ∃ d, d < n ∧ Dg f d
  | 0, h => .inl h.eq0
  | n + 1, h => by
    by_cases h0 : f n = 0
    · rcases dg_ex (f := f) (n := n) (fun i hi => by
        by_cases e : i = n
        · rw [e, h0]
        · exact h i (by omega)) with h1 | ⟨d, h1, h2⟩
      · exact .inl h1
      · exact .inr ⟨d, by omega, h2⟩
    · exact .inr ⟨n, by omega, h0, h⟩
theorem Dg.ne {f : Pl α} {d : Nat} (h : Dg f d) : f ≠ 0 := fun e => h.1 (by rw [e]; rfl)
theorem Dg.lt {f : Pl α} {d n : Nat} (h : Dg f d) (hs : Su f n) : d < n := by
  rcases Nat.lt_or_ge d n with h1 | h1
  · exact h1
  · exact absurd (hs d h1) h.1
theorem Dg.uniq {f : Pl α} {d e : Nat} (h : Dg f d) (h' : Dg f e) : d = e := by
  have h1 := h.lt h'.2; have h2 := h'.lt h.2; omega
/-- a a monomial -/
def mo (a : α) (n : Nat) : Pl α := fun i => if i = n then a else 0
theorem mo_su (a : α) (n : Nat) : Su (mo a n) (n + 1) := fun i hi => if_neg (by omega)
theorem mo_mul (a : α) (n : Nat) (f : Pl α) (k : Nat) : (mo a n * f) k = if n ≤ k then a * f (k - n) else 0 := by
  rw [Pl.mul_at]
  split
  · rename_i h
    rw [sgm_one (k := n) (by omega) fun i hi hne => by rw [mo, if_neg hne, Cr.zero_mul], mo, if_pos rfl]
  · rename_i h
    exact sgm_zero fun i hi => by rw [mo, if_neg (by omega), Cr.zero_mul]
theorem mo_zero (n : Nat) : mo (0 : α) n = 0 := Pl.ext fun i => by unfold mo; split <;> rfl
/-- a constant -/
def ct (a : α) : Pl α := mo a 0
theorem ct_mul (a : α) (f : Pl α) (k : Nat) : (ct a * f) k = a * f k := by rw [ct, mo_mul, if_pos (Nat.zero_le k), Nat.sub_zero]
theorem ct_su (a : α) : Su (ct a) 1 := mo_su a 0
theorem Su.ct {f : Pl α} {n : Nat} (a : α) (h : Su f n) : Su (Go.Proofs.Ytmdigamgojfjdaa.ct a * f) n := fun i hi => by rw [ct_mul, h i hi, Cr.mul_zero]
end
end Go.Proofs.Ytmdigamgojfjdaa
set_option linter.unusedVariables false
set_option linter.unusedSimpArgs false
set_option linter.unusedSectionVars false
namespace Go.Proofs.Ytmdigamgojfjdaa
/-! ### polynomials over a field -/
class Fd (α : Type) [Cr α] : Prop where
  ne : (1 : α) ≠ 0
  inv : ∀ x : α, x ≠ 0 → ∃ y, x * y = 1
section
variable {α : Type} [Cr α]
def Fs (f : Pl α) : Prop := ∃ n, Su f n
theorem Fs.add {f g : Pl α} : Fs f → Fs g → Fs (f + g) := fun ⟨n, hn⟩ ⟨m, hm⟩ => ⟨max n m, (hn.mono (by omega)).add (hm.mono (by omega))⟩
theorem Fs.neg {f : Pl α} : Fs f → Fs (-f) := fun ⟨n, hn⟩ => ⟨n, hn.neg⟩
theorem Fs.sub {f g : Pl α} (hf : Fs f) (hg : Fs g) : Fs (f - g) := hf.add hg.neg
theorem Fs.mul {f g : Pl α} : Fs f → Fs g → Fs (f * g) := fun ⟨n, hn⟩ ⟨m, hm⟩ => ⟨_, hn.mul hm⟩
theorem Fs.zero : Fs (0 : Pl α) := ⟨0, Su.zero 0⟩
theorem Fs.one : Fs (1 : Pl α) := ⟨1, Su.one⟩
theorem Fs.mo (a : α) (n : Nat) : Fs (mo a n) := ⟨n + 1, mo_su a n⟩
theorem Fs.ct (a : α) : Fs (ct a) := ⟨1, ct_su a⟩
theorem Dg.fs {f : Pl α} {d : Nat} (h : Dg f d) : Fs f := ⟨_, h.2⟩
/-! divisibility -/
def Dv (f g : Pl α) : Prop := ∃ h, Fs h ∧ g = f * h
theorem Dv.refl (f : Pl α) : Dv f f := ⟨1, Fs.one, (Cr.mul_one f).symm⟩
theorem Dv.zero (f : Pl α) : Dv f 0 := ⟨0, Fs.zero, (Cr.mul_zero f).symm⟩
theorem Dv.trans {f g h : Pl α} : Dv f g → Dv g h → Dv f h := fun ⟨a, ha, h1⟩ ⟨b, hb, h2⟩ => ⟨a * b, ha.mul hb, by rw [h2, h1, Cr.mul_assoc]⟩
theorem Dv.add {f g h : Pl α} : Dv f g → Dv f h → Dv f (g + h) := fun ⟨a, ha, h1⟩ ⟨b, hb, h2⟩ => ⟨a + b, ha.add hb, by rw [h1, h2, Cr.mul_add]⟩
theorem Dv.neg {f g : Pl α} : Dv f g → Dv f (-g) := fun ⟨a, ha, h1⟩ => ⟨-a, ha.neg, by rw [h1, Cr.mul_neg]⟩
theorem Dv.sub {f g h : Pl α} (h1 : Dv f g) (h2 : Dv f h) : Dv f (g - h) := h1.add h2.neg
theorem Dv.mulr {f g : Pl α} (h : Dv f g) {a : Pl α} (ha : Fs a) : Dv f (g * a) := by
  obtain ⟨b, hb, rfl⟩ := h
  exact ⟨b * a, hb.mul ha, Cr.mul_assoc _ _ _⟩
theorem Dv.mull {f g : Pl α} (h : Dv f g) {a : Pl α} (ha : Fs a) : Dv f (a * g) := by rw [Cr.mul_comm]; exact h.mulr ha
/-- the greatest common divisors of two polynomials, but for a factor -/
def Gd (p q d : Pl α) : Prop := Dv d p ∧ Dv d q ∧ ∀ c, Dv c p → Dv c q → Dv c d
theorem Gd.step {p q a r d : Pl α} (ha : Fs a) (e : p = a * q + r) (h : Gd q r d) : Gd p q d := by
  refine ⟨by rw [e]; exact (h.1.mull ha).add h.2.1, h.1, fun c h1 h2 => h.2.2 c h2 ?_⟩
  have : r = p - a * q := by rw [e, Cr.add_comm, Cr.add_sub]
  rw [this]; exact h1.sub (h2.mull ha)
theorem Gd.zero (p : Pl α) : Gd p 0 p := ⟨Dv.refl p, Dv.zero p, fun c h _ => h⟩
theorem Gd.symm {p q d : Pl α} (h : Gd p q d) : Gd q p d := ⟨h.2.1, h.1, fun c h1 h2 => h.2.2 c h2 h1⟩
theorem Gd.assoc {p q d e : Pl α} (h : Gd p q d) (h1 : Dv e d) (h2 : Dv d e) : Gd p q e := ⟨h1.trans h.1, h1.trans h.2.1, fun c h3 h4 => (h.2.2 c h3 h4).trans h2⟩
def Mn (f : Pl α) : Prop := ∃ d, Dg f d ∧ f d = 1
/-! congruence -/
def Cg (m f g : Pl α) : Prop := Dv m (f - g)
theorem Cg.refl (m f : Pl α) : Cg m f f := by unfold Cg; rw [Cr.sub_self]; exact Dv.zero m
theorem Cg.symm {m f g : Pl α} (h : Cg m f g) : Cg m g f := by have := Dv.neg h; rwa [Cr.neg_sub] at this
theorem Cg.trans {m f g k : Pl α} (h : Cg m f g) (h' : Cg m g k) : Cg m f k := by
  have := Dv.add h h'
  have e : f - g + (g - k) = f - k := by
    rw [Cr.sub_eq, Cr.sub_eq, Cr.sub_eq, Cr.add_assoc, ← Cr.add_assoc (-g), Cr.neg_add, Cr.zero_add]
  rwa [e] at this
theorem Cg.mul {m f g f' g' : Pl α} (h : Cg m f g) (h' : Cg m f' g') (hf : Fs f') (hg : Fs g) : Cg m (f * f') (g * g') := by
  have := Dv.add (Dv.mulr h hf) (Dv.mull h' hg)
  have e : (f - g) * f' + g * (f' - g') = f * f' - g * g' := by
    rw [Cr.sub_mul, Cr.mul_sub, Cr.sub_eq, Cr.sub_eq, Cr.sub_eq, Cr.add_assoc, ← Cr.add_assoc (-(g * f')), Cr.neg_add, Cr.zero_add]
  rw [e] at this; exact this
/-! powers and values -/
def pwr (x : α) : Nat → α
  | 0 => 1
  | n + 1 => pwr x n * x
def evp (f : Pl α) (n : Nat) (x : α) : α := sgm (fun i => f i * pwr x i) n
open Classical in
noncomputable def vl_ (f : Pl α) (x : α) : α := if h : Fs f then evp f (Classical.choose h) x else 0
/-! linear factors -/
def lin (a : α) : Pl α := fun i => if i = 0 then -a else if i = 1 then 1 else 0
def lpf (r : Pl α) : Nat → Pl α
  | 0 => 1
  | k + 1 => lpf r k * lin (r k)
/-! derivatives -/
def nt (x : α) : Nat → α
  | 0 => 0
  | n + 1 => nt x n + x
def dr (f : Pl α) : Pl α := fun i => nt (f (i + 1)) (i + 1)
/-! composition -/
def cmp (p : Pl α) (n : Nat) (q : Pl α) : Pl α := sgm (fun i => ct (p i) * pwr q i) n
end
section
variable {α : Type} [Cr α] [Fd α]
theorem Fd.nzd {x y : α} (h : x * y = 0) : x = 0 ∨ y = 0 := by
  by_cases h0 : x = 0
  · exact .inl h0
  · obtain ⟨z, hz⟩ := Fd.inv x h0
    refine .inr ?_
    rw [← Cr.one_mul y, ← hz, Cr.mul_comm x, Cr.mul_assoc, h, Cr.mul_zero]
theorem Fd.cancel {x y z : α} (hx : x ≠ 0) (h : x * y = x * z) : y = z := by
  have : x * (y - z) = 0 := by rw [Cr.mul_sub, h, Cr.sub_self]
  exact Cr.eq_of_sub ((Fd.nzd this).resolve_left hx)
theorem Dg.mul {f g : Pl α} {a b : Nat} (hf : Dg f a) (hg : Dg g b) : Dg (f * g) (a + b) :=
  ⟨fun h => by rw [top_mul hf.2 hg.2] at h; rcases Fd.nzd h with h | h; exact hf.1 h; exact hg.1 h, (hf.2.mul hg.2).mono (by omega)⟩
theorem Pl.nzd {f g : Pl α} (hf : Fs f) (hg : Fs g) (h : f * g = 0) : f = 0 ∨ g = 0 := by
  obtain ⟨n, hn⟩ := hf; obtain ⟨m, hm⟩ := hg
  rcases dg_ex hn with h1 | ⟨a, _, h1⟩
  · exact .inl h1
  · rcases dg_ex hm with h2 | ⟨b, _, h2⟩
    · exact .inr h2
    · exact absurd h (h1.mul h2).ne
theorem Pl.cancel {f g h : Pl α} (hf : Fs f) (hg : Fs g) (hh : Fs h) (h0 : f ≠ 0) (e : f * g = f * h) : g = h := by
  have : f * (g - h) = 0 := by rw [Cr.mul_sub, e, Cr.sub_self]
  exact Cr.eq_of_sub ((Pl.nzd hf (hg.sub hh) this).resolve_left h0)
theorem div_uniq {q a r a' r' : Pl α} {d : Nat} (hq : Dg q d) (ha : Fs a) (ha' : Fs a') (hr : Su r d) (hr' : Su r' d) (e : a * q + r = a' * q + r') : a = a' ∧ r = r' := by
  have e1 : (a - a') * q = r' - r := by
    rw [Cr.sub_mul, Cr.sub_iff, Cr.sub_eq, Cr.add_assoc, Cr.add_comm (-r), ← Cr.add_assoc, Cr.add_comm r', ← e, Cr.add_assoc, Cr.add_neg, Cr.add_zero]
  have h0 : a - a' = 0 := by
    obtain ⟨n, hn⟩ := ha.sub ha'
    rcases dg_ex hn with h | ⟨k, _, h⟩
    · exact h
    · have h1 := h.mul hq
      rw [e1] at h1
      have := h1.lt (hr'.sub hr); omega
  rw [h0, Cr.zero_mul] at e1
  exact ⟨Cr.eq_of_sub h0, (Cr.eq_of_sub e1.symm).symm⟩
theorem Dv.dg {f g : Pl α} {a b : Nat} (h : Dv f g) (hf : Dg f a) (hg : Dg g b) : a ≤ b := by
  obtain ⟨k, ⟨n, hn⟩, rfl⟩ := h
  rcases dg_ex hn with h1 | ⟨c, _, h1⟩
  · rw [h1, Cr.mul_zero] at hg; exact absurd rfl hg.ne
  · have := (hf.mul h1).uniq hg; omega
theorem Mn.uniq {f g : Pl α} (hf : Mn f) (hg : Mn g) (h1 : Dv f g) (h2 : Dv g f) : f = g := by
  obtain ⟨a, ha, ea⟩ := hf; obtain ⟨b, hb, eb⟩ := hg
  have e1 := h1.dg ha hb; have e2 := h2.dg hb ha
  obtain rfl : a = b := by omega
  obtain ⟨k, ⟨n, hn⟩, rfl⟩ := h1
  rcases dg_ex hn with h | ⟨c, _, h⟩
  · rw [h, Cr.mul_zero] at hb; exact absurd rfl hb.ne
  · have hc := (ha.mul h).uniq hb
    have hc0 : c = 0 := by omega
    subst hc0
    have hk : k = ct (k 0) := Pl.ext fun i => by
      show _ = if i = 0 then k 0 else 0
      split
      · rename_i hi; rw [hi]
      · rename_i hi; exact h.2 i (by omega)
    have := top_mul ha.2 h.2
    rw [Nat.add_zero, eb, ea, Cr.one_mul] at this
    rw [hk, ← this]
    exact (Cr.mul_one f).symm
theorem Gd.uniq {p q d e : Pl α} (h1 : Gd p q d) (h2 : Gd p q e) (hd : Mn d) (he : Mn e) : d = e :=
  hd.uniq he (h2.2.2 d h1.1 h1.2.1) (h1.2.2 e h2.1 h2.2.1)
open Classical in
/-- the monic greatest common divisor -/
noncomputable def gc (f g : Pl α) : Pl α := if h : ∃ d, Gd f g d ∧ Fs d ∧ (Mn d ∨ d = 0) then Classical.choose h else 0
open Classical in
noncomputable def qt (f g : Pl α) : Pl α := if h : ∃ a r d, Dg g d ∧ Fs a ∧ f = a * g + r ∧ Su r d then Classical.choose h else 0
noncomputable def rm (f g : Pl α) : Pl α := f - qt f g * g
theorem qt_uniq {f g a r : Pl α} {d : Nat} (hg : Dg g d) (ha : Fs a) (e : f = a * g + r) (hr : Su r d) : qt f g = a ∧ rm f g = r := by
  have h : ∃ a r d, Dg g d ∧ Fs a ∧ f = a * g + r ∧ Su r d := ⟨a, r, d, hg, ha, e, hr⟩
  have hq : qt f g = a := by
    unfold qt; rw [dif_pos h]
    obtain ⟨r', d', h1, h2, h3, h4⟩ := Classical.choose_spec h
    obtain rfl := h1.uniq hg
    exact (div_uniq hg h2 ha h4 hr (by rw [← h3, ← e])).1
  exact ⟨hq, by unfold rm; rw [hq, e, Cr.add_comm, Cr.add_sub]⟩
open Classical in
noncomputable def inv_ (x : α) : α := if h : ∃ y, x * y = 1 then Classical.choose h else 0
theorem mul_inv {x : α} (h : x ≠ 0) : x * inv_ x = 1 := by
  have h := Fd.inv x h
  unfold inv_; rw [dif_pos h]; exact Classical.choose_spec h
theorem inv_uniq {x y : α} (h : y * x = 1) : y = inv_ x := by
  have h0 : x ≠ 0 := fun e => Fd.ne (α := α) (by rw [← h, e, Cr.mul_zero])
  exact Fd.cancel h0 (by rw [mul_inv h0, Cr.mul_comm, h])
theorem Dg.ct {f : Pl α} {d : Nat} {a : α} (h : Dg f d) (ha : a ≠ 0) : Dg (Go.Proofs.Ytmdigamgojfjdaa.ct a * f) d :=
  ⟨fun e => by rw [ct_mul] at e; rcases Fd.nzd e with e | e; exact ha e; exact h.1 e, h.2.ct a⟩
theorem ct_inv {f : Pl α} {d : Nat} (h : Dg f d) : ct (f d) * (ct (inv_ (f d)) * f) = f := Pl.ext fun i => by rw [ct_mul, ct_mul, ← Cr.mul_assoc, mul_inv h.1, Cr.one_mul]
theorem Gd.monic {p q f : Pl α} {d : Nat} (hg : Gd p q f) (h : Dg f d) : Gd p q (ct (inv_ (f d)) * f) :=
  hg.assoc ⟨ct (f d), Fs.ct _, by rw [Cr.mul_comm, ct_inv h]⟩ ⟨ct (inv_ (f d)), Fs.ct _, Cr.mul_comm _ _⟩
end
end Go.Proofs.Ytmdigamgojfjdaa
set_option linter.unusedVariables false
set_option linter.unusedSimpArgs false
namespace Go.Proofs.Ytmdigamgojfjdaa
/-! ### the elements of a field, and lists of them as polynomials -/
structure Ks where
  p : Nat
  m : Nat
  v : Nat
  g : Nat
  p2 : 2 ≤ p
  m0 : 0 < m
  q256 : p ^ m ≤ 256
  R : CR (p ^ m) (fadd p m) (fmul p m (dv p v))
  G : Gn (p ^ m) (fmul p m (dv p v)) g
def Ks.E (k : Ks) : Type := {x : Nat // x < k.p ^ k.m}
instance (k : Ks) : Cr k.E where
  add x y := ⟨fadd k.p k.m x.1 y.1, k.R.Al _ _⟩
  mul x y := ⟨fmul k.p k.m (dv k.p k.v) x.1 y.1, k.R.Ml _ _⟩
  neg x := ⟨fneg k.p k.m x.1, fneg_lt (by have := k.p2; omega) _⟩
  zero := ⟨0, k.R.pos⟩
  one := ⟨1, k.R.one_lt⟩
  ac x y := Subtype.ext (k.R.Ac _ _)
  aa x y z := Subtype.ext (k.R.Aa x.2 y.2 z.2)
  az x := Subtype.ext (k.R.Az x.2)
  an x := Subtype.ext (fadd_neg (by have := k.p2; omega) x.2)
  mc x y := Subtype.ext (k.R.Mc x.2 y.2)
  ma x y z := Subtype.ext (k.R.Ma x.2 y.2 z.2)
  m1 x := Subtype.ext (k.R.M1 x.2)
  md x y z := Subtype.ext (k.R.Md x.2 y.2 z.2)
theorem Ks.inv (k : Ks) (x : k.E) (h : x ≠ 0) : ∃ y : k.E, x * y = 1 := by
  have h0 : 0 < x.1 := Nat.pos_of_ne_zero fun e => h (Subtype.ext e)
  obtain ⟨a, ha, e⟩ := k.G.surj k.R h0 x.2
  refine ⟨⟨pw (fmul k.p k.m (dv k.p k.v)) k.g (k.p ^ k.m - 1 - a), k.R.pw_lt _ _⟩, Subtype.ext ?_⟩
  show fmul k.p k.m (dv k.p k.v) x.1 _ = 1
  rw [← e, ← k.R.pw_add k.G.lt, show a + (k.p ^ k.m - 1 - a) = k.p ^ k.m - 1 by omega, k.G.one]
instance (k : Ks) : Fd k.E where
  ne := fun h => absurd (congrArg Subtype.val h) (by show ¬ (1 : Nat) = 0; omega)
  inv := k.inv
namespace Ks
variable (k : Ks)
def el (x : Int) : k.E := ⟨inE (k.p ^ k.m) x, inE_lt k.R.pos x⟩
def co (e : k.E) : Int := ((e.1 : Nat) : Int)
variable {k}
theorem co_lt (e : k.E) : 0 ≤ k.co e ∧ k.co e < ((k.p ^ k.m : Nat) : Int) := ⟨Int.natCast_nonneg _, Int.ofNat_lt.2 e.2⟩
theorem el_co (e : k.E) : k.el (k.co e) = e := Subtype.ext (inE_nat e.2)
theorem co_el {x : Int} (h : 0 ≤ x ∧ x < ((k.p ^ k.m : Nat) : Int)) : k.co (k.el x) = x := by
  show ((inE _ x : Nat) : Int) = x
  unfold inE; rw [if_pos h]; omega
theorem co_inj {a b : k.E} (h : k.co a = k.co b) : a = b := Subtype.ext (Int.ofNat.inj h)
theorem co_eq0 {a : k.E} : k.co a = 0 ↔ a = 0 := ⟨fun h => co_inj h, fun h => by rw [h]; rfl⟩
theorem el_zero : k.el 0 = 0 := Subtype.ext (inE_nat (x := 0) k.R.pos)
theorem el_one : k.el 1 = 1 := Subtype.ext (inE_nat (x := 1) k.R.one_lt)
variable (k)
def pol (l : List Int) : Pl k.E := fun i => k.el (vo l i)
def Ell (l : List Int) : Prop := ∀ i, i < l.length → 0 ≤ vo l i ∧ vo l i < ((k.p ^ k.m : Nat) : Int)
/-- l is the canonical list of f -/
def Rp (l : List Int) (f : Pl k.E) : Prop := k.Ell l ∧ (0 < l.length → vo l (l.length - 1) ≠ 0) ∧ k.pol l = f
variable {k}
theorem pol_su (l : List Int) : Su (k.pol l) l.length := fun i hi => by
  show k.el (vo l i) = 0
  rw [vo_hi hi, el_zero]
theorem pol_fs (l : List Int) : Fs (k.pol l) := ⟨_, pol_su l⟩
theorem Rp.su {l : List Int} {f : Pl k.E} (h : k.Rp l f) : Su f l.length := by rw [← h.2.2]; exact pol_su l
theorem Rp.dg {l : List Int} {f : Pl k.E} (h : k.Rp l f) (h0 : 0 < l.length) : Dg f (l.length - 1) := by
  refine ⟨fun e => h.2.1 h0 ?_, by rw [show l.length - 1 + 1 = l.length by omega]; exact h.su⟩
  rw [← h.2.2] at e
  have h1 := h.1 (l.length - 1) (by omega)
  have : k.co (k.el (vo l (l.length - 1))) = 0 := by
    show k.co (k.pol l (l.length - 1)) = 0
    rw [e]; rfl
  rwa [co_el h1] at this
theorem Rp.at_ {l : List Int} {f : Pl k.E} (h : k.Rp l f) {i : Nat} (hi : i < l.length) : vo l i = k.co (f i) := by
  rw [← h.2.2]; exact (co_el (h.1 i hi)).symm
theorem Rp.len {l : List Int} {f : Pl k.E} (h : k.Rp l f) {d : Nat} (hd : Dg f d) : l.length = d + 1 := by
  rcases Nat.eq_zero_or_pos l.length with h0 | h0
  · have := h.su; rw [h0] at this; exact absurd (this.eq0) hd.ne
  · have := (h.dg h0).uniq hd; omega
theorem Rp.uniq {l l' : List Int} {f : Pl k.E} (h : k.Rp l f) (h' : k.Rp l' f) : l = l' := by
  have hl : l.length = l'.length := by
    rcases Nat.eq_zero_or_pos l'.length with h0 | h0
    · rcases Nat.eq_zero_or_pos l.length with h1 | h1
      · omega
      · have := h'.len (h.dg h1); omega
    · have := h.len (h'.dg h0); omega
  exact vo_ext hl fun i hi => by rw [h.at_ hi, h'.at_ (by omega)]
theorem vo_map (f : Nat → Int) (n i : Nat) : vo ((List.range n).map f) i = if i < n then f i else 0 := by
  unfold vo
  rw [List.getD_eq_getElem?_getD, List.getElem?_map]
  split
  · rename_i h; rw [List.getElem?_range h]; rfl
  · rename_i h; rw [List.getElem?_eq_none (by simp; omega)]; rfl
theorem rp_ex {f : Pl k.E} (hf : Fs f) : ∃ l, k.Rp l f := by
  obtain ⟨n, hn⟩ := hf
  have key : ∀ d, (∀ h : 0 < d, f (d - 1) ≠ 0) → Su f d → k.Rp ((List.range d).map fun i => k.co (f i)) f := fun d h1 h2 => by
    have hl : ((List.range d).map fun i => k.co (f i)).length = d := by simp
    refine ⟨fun i hi => ?_, fun h0 => ?_, Pl.ext fun i => ?_⟩
    · rw [vo_map]; split
      · exact co_lt _
      · exact ⟨Int.le_refl 0, by have := k.R.pos; omega⟩
    · rw [hl] at h0 ⊢
      rw [vo_map, if_pos (by omega)]
      exact fun e => h1 h0 (co_eq0.1 e)
    · show k.el (vo _ i) = f i
      rw [vo_map]; split
      · exact el_co _
      · rw [h2 i (by omega), el_zero]
  rcases dg_ex hn with h | ⟨d, _, h⟩
  · exact ⟨_, key 0 (fun h => absurd h (Nat.lt_irrefl 0)) (by rw [h]; exact Su.zero 0)⟩
  · exact ⟨_, key (d + 1) (fun _ => h.1) h.2⟩
variable (k)
open Classical in
/-- the canonical list -/
noncomputable def L (f : Pl k.E) : List Int := if h : ∃ l, k.Rp l f then Classical.choose h else []
variable {k}
theorem L_rp {f : Pl k.E} (hf : Fs f) : k.Rp (k.L f) f := by
  have h := rp_ex hf
  unfold L; rw [dif_pos h]; exact Classical.choose_spec h
theorem L_eq {l : List Int} {f : Pl k.E} (h : k.Rp l f) : l = k.L f := h.uniq (L_rp ⟨_, h.su⟩)
theorem pol_L {f : Pl k.E} (hf : Fs f) : k.pol (k.L f) = f := (L_rp hf).2.2
theorem L_su {f : Pl k.E} (hf : Fs f) : Su f (k.L f).length := (L_rp hf).su
theorem L_len {f : Pl k.E} {n : Nat} (hf : Su f n) : (k.L f).length ≤ n := by
  rcases Nat.eq_zero_or_pos (k.L f).length with h | h
  · omega
  · have := ((L_rp ⟨n, hf⟩).dg h).lt hf; omega
theorem L_dg {f : Pl k.E} {d : Nat} (h : Dg f d) : (k.L f).length = d + 1 := (L_rp h.fs).len h
theorem L_zero : k.L 0 = [] := List.eq_nil_of_length_eq_zero (Nat.le_zero.1 (L_len (Su.zero 0)))
theorem L_len0 {f : Pl k.E} (hf : Fs f) : (k.L f).length = 0 ↔ f = 0 := ⟨fun h => by have := L_su hf; rw [h] at this; exact this.eq0, fun h => by rw [h, L_zero]; rfl⟩
theorem L_at {f : Pl k.E} (hf : Fs f) (i : Nat) : vo (k.L f) i = k.co (f i) := by
  by_cases h : i < (k.L f).length
  · exact (L_rp hf).at_ h
  · rw [vo_hi (by omega), L_su hf i (by omega)]; rfl
theorem L_top {f : Pl k.E} {d : Nat} (h : Dg f d) : gi (k.L f) (((k.L f).length : Nat) - 1 : Int) = k.co (f d) := by
  rw [L_dg h, show (((d + 1 : Nat) : Int) - 1) = ((d : Nat) : Int) by omega, gi_nat, L_at h.fs]
theorem L_pol {l : List Int} (h : k.Ell l) (h0 : 0 < l.length → vo l (l.length - 1) ≠ 0) : k.L (k.pol l) = l := (L_eq ⟨h, h0, rfl⟩).symm
theorem L_idem {f : Pl k.E} (hf : Fs f) : k.L (k.pol (k.L f)) = k.L f := by rw [pol_L hf]
/-- what Degree answers -/
def DegI (f : Pl k.E) (r : Int) : Prop := (r = -1 ∧ f = 0) ∨ ∃ d : Nat, r = d ∧ Dg f d
theorem degI_L {f : Pl k.E} (hf : Fs f) : DegI f (((k.L f).length : Nat) - 1 : Int) := by
  obtain ⟨n, hn⟩ := hf
  rcases dg_ex hn with h | ⟨d, _, h⟩
  · left; rw [h, L_zero]; exact ⟨rfl, rfl⟩
  · right; exact ⟨d, by rw [L_dg h]; omega, h⟩
theorem DegI.uniq {f : Pl k.E} {r r' : Int} (h : DegI f r) (h' : DegI f r') : r = r' := by
  rcases h with ⟨h1, h2⟩ | ⟨d, h1, h2⟩ <;> rcases h' with ⟨h3, h4⟩ | ⟨e, h3, h4⟩
  · omega
  · exact absurd h2 h4.ne
  · exact absurd h4 h2.ne
  · have := h2.uniq h4; omega
/-- a list cut behind its degree -/
theorem rp_take {l : List Int} {j : Nat} (h : k.Ell l) (hj : j ≤ l.length) (h0 : 0 < j → k.pol l (j - 1) ≠ 0) (hs : Su (k.pol l) j) : l.take j = k.L (k.pol l) := by
  have hl : (l.take j).length = j := by rw [List.length_take]; omega
  refine L_eq ⟨fun i hi => ?_, fun hp => ?_, Pl.ext fun i => ?_⟩
  · rw [hl] at hi; rw [take_vo hi]; exact h i (by omega)
  · rw [hl] at hp ⊢
    rw [take_vo (by omega)]
    intro e
    exact h0 hp (by show k.el (vo l (j - 1)) = 0; rw [e, el_zero])
  · show k.el (vo (l.take j) i) = k.pol l i
    by_cases hi : i < j
    · rw [take_vo hi]; rfl
    · rw [vo_hi (by omega), hs i (by omega), el_zero]
end Ks
end Go.Proofs.Ytmdigamgojfjdaa
