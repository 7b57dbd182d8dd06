/- Contracts of functions of the program, and what they lean on. -/
import Derived.Test.YthfpcebcfjlkmabRq
import Derived.Test.YthfpcebcfjlkmabVr
import Derived.Test.YthfpcebcfjlkmabAp
import Derived.Test.YthfpcebcfjlkmabPL3
set_option linter.unusedSimpArgs false
set_option linter.unusedVariables false
namespace Go.Proofs.Ythfpcebcfjlkmab
open Go.RowKit
/-! ### rows of fractions: three cells each -/
abbrev Fr3 := Bool × List Nat × List Nat
def fr0 : Fr3 := (false, [], [])
def qv (r : Fr3) : Rat := val r.1 (nv r.2.1) (nv r.2.2)
def natAt (B : Nat) (w : World) (cells : List Value) (k : Nat) (xs : List Nat) : Prop :=
  cells.getD k undef = .slice (sA (cells.getD k undef)) (sM (cells.getD k undef)) (sC (cells.getD k undef)) ∧ Rd B w 1 (sA (cells.getD k undef)) (sM (cells.getD k undef)) (sC (cells.getD k undef)) (us xs)
structure RatsR (B : Nat) (w : World) (cells : List Value) (rs : List Fr3) : Prop where
  len : cells.length = rs.length * 3
  all : ∀ j, j < rs.length → cells.getD (j * 3) undef = .bool (rs.getD j fr0).1 ∧ natAt B w cells (j * 3 + 1) (rs.getD j fr0).2.1 ∧ natAt B w cells (j * 3 + 2) (rs.getD j fr0).2.2
def RLim (rs : List Fr3) : Prop := ∀ j, j < rs.length → Lim (rs.getD j fr0).2.1 ∧ Lim (rs.getD j fr0).2.2
def RLen (K : Nat) (rs : List Fr3) : Prop := ∀ j, j < rs.length → (rs.getD j fr0).2.1.length ≤ K ∧ (rs.getD j fr0).2.2.length ≤ K
theorem getD_some {cells : List Value} {k : Nat} (h : k < cells.length) : cells[k]? = some (cells.getD k undef) := by simp [List.getD_eq_getElem?_getD, h]
section
variable {B : Nat} {w w' : World} {cells : List Value} {rs : List Fr3}
theorem natAt.ext {k : Nat} {xs : List Nat} (h : natAt B w cells k xs) (hg : w.grownBy w' none) : natAt B w' cells k xs := ⟨h.1, h.2.ext hg⟩
theorem natAt.below {k : Nat} {xs : List Nat} (h : natAt B w cells k xs) (hg : Below B w w') : natAt B w' cells k xs := ⟨h.1, h.2.below hg⟩
theorem natAt.norm {k : Nat} {xs : List Nat} (h : natAt B w cells k xs) : natAt w.heap.size w cells k xs := ⟨h.1, h.2.norm⟩
theorem natAt.of {cells' : List Value} {k k' : Nat} {xs : List Nat} (h : natAt B w cells k xs) (e : cells'.getD k' undef = cells.getD k undef) : natAt B w cells' k' xs := by
  unfold natAt at *; rw [e]; exact h
theorem RatsR.ext (h : RatsR B w cells rs) (hg : w.grownBy w' none) : RatsR B w' cells rs := ⟨h.len, fun j hj => ⟨(h.all j hj).1, (h.all j hj).2.1.ext hg, (h.all j hj).2.2.ext hg⟩⟩
theorem RatsR.below (h : RatsR B w cells rs) (hg : Below B w w') : RatsR B w' cells rs := ⟨h.len, fun j hj => ⟨(h.all j hj).1, (h.all j hj).2.1.below hg, (h.all j hj).2.2.below hg⟩⟩
theorem RatsR.norm (h : RatsR B w cells rs) : RatsR w.heap.size w cells rs := ⟨h.len, fun j hj => ⟨(h.all j hj).1, (h.all j hj).2.1.norm, (h.all j hj).2.2.norm⟩⟩
theorem RatsR.rd1 (h : RatsR B w cells rs) (j : Nat) (hj : j < rs.length) : Rd B w 1 (sA (cells.getD (j * 3 + 1) undef)) (sM (cells.getD (j * 3 + 1) undef)) (sC (cells.getD (j * 3 + 1) undef)) (us (rs.getD j fr0).2.1) := (h.all j hj).2.1.2
theorem RatsR.rd2 (h : RatsR B w cells rs) (j : Nat) (hj : j < rs.length) : Rd B w 1 (sA (cells.getD (j * 3 + 2) undef)) (sM (cells.getD (j * 3 + 2) undef)) (sC (cells.getD (j * 3 + 2) undef)) (us (rs.getD j fr0).2.2) := (h.all j hj).2.2.2
theorem RatsR.c0 (h : RatsR B w cells rs) (j : Nat) (hj : j < rs.length) : cells[j * 3]? = some (.bool (rs.getD j fr0).1) := by
  rw [getD_some (by rw [h.len]; omega), (h.all j hj).1]
theorem RatsR.c1 (h : RatsR B w cells rs) (j : Nat) (hj : j < rs.length) : cells[j * 3 + 1]? = some (.slice (sA (cells.getD (j * 3 + 1) undef)) (sM (cells.getD (j * 3 + 1) undef)) (sC (cells.getD (j * 3 + 1) undef))) := by
  rw [getD_some (by rw [h.len]; omega), ← (h.all j hj).2.1.1]
theorem RatsR.c2 (h : RatsR B w cells rs) (j : Nat) (hj : j < rs.length) : cells[j * 3 + 2]? = some (.slice (sA (cells.getD (j * 3 + 2) undef)) (sM (cells.getD (j * 3 + 2) undef)) (sC (cells.getD (j * 3 + 2) undef))) := by
  rw [getD_some (by rw [h.len]; omega), ← (h.all j hj).2.2.1]
theorem RatsR.load {B2 : Nat} {A : Option Addr} {m c : Nat} (h : RatsR B w cells rs) (hR : Rd B2 w 3 A m c cells) (j : Nat) (hj : j < rs.length) :
    ∀ i u, [Value.bool (rs.getD j fr0).1, .slice (sA (cells.getD (j * 3 + 1) undef)) (sM (cells.getD (j * 3 + 1) undef)) (sC (cells.getD (j * 3 + 1) undef)), .slice (sA (cells.getD (j * 3 + 2) undef)) (sM (cells.getD (j * 3 + 2) undef)) (sC (cells.getD (j * 3 + 2) undef))][i]? = some u →
      w.cell? (((adOf A).add (j * 3)).add i) = some u := by
  intro i u hu
  rw [add_add]
  match i, hu with
  | 0, hu => cases hu; exact hR.at_ (h.c0 j hj)
  | 1, hu => cases hu; exact hR.at_ (h.c1 j hj)
  | 2, hu => cases hu; exact hR.at_ (h.c2 j hj)
  | i + 3, hu => simp at hu
theorem RatsR.nil (B : Nat) (w : World) : RatsR B w [] [] := ⟨rfl, fun j h => by cases h⟩
theorem RatsR.cons {n : Bool} {A A' : Option Addr} {m c m' c' : Nat} {x y : List Nat} (h1 : Rd B w 1 A m c (us x)) (h2 : Rd B w 1 A' m' c' (us y)) (hs : RatsR B w cells rs) : RatsR B w (.bool n :: .slice A m c :: .slice A' m' c' :: cells) ((n, x, y) :: rs) := by
  refine ⟨by simp [hs.len]; omega, fun j hj => ?_⟩
  cases j with
  | zero => exact ⟨rfl, ⟨rfl, h1⟩, ⟨rfl, h2⟩⟩
  | succ j =>
    obtain ⟨e1, e2, e3⟩ := hs.all j (by simpa using hj)
    refine ⟨?_, e2.of ?_, e3.of ?_⟩
    · rw [show (j + 1) * 3 = j * 3 + 1 + 1 + 1 by omega]; simpa using e1
    · rw [show (j + 1) * 3 + 1 = (j * 3 + 1) + 1 + 1 + 1 by omega]; simp
    · rw [show (j + 1) * 3 + 2 = (j * 3 + 2) + 1 + 1 + 1 by omega]; simp
theorem RatsR.drop (h : RatsR B w cells rs) (k : Nat) : RatsR B w (cells.drop (k * 3)) (rs.drop k) := by
  refine ⟨by simp [h.len]; omega, fun j hj => ?_⟩
  have hj' : k + j < rs.length := by simp at hj; omega
  have e (i : Nat) : (cells.drop (k * 3)).getD (j * 3 + i) undef = cells.getD ((k + j) * 3 + i) undef := by
    simp only [List.getD_eq_getElem?_getD, List.getElem?_drop]; congr 2; omega
  have e2 : (rs.drop k).getD j fr0 = rs.getD (k + j) fr0 := by simp [List.getD_eq_getElem?_getD]
  obtain ⟨h1, h2, h3⟩ := h.all _ hj'
  rw [e2]
  exact ⟨(e 0).trans h1, h2.of (e 1), h3.of (e 2)⟩
theorem RatsR.append {c2 : List Value} {r2 : List Fr3} (h : RatsR B w cells rs) (h' : RatsR B w c2 r2) : RatsR B w (cells ++ c2) (rs ++ r2) := by
  have hl := h.len
  refine ⟨by simp [h.len, h'.len]; omega, fun j hj => ?_⟩
  rcases Nat.lt_or_ge j rs.length with hc | hc
  · have e (i : Nat) (hi : i < 3) : (cells ++ c2).getD (j * 3 + i) undef = cells.getD (j * 3 + i) undef := by simp only [List.getD_eq_getElem?_getD]; rw [List.getElem?_append_left (by omega)]
    have e2 : (rs ++ r2).getD j fr0 = rs.getD j fr0 := by simp only [List.getD_eq_getElem?_getD]; rw [List.getElem?_append_left hc]
    obtain ⟨h1, h2, h3⟩ := h.all j hc
    rw [e2]
    exact ⟨(e 0 (by omega)).trans h1, h2.of (e 1 (by omega)), h3.of (e 2 (by omega))⟩
  · have e (i : Nat) : (cells ++ c2).getD (j * 3 + i) undef = c2.getD ((j - rs.length) * 3 + i) undef := by simp only [List.getD_eq_getElem?_getD]; rw [List.getElem?_append_right (by omega)]; congr 2; omega
    have e2 : (rs ++ r2).getD j fr0 = r2.getD (j - rs.length) fr0 := by simp only [List.getD_eq_getElem?_getD]; rw [List.getElem?_append_right hc]
    obtain ⟨h1, h2, h3⟩ := h'.all (j - rs.length) (by simp at hj; omega)
    rw [e2]
    exact ⟨(e 0).trans h1, h2.of (e 1), h3.of (e 2)⟩
theorem RatsR.one (h : RatsR B w cells rs) : ∀ u ∈ cells, u.oneCell' = true := fun u hu => by
  obtain ⟨k, hk, rfl⟩ := List.getElem_of_mem hu
  have hl := h.len
  have h1 : cells.getD k undef = cells[k] := by simp [List.getD_eq_getElem?_getD, hk]
  obtain ⟨e0, e1, e2⟩ := h.all (k / 3) (by omega)
  rw [← h1]
  have h3 : k = k / 3 * 3 ∨ k = k / 3 * 3 + 1 ∨ k = k / 3 * 3 + 2 := by omega
  rcases h3 with h3 | h3 | h3
  · rw [h3, e0]; rfl
  · rw [h3, e1.1]; rfl
  · rw [h3, e2.1]; rfl
end
theorem RLim.nil : RLim [] := fun _ h => by cases h
theorem RLim.cons {n : Bool} {x y : List Nat} {rs : List Fr3} (hx : Lim x) (hy : Lim y) (h : RLim rs) : RLim ((n, x, y) :: rs) := fun j hj => by
  cases j with
  | zero => exact ⟨hx, hy⟩
  | succ j => simpa using h j (by simpa using hj)
theorem RLen.nil (K : Nat) : RLen K [] := fun _ h => by cases h
theorem RLen.cons {K : Nat} {n : Bool} {x y : List Nat} {rs : List Fr3} (hx : x.length ≤ K) (hy : y.length ≤ K) (h : RLen K rs) : RLen K ((n, x, y) :: rs) := fun j hj => by
  cases j with
  | zero => exact ⟨hx, hy⟩
  | succ j => simpa using h j (by simpa using hj)
theorem getD_fr {p : Fr3 → Prop} {a b : List Fr3} (ha : ∀ i, i < a.length → p (a.getD i fr0)) (hb : ∀ i, i < b.length → p (b.getD i fr0)) (i : Nat) (hi : i < (a ++ b).length) : p ((a ++ b).getD i fr0) := by
  rcases Nat.lt_or_ge i a.length with hc | hc
  · have e : (a ++ b).getD i fr0 = a.getD i fr0 := by simp only [List.getD_eq_getElem?_getD]; rw [List.getElem?_append_left hc]
    rw [e]; exact ha i hc
  · have e : (a ++ b).getD i fr0 = b.getD (i - a.length) fr0 := by simp only [List.getD_eq_getElem?_getD]; rw [List.getElem?_append_right hc]
    rw [e]; exact hb _ (by simp at hi; omega)
theorem RLim.append {a b : List Fr3} (ha : RLim a) (hb : RLim b) : RLim (a ++ b) := getD_fr (p := fun r => Lim r.2.1 ∧ Lim r.2.2) ha hb
theorem RLen.append {K : Nat} {a b : List Fr3} (ha : RLen K a) (hb : RLen K b) : RLen K (a ++ b) := getD_fr (p := fun r => r.2.1.length ≤ K ∧ r.2.2.length ≤ K) ha hb
theorem getD_frdrop {rs : List Fr3} {k j : Nat} : (rs.drop k).getD j fr0 = rs.getD (k + j) fr0 := by simp [List.getD_eq_getElem?_getD]
theorem RLim.drop {rs : List Fr3} (h : RLim rs) (k : Nat) : RLim (rs.drop k) := fun j hj => by rw [getD_frdrop]; exact h _ (by simp at hj; omega)
theorem RLen.drop {K : Nat} {rs : List Fr3} (h : RLen K rs) (k : Nat) : RLen K (rs.drop k) := fun j hj => by rw [getD_frdrop]; exact h _ (by simp at hj; omega)
/-! ### sums and products of a list -/
def qsum : List Fr3 → Rat | [] => 0 | r :: l => qv r + qsum l
def qprod : List Fr3 → Rat | [] => 1 | r :: l => qv r * qprod l
theorem qsum_append (a b : List Fr3) : qsum (a ++ b) = qsum a + qsum b := by
  induction a with
  | nil => exact (Rat.zero_add _).symm
  | cons r l ih => simp only [List.cons_append, qsum, ih, Rat.add_assoc]
theorem qprod_append (a b : List Fr3) : qprod (a ++ b) = qprod a * qprod b := by
  induction a with
  | nil => exact (Rat.one_mul _).symm
  | cons r l ih => simp only [List.cons_append, qprod, ih, Rat.mul_assoc]
theorem take_fr {rs : List Fr3} {j : Nat} (h : j < rs.length) : rs.take (j + 1) = rs.take j ++ [rs.getD j fr0] := by
  rw [List.take_succ_eq_append_getElem h]; simp [List.getD_eq_getElem?_getD, h]
theorem qsum_take {rs : List Fr3} {j : Nat} (h : j < rs.length) : qsum (rs.take (j + 1)) = qsum (rs.take j) + qv (rs.getD j fr0) := by
  rw [take_fr h, qsum_append]; simp only [qsum, Rat.add_zero]
theorem qprod_take {rs : List Fr3} {j : Nat} (h : j < rs.length) : qprod (rs.take (j + 1)) = qprod (rs.take j) * qv (rs.getD j fr0) := by
  rw [take_fr h, qprod_append]; simp only [qprod, Rat.mul_one]
theorem two_fr {rs : List Fr3} (h : 2 ≤ rs.length) : rs = rs.getD 0 fr0 :: rs.getD 1 fr0 :: rs.drop 2 := by
  match rs, h with
  | a :: b :: l, _ => rfl
theorem one_fr {rs : List Fr3} (h : rs.length = 1) : rs = [rs.getD 0 fr0] := by
  match rs, h with
  | [a], _ => rfl
theorem qsum_two {rs : List Fr3} (h : 2 ≤ rs.length) : qsum rs = qv (rs.getD 0 fr0) + qv (rs.getD 1 fr0) + qsum (rs.drop 2) := by
  conv => lhs; rw [two_fr h]
  simp only [qsum, Rat.add_assoc]
theorem qprod_two {rs : List Fr3} (h : 2 ≤ rs.length) : qprod rs = qv (rs.getD 0 fr0) * qv (rs.getD 1 fr0) * qprod (rs.drop 2) := by
  conv => lhs; rw [two_fr h]
  simp only [qprod, Rat.mul_assoc]
theorem qsum_one {rs : List Fr3} (h : rs.length = 1) : qsum rs = qv (rs.getD 0 fr0) := by
  conv => lhs; rw [one_fr h]
  simp only [qsum, Rat.add_zero]
theorem qprod_one {rs : List Fr3} (h : rs.length = 1) : qprod rs = qv (rs.getD 0 fr0) := by
  conv => lhs; rw [one_fr h]
  simp only [qprod, Rat.mul_one]
/-! ### signs and orders -/
theorem sg_sign (q : Rat) : sg q = Int.sign q.num := by
  unfold sg
  rcases Int.lt_trichotomy q.num 0 with h | h | h
  · rw [if_pos h, Int.sign_eq_neg_one_of_neg h]
  · rw [h]; rfl
  · rw [if_neg (by omega), if_neg (by omega), Int.sign_eq_one_of_pos h]
theorem sg_mk (z : Int) {d : Nat} (hd : d ≠ 0) : sg (mkRat z d) = Int.sign z := by
  rw [sg_sign, Rat.num_mkRat, if_neg hd]
  have hg : 0 < d.gcd z.natAbs := Nat.gcd_pos_of_pos_left _ (by omega)
  have h1 : ((d.gcd z.natAbs : Nat) : Int) ∣ z := Int.ofNat_dvd_left.2 (Nat.gcd_dvd_right _ _)
  obtain ⟨k, hk⟩ := h1
  generalize (d.gcd z.natAbs) = g at *
  have h2 : z / (g : Int) = k := by rw [hk, Int.mul_ediv_cancel_left _ (by omega)]
  have h3 : (0 : Int) < (g : Int) := by omega
  have h4 : z.sign = k.sign := by rw [hk, Int.sign_mul, Int.sign_eq_one_of_pos h3, Int.one_mul]
  rw [h2, h4]
theorem sg_sub (a b : Rat) : sg (a - b) = Int.sign (a.num * b.den - b.num * a.den) := by
  rw [Rat.sub_def', sg_mk _ (Nat.mul_ne_zero a.den_nz b.den_nz)]
theorem sg_add (a b : Rat) : sg (a + b) = Int.sign (a.num * b.den + b.num * a.den) := by
  rw [Rat.add_def', sg_mk _ (Nat.mul_ne_zero a.den_nz b.den_nz)]
theorem sg_mul (a b : Rat) : sg (a * b) = sg a * sg b := by
  rw [Rat.mul_def', sg_mk _ (Nat.mul_ne_zero a.den_nz b.den_nz), Int.sign_mul, sg_sign, sg_sign]
theorem sg_negq (a : Rat) : sg (-a) = -sg a := by
  rw [sg_sign, sg_sign, Rat.neg_num, Int.sign_neg]
theorem sg_subc (a b : Rat) : sg (b - a) = -sg (a - b) := by rw [← sg_negq]; congr 1; grind
theorem sg_le {q : Rat} : sg q ≤ 0 ↔ q.num ≤ 0 := by
  unfold sg; split
  · omega
  · split <;> omega
theorem sg_add_le {a b : Rat} (ha : sg a ≤ 0) (hb : sg b ≤ 0) : sg (a + b) ≤ 0 := by
  rw [sg_le] at ha hb
  rw [sg_add]
  have h1 : (0:Int) ≤ b.den := by omega
  have h2 : (0:Int) ≤ a.den := by omega
  have e1 := Int.mul_le_mul_of_nonneg_right ha h1
  have e2 := Int.mul_le_mul_of_nonneg_right hb h2
  rw [Int.zero_mul] at e1 e2
  exact Int.sign_nonpos_iff.2 (by omega)
theorem sub_zero_iff {a b : Rat} : a - b = 0 ↔ a = b := by grind
theorem cmp_lt {a b : Rat} (h : sg a < sg b) : sg (a - b) = -1 := by
  rw [sg_sub]
  apply Int.sign_eq_neg_one_of_neg
  have h1 : (0:Int) < b.den := by have := den_pos b; omega
  have h2 : (0:Int) < a.den := by have := den_pos a; omega
  rw [sg_sign, sg_sign] at h
  rcases Int.lt_trichotomy a.num 0 with ha | ha | ha
  · have e1 := Int.mul_neg_of_neg_of_pos ha h1
    rcases Int.lt_or_le b.num 0 with hb | hb
    · rw [Int.sign_eq_neg_one_of_neg ha, Int.sign_eq_neg_one_of_neg hb] at h; omega
    · have := Int.mul_nonneg hb (Int.le_of_lt h2); omega
  · rcases Int.lt_trichotomy b.num 0 with hb | hb | hb
    · rw [ha, Int.sign_eq_neg_one_of_neg hb] at h; simp at h
    · rw [ha, hb] at h; simp at h
    · have := Int.mul_pos hb h2; rw [ha]; omega
  · rw [Int.sign_eq_one_of_pos ha] at h
    have := Int.sign_trichotomy b.num
    omega
theorem cmp_gt {a b : Rat} (h : sg b < sg a) : sg (a - b) = 1 := by
  rw [sg_subc, cmp_lt h]; rfl
theorem sg_range (q : Rat) : -1 ≤ sg q ∧ sg q ≤ 1 := by
  unfold sg; split
  · omega
  · split <;> omega
theorem sub_add_r (a b c : Rat) : (a + c) - (b + c) = a - b := by grind
theorem sub_mul_r (a b c : Rat) : (a * c) - (b * c) = (a - b) * c := by grind
theorem can_eq {p q : Rat} (h : p = q) : qneg p = qneg q ∧ digs (qnum p) = digs (qnum q) ∧ digs p.den = digs q.den := by subst h; exact ⟨rfl, rfl, rfl⟩
theorem can_inj {p q : Rat} (h : qneg p = qneg q ∧ digs (qnum p) = digs (qnum q) ∧ digs p.den = digs q.den) : p = q := by
  rw [← val_canon p, ← val_canon q, h.1, h.2.1, h.2.2]
theorem rdigs_len0 {n : Nat} : (digs n).length = 0 ↔ n = 0 := by
  constructor
  · intro h
    have := List.eq_nil_of_length_eq_zero h
    rw [← nv_digs n, this]; rfl
  · rintro rfl; exact Nat.le_zero.1 (digs_len (by decide))
/-- A bound of the lengths of a list's sums. -/
def fb (K j : Nat) : Nat := (2 + j) * (K + 1) + 1
theorem fb_succ (K j : Nat) : fb K (j + 1) = fb K j + (K + 1) := by
  unfold fb; rw [show 2 + (j + 1) = 2 + j + 1 by omega, Nat.succ_mul]; omega
theorem fb_zero (K : Nat) : fb K 0 = 2 * K + 3 := by unfold fb; omega
theorem fb_mono {K i j : Nat} (h : i ≤ j) : fb K i ≤ fb K j := by
  have := Nat.mul_le_mul_right (K + 1) (show 2 + i ≤ 2 + j by omega)
  unfold fb; omega
end Go.Proofs.Ythfpcebcfjlkmab
