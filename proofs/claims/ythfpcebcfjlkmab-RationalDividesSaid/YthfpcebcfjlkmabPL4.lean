/- Contracts of functions of the program, and what they lean on. -/
import Derived.Test.YthfpcebcfjlkmabPL3
namespace Go.Proofs.Ythfpcebcfjlkmab
open Go.RowKit
theorem nv_set {l : List Nat} {k : Nat} (v : Nat) (h : k < l.length) : nv (l.set k v) + 4294967296 ^ k * l.getD k 0 = nv l + 4294967296 ^ k * v := by
  induction l generalizing k with
  | nil => simp at h
  | cons x l ih =>
    cases k with
    | zero => simp [nv]; omega
    | succ k =>
      have := ih (k := k) (by simpa using h)
      simp only [List.set_cons_succ, nv, List.getD_cons_succ, Nat.pow_succ]
      have e : ∀ u, 4294967296 ^ k * 4294967296 * u = 4294967296 * (4294967296 ^ k * u) := fun u => by rw [Nat.mul_comm (4294967296 ^ k), Nat.mul_assoc]
      rw [e, e]
      omega
theorem getD_set_ne {l : List Nat} {k t v : Nat} (h : k ≠ t) : (l.set k v).getD t 0 = l.getD t 0 := by simp [List.getD_eq_getElem?_getD, List.getElem?_set_ne h]
theorem mul_inner {zs : List Nat} {i j x y c base u s : Nat} (hij : i + j < zs.length) (h : nv zs + 4294967296 ^ (i + j) * c = base + 4294967296 ^ i * (x * u)) (hs : s = x * y + zs.getD (i + j) 0 + c) :
    nv (zs.set (i + j) (s % 4294967296)) + 4294967296 ^ (i + (j + 1)) * (s / 4294967296) = base + 4294967296 ^ i * (x * (u + 4294967296 ^ j * y)) := by
  have h1 := nv_set (s % 4294967296) hij
  generalize zs.getD (i + j) 0 = z at *
  have e1 : 4294967296 ^ (i + (j + 1)) * (s / 4294967296) + 4294967296 ^ (i + j) * (s % 4294967296) = 4294967296 ^ (i + j) * s := by
    rw [← Nat.add_assoc, Nat.pow_succ, Nat.mul_assoc, ← Nat.mul_add, Nat.div_add_mod]
  have e2 : 4294967296 ^ (i + j) * s = 4294967296 ^ (i + j) * (x * y) + 4294967296 ^ (i + j) * z + 4294967296 ^ (i + j) * c := by rw [hs, Nat.mul_add, Nat.mul_add]
  have e3 : 4294967296 ^ i * (x * (u + 4294967296 ^ j * y)) = 4294967296 ^ i * (x * u) + 4294967296 ^ (i + j) * (x * y) := by
    rw [Nat.mul_add x, Nat.mul_add, Nat.pow_add, Nat.mul_left_comm x, ← Nat.mul_assoc, ← Nat.mul_assoc, ← Nat.mul_assoc]
  omega
theorem mul_outer {zs : List Nat} {i m x c base u : Nat} (him : i + m < zs.length) (h0 : zs.getD (i + m) 0 = 0) (h : nv zs + 4294967296 ^ (i + m) * c = base + 4294967296 ^ i * (x * u)) :
    nv (zs.set (i + m) c) = base + 4294967296 ^ i * (x * u) := by
  have h1 := nv_set c him
  rw [h0] at h1
  omega
theorem mul_lim {x y z c : Nat} (hx : x < 4294967296) (hy : y < 4294967296) (hz : z < 4294967296) (hc : c < 4294967296) : x * y + z + c < 18446744073709551616 := by
  have : x * y ≤ 4294967295 * 4294967295 := Nat.mul_le_mul (by omega) (by omega)
  omega
theorem mul_lim0 {x y : Nat} (hx : x < 4294967296) (hy : y < 4294967296) : x * y ≤ 18446744065119617025 := Nat.mul_le_mul (by omega : x ≤ 4294967295) (by omega : y ≤ 4294967295)
theorem zeros_getD (n t : Nat) : (List.replicate n 0).getD t 0 = 0 := by
  simp only [List.getD_eq_getElem?_getD, List.getElem?_replicate]
  split <;> rfl
theorem take_mul {xa : List Nat} {i u : Nat} : nv (xa.take i) * u + 4294967296 ^ i * (xa.getD i 0 * u) = nv (xa.take (i + 1)) * u := by
  rw [nv_take_succ, Nat.add_mul, Nat.mul_assoc]
theorem trimL_getD {l : List Nat} {k : Nat} (h : k < sigL l) : (trimL l).getD k 0 = l.getD k 0 := by
  rw [trimL_take]; simp [List.getD_eq_getElem?_getD, h]
theorem sub_end {ys xb : List Nat} {a c : Nat} (hy : Lim ys) (hb : Lim xb) (h : nv ys + nv (xb.take ys.length) = a + 4294967296 ^ ys.length * c) (_hle : nv xb ≤ a) (_ha : a < 4294967296 ^ ys.length) : nv ys = a - nv xb := by
  have h1 := nv_split xb ys.length
  have h2 := nv_lt hy
  have h3 := nv_lt (hb.take ys.length)
  have h4 : 4294967296 ^ (xb.take ys.length).length ≤ 4294967296 ^ ys.length := Nat.pow_le_pow_right (by decide) (List.length_take_le ..)
  have h5 : nv (xb.drop ys.length) = 0 := by
    rcases Nat.eq_zero_or_pos (nv (xb.drop ys.length)) with h | h
    · exact h
    · have : 4294967296 ^ ys.length * 1 ≤ 4294967296 ^ ys.length * nv (xb.drop ys.length) := Nat.mul_le_mul_left _ h
      omega
  rw [h5] at h1
  have h6 : c = 0 := by
    rcases Nat.eq_zero_or_pos c with h | h
    · exact h
    · have : 4294967296 ^ ys.length * 1 ≤ 4294967296 ^ ys.length * c := Nat.mul_le_mul_left _ h
      omega
  subst h6
  omega
theorem canon_ge {l : List Nat} (h : trimL l = l) (hp : 0 < l.length) : 4294967296 ^ (l.length - 1) ≤ nv l := by
  have hs : sigL l = l.length := by unfold sigL; rw [h]
  have h1 := sigL_last (l := l) (by omega)
  rw [hs] at h1
  have h2 := nv_split l (l.length - 1)
  rw [nv_drop] at h2
  have h3 : 4294967296 ^ (l.length - 1) * 1 ≤ 4294967296 ^ (l.length - 1) * (l.getD (l.length - 1) 0 + 4294967296 * nv (l.drop (l.length - 1 + 1))) := Nat.mul_le_mul_left _ (by omega)
  omega
theorem canon_of_ge {l : List Nat} (hL : Lim l) (h : 0 < l.length → 4294967296 ^ (l.length - 1) ≤ nv l) : trimL l = l := by
  rw [trimL_take]
  refine List.take_of_length_le ?_
  rcases Nat.lt_or_ge (sigL l) l.length with h1 | h1
  · exfalso
    have h2 := h (by omega)
    have h3 := nv_lt hL.trim
    rw [nv_trimL] at h3
    have h4 : 4294967296 ^ (trimL l).length ≤ 4294967296 ^ (l.length - 1) := Nat.pow_le_pow_right (by decide) (by unfold sigL at h1; omega)
    omega
  · exact h1
theorem trimL_trimL {l : List Nat} (h : Lim l) : trimL (trimL l) = trimL l := by
  rw [trimL_digs _ h.trim, nv_trimL, trimL_digs _ h]
theorem trimL_digs_self (n : Nat) : trimL (digs n) = digs n := by rw [trimL_digs _ (digs_lim n), nv_digs]
theorem inc_end {zs xa xb : List Nat} (hL : Lim zs) (heq : nv zs = nv xa + nv xb) (ha : trimL xa = xa) (hb : trimL xb = xb)
    (hn : zs.length = max xa.length xb.length ∨ (zs.length = max xa.length xb.length + 1 ∧ 4294967296 ^ (max xa.length xb.length) ≤ nv xa + nv xb)) : zs = digs (nv xa + nv xb) := by
  rw [← heq]
  refine eq_digs hL (canon_of_ge hL fun hp => ?_)
  rcases hn with hn | ⟨hn, h⟩
  · rcases Nat.le_total xa.length xb.length with h1 | h1
    · have := canon_ge hb (by omega)
      rw [hn, Nat.max_eq_right h1]; omega
    · have := canon_ge ha (by omega)
      rw [hn, Nat.max_eq_left h1]; omega
  · rw [hn, Nat.add_sub_cancel]; omega
theorem digs_len {n k : Nat} (h : n < 4294967296 ^ k) : (digs n).length ≤ k := by
  rcases Nat.lt_or_ge k (digs n).length with h1 | h1
  · have h2 := canon_ge (trimL_digs_self n) (by omega)
    rw [nv_digs] at h2
    have : 4294967296 ^ k ≤ 4294967296 ^ ((digs n).length - 1) := Nat.pow_le_pow_right (by decide) (by omega)
    omega
  · exact h1
/-- The sum of a list of numbers. -/
def sumN (l : List (List Nat)) : Nat := (l.map nv).sum
def prodN (l : List (List Nat)) : Nat := (l.map nv).foldr (· * ·) 1
def LimAll (l : List (List Nat)) : Prop := ∀ i, i < l.length → Lim (l.getD i [])
def LenAll (K : Nat) (l : List (List Nat)) : Prop := ∀ i, i < l.length → (l.getD i []).length ≤ K
@[simp] theorem sumN_nil : sumN [] = 0 := rfl
@[simp] theorem sumN_cons (x : List Nat) (l : List (List Nat)) : sumN (x :: l) = nv x + sumN l := by simp [sumN]
@[simp] theorem prodN_nil : prodN [] = 1 := rfl
@[simp] theorem prodN_cons (x : List Nat) (l : List (List Nat)) : prodN (x :: l) = nv x * prodN l := by simp [prodN]
@[simp] theorem nv_nil : nv [] = 0 := rfl
@[simp] theorem nv_one (x : Nat) : nv [x] = x := by simp [nv]
attribute [simp] nv_digs nv_trimL
theorem LimAll.nil : LimAll [] := fun i h => by cases h
theorem LimAll.cons {x : List Nat} {l : List (List Nat)} (h : Lim x) (hs : LimAll l) : LimAll (x :: l) := fun i hi => by
  cases i with
  | zero => exact h
  | succ i => exact hs i (by simpa using hi)
theorem LenAll.nil (K : Nat) : LenAll K [] := fun i h => by cases h
theorem LenAll.cons {K : Nat} {x : List Nat} {l : List (List Nat)} (h : x.length ≤ K) (hs : LenAll K l) : LenAll K (x :: l) := fun i hi => by
  cases i with
  | zero => exact h
  | succ i => exact hs i (by simpa using hi)
theorem getD_take {l : List (List Nat)} {k j : Nat} (h : j < k) : (l.take k).getD j [] = l.getD j [] := by simp [List.getD_eq_getElem?_getD, h]
theorem getD_drop (l : List (List Nat)) (k j : Nat) : (l.drop k).getD j [] = l.getD (k + j) [] := by simp [List.getD_eq_getElem?_getD]
theorem LimAll.take {l : List (List Nat)} (h : LimAll l) (k : Nat) : LimAll (l.take k) := fun i hi => by
  simp at hi; rw [getD_take (by omega)]; exact h i (by omega)
theorem LimAll.drop {l : List (List Nat)} (h : LimAll l) (k : Nat) : LimAll (l.drop k) := fun i hi => by
  simp at hi; rw [getD_drop]; exact h _ (by omega)
theorem LenAll.take {K : Nat} {l : List (List Nat)} (h : LenAll K l) (k : Nat) : LenAll K (l.take k) := fun i hi => by
  simp at hi; rw [getD_take (by omega)]; exact h i (by omega)
theorem LenAll.drop {K : Nat} {l : List (List Nat)} (h : LenAll K l) (k : Nat) : LenAll K (l.drop k) := fun i hi => by
  simp at hi; rw [getD_drop]; exact h _ (by omega)
theorem prodN_split (l : List (List Nat)) (k : Nat) : prodN (l.take k) * prodN (l.drop k) = prodN l := by
  induction l generalizing k with
  | nil => simp [prodN]
  | cons x l ih =>
    cases k with
    | zero => simp [prodN]
    | succ k =>
      have := ih k
      simp only [prodN, List.take_succ_cons, List.drop_succ_cons, List.map_cons, List.foldr_cons] at this ⊢
      rw [Nat.mul_assoc, this]
theorem prodN_one {l : List (List Nat)} (h : l.length = 1) : prodN l = nv (l.getD 0 []) := by
  match l, h with
  | [x], _ => simp [prodN]
theorem prodN_two {l : List (List Nat)} (h : l.length = 2) : prodN l = nv (l.getD 0 []) * nv (l.getD 1 []) := by
  match l, h with
  | [x, y], _ => simp [prodN]
theorem LenAll.snoc {K i : Nat} {l : List (List Nat)} (h : LenAll K (l.take i)) (hi : i < l.length) (hx : (l.getD i []).length ≤ K) : LenAll K (l.take (i + 1)) := fun j hj => by
  simp at hj
  rw [getD_take (by omega)]
  rcases Nat.lt_or_ge j i with h1 | h1
  · have := h j (by simp; omega); rwa [getD_take h1] at this
  · obtain rfl : j = i := by omega
    exact hx
theorem sumN_take (l : List (List Nat)) (i : Nat) (h : i < l.length) : sumN (l.take (i + 1)) = sumN (l.take i) + nv (l.getD i []) := by
  unfold sumN
  rw [List.take_succ_eq_append_getElem h, List.map_append, List.sum_append]
  simp [h]
theorem sumN_lt {l : List (List Nat)} {K : Nat} (hL : ∀ i, i < l.length → Lim (l.getD i [])) (hK : ∀ i, i < l.length → (l.getD i []).length ≤ K) : sumN l ≤ l.length * 4294967296 ^ K := by
  induction l with
  | nil => simp [sumN]
  | cons x l ih =>
    have h1 := nv_lt (hL 0 (by simp))
    have h2 : 4294967296 ^ ((x :: l).getD 0 []).length ≤ 4294967296 ^ K := Nat.pow_le_pow_right (by decide) (hK 0 (by simp))
    have h3 := ih (fun i hi => by simpa using hL (i + 1) (by simpa using hi)) (fun i hi => by simpa using hK (i + 1) (by simpa using hi))
    simp only [List.getD_cons_zero] at h1 h2
    simp only [sumN, List.map_cons, List.sum_cons, List.length_cons, Nat.add_mul, Nat.one_mul] at h3 ⊢
    omega
theorem sum_len {l : List (List Nat)} {K i : Nat} (hL : ∀ i, i < l.length → Lim (l.getD i [])) (hK : ∀ i, i < l.length → (l.getD i []).length ≤ K) (hc : l.length < 4294967296) : (digs (sumN (l.take i))).length ≤ K + 1 := by
  refine digs_len (Nat.lt_of_le_of_lt (sumN_lt (K := K) (l := l.take i) (fun j hj => ?_) (fun j hj => ?_)) ?_)
  · have hj' : j < l.length ∧ j < i := by simp at hj; omega
    have : (l.take i).getD j [] = l.getD j [] := by simp [List.getD_eq_getElem?_getD, hj'.2]
    rw [this]; exact hL j hj'.1
  · have hj' : j < l.length ∧ j < i := by simp at hj; omega
    have : (l.take i).getD j [] = l.getD j [] := by simp [List.getD_eq_getElem?_getD, hj'.2]
    rw [this]; exact hK j hj'.1
  · rw [Nat.pow_succ, Nat.mul_comm]
    exact Nat.mul_lt_mul_of_pos_left (by simp; omega) (Nat.pow_pos (by decide))
theorem getD_snoc_zero (l : List Nat) (t : Nat) : (l ++ [0]).getD t 0 = l.getD t 0 := by
  simp only [List.getD_eq_getElem?_getD, List.getElem?_append]
  split
  · rfl
  · rename_i h
    rw [List.getElem?_eq_none (by omega : l.length ≤ t)]
    cases h2 : ([0] : List Nat)[t - l.length]? with
    | none => rfl
    | some v => have := List.mem_of_getElem? h2; simp at this; simp [this]
theorem inc_grow {zs xa xb : List Nat} {i n c M m : Nat} (_hl : zs.length = n) (hin : i = n) (hhd : i < m ∨ c ≠ 0) (hc : c ≤ 1) (hc0 : max M m < i → c = 0) (_hnn : n ≤ max M m ∨ (n = max M m + 1 ∧ 4294967296 ^ (max M m) ≤ nv xa + nv xb))
    (heq : nv zs + 4294967296 ^ i * c = nv xa + nv (xb.take i)) : n + 1 ≤ max M m ∨ (n + 1 = max M m + 1 ∧ 4294967296 ^ (max M m) ≤ nv xa + nv xb) := by
  by_cases h : n + 1 ≤ max M m
  · exact .inl h
  · have hcc : c = 1 := by omega
    have hn : n = max M m := by
      rcases Nat.lt_or_ge (max M m) i with h1 | h1
      · have := hc0 h1; omega
      · omega
    refine .inr ⟨by omega, ?_⟩
    have h1 : nv (xb.take i) ≤ nv xb := by have := nv_split xb i; omega
    subst hcc
    rw [← hn, ← hin]
    omega
/-! ### math/bits -/
theorem add32_lo {x y c : Nat} : (x + y + c) % 4294967296 < 4294967296 := Nat.mod_lt _ (by decide)
theorem and32 {P : Program} {w : World} {a b : Nat} {x y : Int} (hx : x = a) (hy : y = b) (ha : a < 4294967296) (hb : b < 4294967296) : (Op.intBits .and .u32 x y).run P w = .ok (.int .u32 ((a &&& b : Nat) : Int)) w := by
  subst hx; subst hy
  have h1 := Nat.and_lt_two_pow (n := 32) a hb
  have e1 : (BitVec.ofInt 32 (a : Int) &&& BitVec.ofInt 32 (b : Int)).toNat = a &&& b := by
    rw [BitVec.ofInt_natCast, BitVec.ofInt_natCast, BitVec.toNat_and, BitVec.toNat_ofNat, BitVec.toNat_ofNat, Nat.mod_eq_of_lt ha, Nat.mod_eq_of_lt hb]
  have e2 : IntKind.u32.wrap ((a &&& b : Nat) : Int) = ((a &&& b : Nat) : Int) := wu32 (by omega) (by omega) rfl
  show Result.ok (Value.int .u32 (IntKind.u32.wrap ((BitVec.ofInt 32 (a : Int) &&& BitVec.ofInt 32 (b : Int)).toNat : Int))) w = _
  rw [e1, e2]
theorem or32 {P : Program} {w : World} {a b : Nat} {x y : Int} (hx : x = a) (hy : y = b) (ha : a < 4294967296) (hb : b < 4294967296) : (Op.intBits .or .u32 x y).run P w = .ok (.int .u32 ((a ||| b : Nat) : Int)) w := by
  subst hx; subst hy
  have h1 := Nat.or_lt_two_pow (n := 32) ha hb
  have e1 : (BitVec.ofInt 32 (a : Int) ||| BitVec.ofInt 32 (b : Int)).toNat = a ||| b := by
    rw [BitVec.ofInt_natCast, BitVec.ofInt_natCast, BitVec.toNat_or, BitVec.toNat_ofNat, BitVec.toNat_ofNat, Nat.mod_eq_of_lt ha, Nat.mod_eq_of_lt hb]
  have e2 : IntKind.u32.wrap ((a ||| b : Nat) : Int) = ((a ||| b : Nat) : Int) := wu32 (by omega) (by omega) rfl
  show Result.ok (Value.int .u32 (IntKind.u32.wrap ((BitVec.ofInt 32 (a : Int) ||| BitVec.ofInt 32 (b : Int)).toNat : Int))) w = _
  rw [e1, e2]
theorem xor32 {P : Program} {w : World} {a b : Nat} {x y : Int} (hx : x = a) (hy : y = b) (ha : a < 4294967296) (hb : b < 4294967296) : (Op.intBits .xor .u32 x y).run P w = .ok (.int .u32 ((a ^^^ b : Nat) : Int)) w := by
  subst hx; subst hy
  have h1 := Nat.xor_lt_two_pow (n := 32) ha hb
  have e1 : (BitVec.ofInt 32 (a : Int) ^^^ BitVec.ofInt 32 (b : Int)).toNat = a ^^^ b := by
    rw [BitVec.ofInt_natCast, BitVec.ofInt_natCast, BitVec.toNat_xor, BitVec.toNat_ofNat, BitVec.toNat_ofNat, Nat.mod_eq_of_lt ha, Nat.mod_eq_of_lt hb]
  have e2 : IntKind.u32.wrap ((a ^^^ b : Nat) : Int) = ((a ^^^ b : Nat) : Int) := wu32 (by omega) (by omega) rfl
  show Result.ok (Value.int .u32 (IntKind.u32.wrap ((BitVec.ofInt 32 (a : Int) ^^^ BitVec.ofInt 32 (b : Int)).toNat : Int))) w = _
  rw [e1, e2]
theorem WL.compl32 {P : Program} {n : Nat} {N : Post} {L : Fr} {w : World} {ops : Array Oper} {rest : List Oper} {d : Nat} {ty : TypeId} {pos : String} {af : Array Edge} {x : Operand} {tx : TypeId} {X : Int} {a : Nat}
    (hx : ev L x = some (.int .u32 X)) (hX : X = a) (ha : a < 4294967296) (hn : Nat.blt d n = true) (h : WL P n ops rest N ((d, .int .u32 ((4294967295 - a : Nat) : Int)) :: L) w) :
    WL P n ops (⟨some d, .unOp .xor tx x, ty, pos, af, none⟩ :: rest) N L w := by
  subst hX
  have e1 : 4294967295 ^^^ a = 4294967295 - a := by
    apply Nat.eq_of_testBit_eq
    intro i
    rw [show 4294967295 - a = 2 ^ 32 - (a + 1) by omega, Nat.testBit_two_pow_sub_succ (by omega), Nat.testBit_xor, show 4294967295 = 2 ^ 32 - 1 by decide, Nat.testBit_two_pow_sub_one]
    by_cases hi : i < 32
    · simp [hi]
    · have : a.testBit i = false := Nat.testBit_lt_two_pow (Nat.lt_of_lt_of_le ha (Nat.pow_le_pow_right (n := 2) (by decide) (show 32 ≤ i by omega)))
      simp [hi, this]
  have hr : (Op.unary .xor (.int .u32 (a : Int))).run P w = .ok (.int .u32 ((4294967295 - a : Nat) : Int)) w := by
    have := xor32 (P := P) (w := w) (a := 4294967295) (b := a) (x := 4294967295) (y := a) rfl rfl (by decide) ha
    rw [e1] at this
    exact this
  exact WL.val rfl rfl hn (fun b hb => by simp [execOp, hb.ev hx, hr]) h
theorem top_bit {v : Nat} (h : v < 4294967296) : v / 2147483648 = if v.testBit 31 then 1 else 0 := by
  rw [Nat.testBit_eq_decide_div_mod_eq]
  by_cases h1 : v / 2 ^ 31 % 2 = 1
  · simp only [h1, decide_true, if_true]; omega
  · simp only [h1, decide_false]; split <;> first | contradiction | omega
theorem tb31 {v : Nat} (h : v < 4294967296) : v.testBit 31 = decide (2147483648 ≤ v) := by
  rw [Nat.testBit_eq_decide_div_mod_eq, Bool.eq_iff_iff, decide_eq_true_iff, decide_eq_true_iff]; omega
theorem borrow32 {x y c : Nat} (hx : x < 4294967296) (hy : y < 4294967296) (hc : c ≤ 1) :
    (((4294967295 - x) &&& y) ||| ((4294967295 - (x ^^^ y)) &&& ((x + 8589934592 - y - c) % 4294967296))) / 2147483648 = if x < y + c then 1 else 0 := by
  have hxy := Nat.xor_lt_two_pow (n := 32) hx hy
  have hd : (x + 8589934592 - y - c) % 4294967296 < 4294967296 := Nat.mod_lt _ (by decide)
  rw [top_bit (Nat.or_lt_two_pow (n := 32) (Nat.and_lt_two_pow (n := 32) _ hy) (Nat.and_lt_two_pow (n := 32) _ hd)), Nat.testBit_or, Nat.testBit_and, Nat.testBit_and,
    show 4294967295 - x = 2 ^ 32 - (x + 1) by omega, show 4294967295 - (x ^^^ y) = 2 ^ 32 - ((x ^^^ y) + 1) by omega, Nat.testBit_two_pow_sub_succ (by omega), Nat.testBit_two_pow_sub_succ (by omega), Nat.testBit_xor, tb31 hx, tb31 hy, tb31 hd]
  generalize hdd : (x + 8589934592 - y - c) % 4294967296 = d at *
  by_cases h1 : 2147483648 ≤ x <;> by_cases h2 : 2147483648 ≤ y <;> by_cases h3 : 2147483648 ≤ d <;> simp [h1, h2, h3] <;> omega
theorem cmpI_ge {a b : Nat} (h : b ≤ a) : 0 ≤ cmpI a b := by unfold cmpI; split <;> first | omega | (split <;> omega)
theorem sigL_mono {a b : List Nat} (ha : Lim a) (_hb : Lim b) (h : nv b ≤ nv a) : sigL b ≤ sigL a := by
  rcases Nat.lt_or_ge (sigL a) (sigL b) with h1 | h1
  · have := sigL_lt ha h1; omega
  · exact h1
theorem trimL_getD0 (l : List Nat) (k : Nat) : (trimL l).getD k 0 = l.getD k 0 := by
  rcases Nat.lt_or_ge k (sigL l) with h | h
  · exact trimL_getD h
  · rw [sigL_zero h, getD_out (by simpa [sigL] using h)]
theorem nv_take_sig {l : List Nat} {i : Nat} (h : sigL l ≤ i) : nv (l.take i) = nv l := by
  have := nv_split l i; rw [nv_drop_sig l h] at this; omega
theorem subin_step {ys : List Nat} {i x c base u : Nat} (hi : i < ys.length) (h : nv ys + u = base + 4294967296 ^ i * c) (hc : c ≤ 1) (hy : ys.getD i 0 < 4294967296) (hx : x < 4294967296) :
    nv (ys.set i ((ys.getD i 0 + 8589934592 - x - c) % 4294967296)) + (u + 4294967296 ^ i * x) = base + 4294967296 ^ (i + 1) * (if ys.getD i 0 < x + c then 1 else 0) := by
  have h1 := nv_set ((ys.getD i 0 + 8589934592 - x - c) % 4294967296) hi
  generalize ys.getD i 0 = y at *
  generalize hb : (if y < x + c then 1 else 0) = b
  have h2 : (y + 8589934592 - x - c) % 4294967296 + x + c = y + 4294967296 * b := by
    subst hb; split <;> omega
  generalize (y + 8589934592 - x - c) % 4294967296 = d at *
  have h3 : 4294967296 ^ i * d + 4294967296 ^ i * x + 4294967296 ^ i * c = 4294967296 ^ i * y + 4294967296 ^ (i + 1) * b := by
    rw [Nat.pow_succ, Nat.mul_assoc, ← Nat.mul_add, ← Nat.mul_add, ← Nat.mul_add, h2]
  omega
theorem sub_room {ys xa xb : List Nat} {i c n : Nat} (hl : ys.length = n) (hL : Lim ys) (_hLb : Lim xb) (hge : nv xb ≤ nv xa) (heq : nv ys + nv (xb.take i) = nv xa + 4294967296 ^ i * c) (hsg : sigL xb ≤ sigL xa) (hn : n = sigL xa) (hi : i ≤ n) (h : i < sigL xb ∨ c ≠ 0) : i < n := by
  rcases Nat.lt_or_ge i n with h1 | h1
  · exact h1
  · exfalso
    have hin : i = n := by omega
    rw [nv_take_sig (by omega)] at heq
    have h2 := nv_lt hL
    rw [hl, ← hin] at h2
    have h3 : 4294967296 ^ i * 1 ≤ 4294967296 ^ i * c := Nat.mul_le_mul_left _ (by omega)
    omega
theorem inc_step {zs : List Nat} {i x c base u s : Nat} (hi : i < zs.length) (h : nv zs + 4294967296 ^ i * c = base + u) (hs : s = zs.getD i 0 + x + c) :
    nv (zs.set i (s % 4294967296)) + 4294967296 ^ (i + 1) * (s / 4294967296) = base + (u + 4294967296 ^ i * x) := by
  have h1 := nv_set (s % 4294967296) hi
  generalize zs.getD i 0 = z at *
  have e1 : 4294967296 ^ (i + 1) * (s / 4294967296) + 4294967296 ^ i * (s % 4294967296) = 4294967296 ^ i * s := by
    rw [Nat.pow_succ, Nat.mul_assoc, ← Nat.mul_add, Nat.div_add_mod]
  have e2 : 4294967296 ^ i * s = 4294967296 ^ i * z + 4294967296 ^ i * x + 4294967296 ^ i * c := by rw [hs, Nat.mul_add, Nat.mul_add]
  omega
end Go.Proofs.Ythfpcebcfjlkmab
