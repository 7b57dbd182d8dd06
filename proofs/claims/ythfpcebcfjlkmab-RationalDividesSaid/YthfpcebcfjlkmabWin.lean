/- Contracts of functions of the program, and what they lean on. -/
import Derived.Test.YthfpcebcfjlkmabKn
namespace Go.Proofs.Ythfpcebcfjlkmab
open Go.RowKit
/-! ### growth that leaves one row free -/
theorem row_own {w0 w w' : World} {r : Option Nat} (h : w0.grownBy w r) (hg : w.grownBy w' r) : w0.grownBy w' r :=
  ⟨hg.os.trans h.os, hg.tape.trans h.tape, hg.output.trans h.output, Nat.le_trans h.size hg.size, fun k hk hne => (hg.block k (Nat.lt_of_lt_of_le hk h.size) hne).trans (h.block k hk hne)⟩
theorem row_none {w w' : World} {r : Option Nat} (hg : w.grownBy w' none) : w.grownBy w' r :=
  ⟨hg.os, hg.tape, hg.output, hg.size, fun k hk _ => hg.block k hk (by simp)⟩
theorem row_ext {w0 w w' : World} {r : Option Nat} (h : w0.grownBy w r) (hg : w.grownBy w' none) : w0.grownBy w' r := row_own h (row_none hg)
/-! ### a window of a row -/
section
variable {P : Program} {n : Nat} {N : Post} {L : Fr} {w : World} {ops : Array Oper} {rest : List Oper}
variable {d : Nat} {ty : TypeId} {pos : String} {af : Array Edge}
theorem WL.slMid {x y y2 : Operand} {t e : TypeId} {z by_ : Nat} {zero : Value} {A : Option Addr} {m c : Nat} {k k2 : IntKind} {J J2 : Int} (lo hi : Nat) (ht : P.underlying t = some (.slice e)) (he : Elem P e z by_ zero)
    (hx : ev L x = some (.slice A m c)) (hy : ev L y = some (.int k J)) (hy2 : ev L y2 = some (.int k2 J2)) (hJ : J = lo) (hJ2 : J2 = hi) (hlh : lo ≤ hi) (hhc : hi ≤ c) (hlc : lo < c) (hz : z = 1) (hn : Nat.blt d n = true)
    (h : WL P n ops rest N ((d, .slice (A.map (·.add lo)) (hi - lo) (c - lo)) :: L) w) : WL P n ops (⟨some d, .slice t x (some y) (some y2) none, ty, pos, af, none⟩ :: rest) N L w := by
  obtain ⟨inf, i1, i2, i3, i4⟩ := he.ex
  subst hJ; subst hJ2; subst hz
  refine WL.val rfl rfl hn (fun a ha => ?_) h
  have hne : ¬ c = lo := by omega
  simp [execOp, ha.ev hx, ha.ev hy, ha.ev hy2, Instr.sliceAt, Instr.slice, Instr.sliceBounds, Instr.sliceBound, asIntOf, run_underlying ht, sizeOf, typeInfo, i1, i3, hlh, hhc, hne]
/-- The address of an element of a window. -/
theorem WL.indexW {x i : Operand} {t e : TypeId} {by_ : Nat} {zero : Value} {A : Option Addr} {m c mr cr B : Nat} {cs : List Value} {k : IntKind} {J : Int} {wR : World} (o j : Nat)
    (ht : P.underlying t = some (.slice e)) (he : Elem P e 1 by_ zero) (hx : ev L x = some (.slice (A.map (·.add o)) m c)) (hi : ev L i = some (.int k J)) (hJ : J = j) (hj : j < m) (hR : Rd B wR 1 A mr cr cs) (hm : o + j < mr) (hn : Nat.blt d n = true)
    (h : WL P n ops rest N ((d, .pointer (some ((adOf A).add (o + j)))) :: L) w) : WL P n ops (⟨some d, .indexAddr t x i, ty, pos, af, none⟩ :: rest) N L w := by
  obtain ⟨inf, h1, h2, h3, h4⟩ := he.ex
  obtain ⟨ad, e1, _, _⟩ := hR.cells (by omega)
  subst e1; subst hJ
  refine WL.val rfl rfl hn (fun a ha => ?_) h
  have hc : (0 : Int) ≤ (j : Int) ∧ (j : Int) < (m : Int) := by omega
  have e : (ad.add o).add j = ad.add (o + j) := add_add _ _ _
  simp [execOp, ha.ev hx, ha.ev hi, Instr.indexAt, asIntOf, run_underlying ht, sizeOf, typeInfo, h1, h3, hj, adOf, e]
end
/-! ### shifts -/
theorem low_bits {x s : Nat} (hs : s ≤ 31) : (x * 2 ^ s) % 4294967296 = 2 ^ s * (x % 2 ^ (32 - s)) := by
  rw [show 4294967296 = 2 ^ (32 - s) * 2 ^ s by rw [← Nat.pow_add, show 32 - s + s = 32 by omega], Nat.mul_mod_mul_right, Nat.mul_comm]
theorem or_low {P : Program} {w : World} {p s x : Nat} (hs : s ≤ 31) (hp : p < 2 ^ s) : (Op.intBits .or .u32 ((p : Nat) : Int) (((x * 2 ^ s) % 4294967296 : Nat) : Int)).run P w = .ok (.int .u32 ((p + (x * 2 ^ s) % 4294967296 : Nat) : Int)) w := by
  have h2 : 2 ^ s ≤ 2 ^ 31 := Nat.pow_le_pow_right (by decide) hs
  rw [or32 rfl rfl (by omega) (Nat.mod_lt _ (by decide))]
  rw [low_bits hs, Nat.or_comm, ← Nat.two_pow_add_eq_or_of_lt hp, Nat.add_comm]
theorem hi_lt {x s : Nat} (hx : x < 4294967296) : x * 2 ^ s / 4294967296 < 2 ^ s := by
  rw [Nat.div_lt_iff_lt_mul (by decide), Nat.mul_comm (2 ^ s)]
  exact (Nat.mul_lt_mul_right (Nat.pow_pos (by decide))).2 hx
theorem shl_room {x s : Nat} (hx : x < 4294967296) (hs : s ≤ 31) : x * 2 ^ s < 9223372036854775808 := by
  have h2 : 2 ^ s ≤ 2147483648 := Nat.pow_le_pow_right (n := 2) (by decide) hs
  have := Nat.mul_le_mul (show x ≤ 4294967295 by omega) h2
  omega
theorem shl_step {zs xa : List Nat} {i s x p : Nat} (hlen : i + 1 < zs.length) (hp : zs.getD i 0 = p) (h0 : zs.getD (i + 1) 0 = 0) (h : nv zs = nv (xa.take i) * 2 ^ s) (hx : xa.getD i 0 = x) :
    nv ((zs.set i (p + (x * 2 ^ s) % 4294967296)).set (i + 1) (x * 2 ^ s / 4294967296)) = nv (xa.take (i + 1)) * 2 ^ s := by
  have h1 := nv_set (p + (x * 2 ^ s) % 4294967296) (show i < zs.length by omega)
  have h2 := nv_set (l := zs.set i (p + (x * 2 ^ s) % 4294967296)) (k := i + 1) (x * 2 ^ s / 4294967296) (by simpa using hlen)
  rw [getD_set_ne (by omega), h0, Nat.mul_zero, Nat.add_zero] at h2
  rw [hp, Nat.mul_add] at h1
  have h3 := Nat.div_add_mod (x * 2 ^ s) 4294967296
  have h4 : 4294967296 ^ i * (x * 2 ^ s % 4294967296) + 4294967296 ^ (i + 1) * (x * 2 ^ s / 4294967296) = 4294967296 ^ i * (x * 2 ^ s) := by
    rw [Nat.pow_succ, Nat.mul_assoc, ← Nat.mul_add, Nat.add_comm, h3]
  rw [h2, nv_take_succ, hx, Nat.add_mul, Nat.mul_assoc, ← h4, ← h]
  omega
theorem lowsum {x s p : Nat} (hs : s ≤ 31) (hp : p < 2 ^ s) : p + (x * 2 ^ s) % 4294967296 < 4294967296 := by
  rw [low_bits hs]
  have h1 := Nat.mod_lt x (show 0 < 2 ^ (32 - s) from Nat.pow_pos (by decide))
  have h2 : 2 ^ s * (x % 2 ^ (32 - s) + 1) ≤ 2 ^ s * 2 ^ (32 - s) := Nat.mul_le_mul_left _ h1
  rw [← Nat.pow_add, show s + (32 - s) = 32 by omega, Nat.mul_add] at h2
  omega
theorem getD_set_eq {l : List Nat} {k v : Nat} (h : k < l.length) : (l.set k v).getD k 0 = v := by simp [h]
theorem shr_step {zs xa : List Nat} {i s x y : Nat} (hs : s ≤ 31) (hi : i < zs.length) (h : nv (zs.take i) = (nv xa / 2 ^ s) % 4294967296 ^ i) (hx : xa.getD i 0 = x) (hy : xa.getD (i + 1) 0 = y) (hLa : Lim xa) :
    nv ((zs.set i ((x + 4294967296 * y) / 2 ^ s % 4294967296)).take (i + 1)) = (nv xa / 2 ^ s) % 4294967296 ^ (i + 1) := by
  have hset : (zs.set i ((x + 4294967296 * y) / 2 ^ s % 4294967296)).take i = zs.take i := by rw [List.take_set_of_le (by omega)]
  rw [nv_take_succ, hset, h, Nat.mod_pow_succ]
  congr 2
  have hg : (zs.set i ((x + 4294967296 * y) / 2 ^ s % 4294967296)).getD i 0 = (x + 4294967296 * y) / 2 ^ s % 4294967296 := by simp [hi]
  rw [hg, Nat.div_div_eq_div_mul, Nat.mul_comm (2 ^ s), ← Nat.div_div_eq_div_mul]
  have hv : nv xa / 4294967296 ^ i = x + 4294967296 * y + 2 ^ s * (2 ^ (32 - s) * (4294967296 * nv (xa.drop (i + 1 + 1)))) := by
    have h1 := nv_split xa i
    have h2 := hLa.take_lt i
    have e2 : 2 ^ s * (2 ^ (32 - s) * (4294967296 * nv (xa.drop (i + 1 + 1)))) = 4294967296 * (4294967296 * nv (xa.drop (i + 1 + 1))) := by
      rw [← Nat.mul_assoc, ← Nat.pow_add, show s + (32 - s) = 32 by omega]
    rw [h1, Nat.add_mul_div_left _ _ (Nat.pow_pos (by decide)), Nat.div_eq_of_lt h2, Nat.zero_add, nv_drop, hx, nv_drop, hy, e2]
    omega
  rw [hv, Nat.add_mul_div_left _ _ (Nat.pow_pos (by decide)), ← Nat.mul_assoc, Nat.mul_comm _ 4294967296, Nat.mul_assoc, Nat.add_mul_mod_self_left]
theorem split_two {l : List Nat} {n : Nat} (hn : 2 ≤ n) (hl : l.length ≤ n) : nv l = (l.getD (n - 1) 0 * 4294967296 + l.getD (n - 2) 0) * 4294967296 ^ (n - 2) + nv (l.take (n - 2)) := by
  obtain ⟨k, rfl⟩ : ∃ k, n = k + 2 := ⟨n - 2, by omega⟩
  rw [← nv_take_all hl, nv_take_succ, nv_take_succ, show k + 2 - 1 = k + 1 by omega, show k + 2 - 2 = k by omega, Nat.pow_succ, Nat.add_mul, Nat.mul_comm (l.getD (k + 1) 0), Nat.mul_assoc, Nat.mul_comm (4294967296 * _), Nat.mul_comm (l.getD k 0)]
  omega
theorem drop_getD (l : List Nat) (o k : Nat) : (l.drop o).getD k 0 = l.getD (o + k) 0 := by simp [List.getD_eq_getElem?_getD]
theorem split_win {l : List Nat} {o n : Nat} (hn : 2 ≤ n) : nv ((l.drop o).take (n + 1)) = ((l.getD (o + (n - 1)) 0 + 4294967296 * l.getD (o + n) 0) * 4294967296 + l.getD (o + (n - 2)) 0) * 4294967296 ^ (n - 2) + nv ((l.drop o).take (n - 2)) := by
  obtain ⟨k, rfl⟩ : ∃ k, n = k + 2 := ⟨n - 2, by omega⟩
  rw [nv_take_succ, nv_take_succ, nv_take_succ, drop_getD, drop_getD, drop_getD, show k + 2 - 1 = k + 1 by omega, show k + 2 - 2 = k by omega]
  simp only [Nat.add_mul, Nat.pow_succ]
  ac_rfl
theorem dec_mul {dg v l : Nat} (h : 0 < dg) : (dg - 1) * v + (l + v) = dg * v + l := by
  obtain ⟨k, rfl⟩ : ∃ k, dg = k + 1 := ⟨dg - 1, by omega⟩
  rw [Nat.add_mul, show k + 1 - 1 = k by omega]; omega
end Go.Proofs.Ythfpcebcfjlkmab
