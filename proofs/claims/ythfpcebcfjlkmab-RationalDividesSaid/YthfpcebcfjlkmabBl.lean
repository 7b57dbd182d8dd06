/- Contracts of functions of the program, and what they lean on. -/
import Derived.Test.YthfpcebcfjlkmabPL4
namespace Go.Proofs.Ythfpcebcfjlkmab
open Go.RowKit
/-- The number of binary digits. -/
def bitn (x : Nat) : Nat := if x = 0 then 0 else Nat.log2 x + 1
theorem bitn_zero : bitn 0 = 0 := rfl
theorem bitn_le {x k : Nat} : bitn x ≤ k ↔ x < 2 ^ k := by
  unfold bitn
  split
  · rename_i h; subst h; simp [Nat.pow_pos]
  · rename_i h
    rw [← Nat.log2_lt h]; omega
theorem bitn_lt {x k : Nat} : k < bitn x ↔ 2 ^ k ≤ x := by
  have := bitn_le (x := x) (k := k); omega
theorem bitn_uniq {x k : Nat} (h1 : 2 ^ k ≤ x) (h2 : x < 2 ^ (k + 1)) : bitn x = k + 1 := by
  have := bitn_lt.2 h1; have := bitn_le.2 h2; omega
theorem bitn_half {x : Nat} (h : 0 < x) : bitn (x / 2) + 1 = bitn x := by
  rcases Nat.lt_or_ge x 2 with h2 | h2
  · have : x = 1 := by omega
    subst this; decide
  · have e : 0 < bitn (x / 2) := bitn_lt.2 (by omega)
    obtain ⟨k, hk⟩ : ∃ k, bitn (x / 2) = k + 1 := ⟨bitn (x / 2) - 1, by omega⟩
    have h3 : 2 ^ k ≤ x / 2 := bitn_lt.1 (by omega)
    have h4 : x / 2 < 2 ^ (k + 1) := bitn_le.1 (by omega)
    rw [hk, bitn_uniq (k := k + 1) (by rw [Nat.pow_succ]; omega) (by rw [Nat.pow_succ]; omega)]
theorem bitn_shift {x s : Nat} (h : 0 < x / 2 ^ s) : bitn (x / 2 ^ s) + s = bitn x := by
  induction s generalizing x with
  | zero => simp
  | succ s ih =>
    have e : x / 2 ^ (s + 1) = x / 2 / 2 ^ s := by rw [Nat.pow_succ, Nat.mul_comm, Nat.div_div_eq_div_mul]
    rw [e] at h ⊢
    have h1 := ih h
    have hx : 0 < x := by
      rcases Nat.eq_zero_or_pos x with h0 | h0
      · subst h0; simp at h
      · exact h0
    have h2 := bitn_half hx
    omega
theorem bitn_s32 {x : Nat} (h : 4294967296 ≤ x) : bitn (x / 4294967296) + 32 = bitn x := bitn_shift (s := 32) (by omega)
theorem bitn_16 {x : Nat} (h : 65536 ≤ x) : bitn (x / 65536) + 16 = bitn x := bitn_shift (s := 16) (by omega)
theorem bitn_8 {x : Nat} (h : 256 ≤ x) : bitn (x / 256) + 8 = bitn x := bitn_shift (s := 8) (by omega)
theorem bitn_8lt {x : Nat} (h : x < 256) : bitn x ≤ 8 := bitn_le.2 h
theorem bitn_32 {x : Nat} (h : x < 4294967296) : bitn x ≤ 32 := bitn_le.2 h
theorem pow32 (n : Nat) : 4294967296 ^ n = 2 ^ (32 * n) := by rw [Nat.pow_mul]
theorem Lim.take_lt {l : List Nat} (h : Lim l) (i : Nat) : nv (l.take i) < 4294967296 ^ i := by
  have h1 := nv_lt (h.take i)
  have h2 : 4294967296 ^ (l.take i).length ≤ 4294967296 ^ i := Nat.pow_le_pow_right (by decide) (by simp; omega)
  omega
/-- The digits of a number and those of its last limb. -/
theorem bitn_nv {l : List Nat} (h : Lim l) (hp : 0 < sigL l) : bitn (nv l) = 32 * (sigL l - 1) + bitn (l.getD (sigL l - 1) 0) := by
  have ht := sigL_last hp
  have hlim := h.getD (sigL l - 1)
  generalize hs : sigL l - 1 = s at *
  generalize hT : l.getD s 0 = t at *
  have e : nv l = nv (l.take s) + 4294967296 ^ s * t := by
    rw [← nv_take_sig (l := l) (i := s + 1) (by omega), nv_take_succ, hT]
  have hr := h.take_lt s
  obtain ⟨k, hk⟩ : ∃ k, bitn t = k + 1 := ⟨bitn t - 1, by have : 0 < bitn t := bitn_lt.2 (by omega); omega⟩
  have h3 : 2 ^ k ≤ t := bitn_lt.1 (by omega)
  have h4 : t < 2 ^ (k + 1) := bitn_le.1 (by omega)
  rw [hk, e]
  refine bitn_uniq (k := 32 * s + k) ?_ ?_
  · rw [Nat.pow_add, ← pow32]
    have := Nat.mul_le_mul_left (4294967296 ^ s) h3
    omega
  · rw [show 32 * s + k + 1 = 32 * s + (k + 1) by omega, Nat.pow_add, ← pow32]
    have := Nat.mul_le_mul_left (4294967296 ^ s) (show t + 1 ≤ 2 ^ (k + 1) by omega)
    rw [Nat.mul_add] at this
    omega
theorem bitn_len {l : List Nat} (h : Lim l) : bitn (nv l) ≤ 32 * l.length := bitn_le.2 (by rw [← pow32]; exact nv_lt h)
theorem nv_two {l : List Nat} (h : sigL l ≤ 2) : nv l = l.getD 0 0 + 4294967296 * l.getD 1 0 := by
  rw [← nv_take_sig h, nv_take_succ, nv_take_succ]
  simp
theorem nv_big {l : List Nat} (_h : Lim l) (hs : 2 < sigL l) : 18446744073709551616 ≤ nv l := by
  have ht := sigL_last (l := l) (by omega)
  have e : nv l = nv (l.take (sigL l - 1)) + 4294967296 ^ (sigL l - 1) * l.getD (sigL l - 1) 0 := by
    rw [← nv_take_sig (l := l) (i := sigL l - 1 + 1) (by omega), nv_take_succ]
  have h1 : 4294967296 ^ 2 ≤ 4294967296 ^ (sigL l - 1) := Nat.pow_le_pow_right (by decide) (by omega)
  have h2 : 4294967296 ^ (sigL l - 1) * 1 ≤ 4294967296 ^ (sigL l - 1) * l.getD (sigL l - 1) 0 := Nat.mul_le_mul_left _ (by omega)
  omega
theorem nv_pair (a b : Nat) : nv [a, b] = a + 4294967296 * b := by simp [nv]
theorem digs_pair {n : Nat} (h : n < 18446744073709551616) : trimL [n % 4294967296, n / 4294967296] = digs n := by
  have hL : Lim [n % 4294967296, n / 4294967296] := Lim.cons (by omega) (Lim.one (by omega))
  rw [digs_trim hL, nv_pair, show n % 4294967296 + 4294967296 * (n / 4294967296) = n by omega]
theorem or64 {P : Program} {w : World} {a b : Nat} {x y : Int} (hx : x = (a * 4294967296 : Nat)) (hy : y = b) (ha : a < 4294967296) (hb : b < 4294967296) : (Op.intBits .or .u64 x y).run P w = .ok (.int .u64 ((b + 4294967296 * a : Nat) : Int)) w := by
  subst hx; subst hy
  have h0 : a * 4294967296 ||| b = b + 4294967296 * a := by
    rw [show a * 4294967296 = 2 ^ 32 * a by omega, ← Nat.two_pow_add_eq_or_of_lt (by omega : b < 2 ^ 32) a]; omega
  have e1 : (BitVec.ofInt 64 ((a * 4294967296 : Nat) : Int) ||| BitVec.ofInt 64 (b : Int)).toNat = b + 4294967296 * a := by
    rw [BitVec.ofInt_natCast, BitVec.ofInt_natCast, BitVec.toNat_or, BitVec.toNat_ofNat, BitVec.toNat_ofNat, Nat.mod_eq_of_lt (by omega), Nat.mod_eq_of_lt (by omega), h0]
  have e2 : IntKind.u64.wrap ((b + 4294967296 * a : Nat) : Int) = ((b + 4294967296 * a : Nat) : Int) := wu64 (by omega) (by omega) rfl
  show Result.ok (Value.int .u64 (IntKind.u64.wrap ((BitVec.ofInt 64 ((a * 4294967296 : Nat) : Int) ||| BitVec.ofInt 64 (b : Int)).toNat : Int))) w = _
  rw [e1, e2]
/-- A constant table. -/
theorem WL.indexTab {P : Program} {n : Nat} {N : Post} {L : Fr} {w : World} {ops : Array Oper} {rest : List Oper} {d : Nat} {ty : TypeId} {pos : String} {af : Array Edge} {x y : Operand} {tx : TypeId} {s : ByteArray} {k : IntKind} {X : Int} {i : Nat} (g : Nat → Nat)
    (ht : P.underlying tx = some .string) (hx : ev L x = some (.string s)) (hy : ev L y = some (.int k X)) (hX : X = i) (hi : i < 256) (hs : ∀ i : Fin 256, (s[i.val]?).map UInt8.toNat = some (g i.val)) (hn : Nat.blt d n = true)
    (h : WL P n ops rest N ((d, .int .u8 (g i : Nat)) :: L) w) : WL P n ops (⟨some d, .index tx x y, ty, pos, af, none⟩ :: rest) N L w := by
  subst hX
  have h1 := hs ⟨i, hi⟩
  simp only [Option.map_eq_some_iff] at h1
  obtain ⟨b, hb1, hb2⟩ := h1
  exact WL.val rfl rfl hn (fun a ha => by simp [execOp, Instr.index, asIntOf, ha.ev hx, ha.ev hy, run_underlying ht, hb1, hb2]) h
end Go.Proofs.Ythfpcebcfjlkmab
