/- Contracts of functions of the program, and what they lean on: Fc, V1, V2, V3, V4, V5, V6, D7, D8, D9, D10, N1, N2, N3, D11, N4, N5, N6, D12, D13, N7. -/
import Derived.Test.YtcmfjjbbcfddpaaWordAddsG4
set_option linter.unusedVariables false
namespace Go.Proofs.Ytcmfjjbbcfddpaa
theorem chk_2_2_0 : chk 2 2 0 4 = true := by decide +kernel
theorem chk_2_3_0 : chk 2 3 0 8 = true := by decide +kernel
theorem chk_2_4_0 : chk 2 4 0 16 = true := by decide +kernel
theorem chk_2_5_0 : chk 2 5 0 32 = true := by decide +kernel
theorem chk_2_6_0 : chk 2 6 0 64 = true := by decide +kernel
theorem chk_2_7_0 : chk 2 7 0 64 = true := by decide +kernel
theorem chk_2_7_64 : chk 2 7 64 64 = true := by decide +kernel
theorem chk_2_8_0 : chk 2 8 0 24 = true := by decide +kernel
theorem chk_2_8_24 : chk 2 8 24 24 = true := by decide +kernel
theorem chk_2_8_48 : chk 2 8 48 24 = true := by decide +kernel
theorem chk_2_8_72 : chk 2 8 72 24 = true := by decide +kernel
theorem chk_2_8_96 : chk 2 8 96 24 = true := by decide +kernel
theorem chk_2_8_120 : chk 2 8 120 24 = true := by decide +kernel
theorem chk_2_8_144 : chk 2 8 144 24 = true := by decide +kernel
theorem chk_2_8_168 : chk 2 8 168 24 = true := by decide +kernel
theorem chk_2_8_192 : chk 2 8 192 24 = true := by decide +kernel
theorem chk_2_8_216 : chk 2 8 216 24 = true := by decide +kernel
theorem chk_2_8_240 : chk 2 8 240 16 = true := by decide +kernel
theorem chk_3_2_0 : chk 3 2 0 9 = true := by decide +kernel
theorem chk_3_3_0 : chk 3 3 0 27 = true := by decide +kernel
theorem chk_3_4_0 : chk 3 4 0 64 = true := by decide +kernel
theorem chk_3_4_64 : chk 3 4 64 17 = true := by decide +kernel
theorem chk_3_5_0 : chk 3 5 0 24 = true := by decide +kernel
theorem chk_3_5_24 : chk 3 5 24 24 = true := by decide +kernel
theorem chk_3_5_48 : chk 3 5 48 24 = true := by decide +kernel
theorem chk_3_5_72 : chk 3 5 72 24 = true := by decide +kernel
theorem chk_3_5_96 : chk 3 5 96 24 = true := by decide +kernel
theorem chk_3_5_120 : chk 3 5 120 24 = true := by decide +kernel
theorem chk_3_5_144 : chk 3 5 144 24 = true := by decide +kernel
theorem chk_3_5_168 : chk 3 5 168 24 = true := by decide +kernel
theorem chk_3_5_192 : chk 3 5 192 24 = true := by decide +kernel
theorem chk_3_5_216 : chk 3 5 216 24 = true := by decide +kernel
theorem chk_3_5_240 : chk 3 5 240 3 = true := by decide +kernel
theorem chk_5_2_0 : chk 5 2 0 25 = true := by decide +kernel
theorem chk_5_3_0 : chk 5 3 0 64 = true := by decide +kernel
theorem chk_5_3_64 : chk 5 3 64 61 = true := by decide +kernel
theorem chk_7_2_0 : chk 7 2 0 49 = true := by decide +kernel
theorem chk_11_2_0 : chk 11 2 0 64 = true := by decide +kernel
theorem chk_11_2_64 : chk 11 2 64 57 = true := by decide +kernel
theorem chk_13_2_0 : chk 13 2 0 64 = true := by decide +kernel
theorem chk_13_2_64 : chk 13 2 64 64 = true := by decide +kernel
theorem chk_13_2_128 : chk 13 2 128 41 = true := by decide +kernel
theorem chk1_0 : ([2, 3, 5, 7, 11, 13, 17, 19, 23, 29, 31, 37, 41, 43, 47, 53, 59, 61] : List Nat).all (fun p => genB p 1 [0]) = true := by decide +kernel
theorem chk1_1 : ([67, 71, 73, 79, 83, 89, 97, 101, 103, 107, 109, 113, 127, 131, 137, 139, 149, 151] : List Nat).all (fun p => genB p 1 [0]) = true := by decide +kernel
theorem chk1_2 : ([157, 163, 167, 173, 179, 181, 191, 193, 197, 199, 211, 223, 227, 229, 233, 239, 241, 251] : List Nat).all (fun p => genB p 1 [0]) = true := by decide +kernel
theorem gx_2_2 {v : Nat} (hv : v < 2 ^ 2) (hI : Irr 2 2 (dv 2 v)) : ∃ g, Gn (2 ^ 2) (fmul 2 2 (dv 2 v)) g := by
 have hv2 : v < 4 := hv; exact chk_ok (by decide) (by decide) chk_2_2_0 (by omega) (by omega) hv hI
theorem gx_2_3 {v : Nat} (hv : v < 2 ^ 3) (hI : Irr 2 3 (dv 2 v)) : ∃ g, Gn (2 ^ 3) (fmul 2 3 (dv 2 v)) g := by
 have hv2 : v < 8 := hv; exact chk_ok (by decide) (by decide) chk_2_3_0 (by omega) (by omega) hv hI
theorem gx_2_4 {v : Nat} (hv : v < 2 ^ 4) (hI : Irr 2 4 (dv 2 v)) : ∃ g, Gn (2 ^ 4) (fmul 2 4 (dv 2 v)) g := by
 have hv2 : v < 16 := hv; exact chk_ok (by decide) (by decide) chk_2_4_0 (by omega) (by omega) hv hI
theorem gx_2_5 {v : Nat} (hv : v < 2 ^ 5) (hI : Irr 2 5 (dv 2 v)) : ∃ g, Gn (2 ^ 5) (fmul 2 5 (dv 2 v)) g := by
 have hv2 : v < 32 := hv; exact chk_ok (by decide) (by decide) chk_2_5_0 (by omega) (by omega) hv hI
theorem gx_2_6 {v : Nat} (hv : v < 2 ^ 6) (hI : Irr 2 6 (dv 2 v)) : ∃ g, Gn (2 ^ 6) (fmul 2 6 (dv 2 v)) g := by
 have hv2 : v < 64 := hv; exact chk_ok (by decide) (by decide) chk_2_6_0 (by omega) (by omega) hv hI
theorem gx_2_7 {v : Nat} (hv : v < 2 ^ 7) (hI : Irr 2 7 (dv 2 v)) : ∃ g, Gn (2 ^ 7) (fmul 2 7 (dv 2 v)) g := by
 have hv2 : v < 128 := hv; rcases Nat.lt_or_ge v 64 with h | h
 ·exact chk_ok (by decide) (by decide) chk_2_7_0 (by omega) (by omega) hv hI
 exact chk_ok (by decide) (by decide) chk_2_7_64 (by omega) (by omega) hv hI
theorem gx_2_8 {v : Nat} (hv : v < 2 ^ 8) (hI : Irr 2 8 (dv 2 v)) : ∃ g, Gn (2 ^ 8) (fmul 2 8 (dv 2 v)) g := by
 have hv2 : v < 256 := hv; rcases Nat.lt_or_ge v 24 with h | h
 ·exact chk_ok (by decide) (by decide) chk_2_8_0 (by omega) (by omega) hv hI
 rcases Nat.lt_or_ge v 48 with h | h
 ·exact chk_ok (by decide) (by decide) chk_2_8_24 (by omega) (by omega) hv hI
 rcases Nat.lt_or_ge v 72 with h | h
 ·exact chk_ok (by decide) (by decide) chk_2_8_48 (by omega) (by omega) hv hI
 rcases Nat.lt_or_ge v 96 with h | h
 ·exact chk_ok (by decide) (by decide) chk_2_8_72 (by omega) (by omega) hv hI
 rcases Nat.lt_or_ge v 120 with h | h
 ·exact chk_ok (by decide) (by decide) chk_2_8_96 (by omega) (by omega) hv hI
 rcases Nat.lt_or_ge v 144 with h | h
 ·exact chk_ok (by decide) (by decide) chk_2_8_120 (by omega) (by omega) hv hI
 rcases Nat.lt_or_ge v 168 with h | h
 ·exact chk_ok (by decide) (by decide) chk_2_8_144 (by omega) (by omega) hv hI
 rcases Nat.lt_or_ge v 192 with h | h
 ·exact chk_ok (by decide) (by decide) chk_2_8_168 (by omega) (by omega) hv hI
 rcases Nat.lt_or_ge v 216 with h | h
 ·exact chk_ok (by decide) (by decide) chk_2_8_192 (by omega) (by omega) hv hI
 rcases Nat.lt_or_ge v 240 with h | h
 ·exact chk_ok (by decide) (by decide) chk_2_8_216 (by omega) (by omega) hv hI
 exact chk_ok (by decide) (by decide) chk_2_8_240 (by omega) (by omega) hv hI
theorem gx_3_2 {v : Nat} (hv : v < 3 ^ 2) (hI : Irr 3 2 (dv 3 v)) : ∃ g, Gn (3 ^ 2) (fmul 3 2 (dv 3 v)) g := by
 have hv2 : v < 9 := hv; exact chk_ok (by decide) (by decide) chk_3_2_0 (by omega) (by omega) hv hI
theorem gx_3_3 {v : Nat} (hv : v < 3 ^ 3) (hI : Irr 3 3 (dv 3 v)) : ∃ g, Gn (3 ^ 3) (fmul 3 3 (dv 3 v)) g := by
 have hv2 : v < 27 := hv; exact chk_ok (by decide) (by decide) chk_3_3_0 (by omega) (by omega) hv hI
theorem gx_3_4 {v : Nat} (hv : v < 3 ^ 4) (hI : Irr 3 4 (dv 3 v)) : ∃ g, Gn (3 ^ 4) (fmul 3 4 (dv 3 v)) g := by
 have hv2 : v < 81 := hv; rcases Nat.lt_or_ge v 64 with h | h
 ·exact chk_ok (by decide) (by decide) chk_3_4_0 (by omega) (by omega) hv hI
 exact chk_ok (by decide) (by decide) chk_3_4_64 (by omega) (by omega) hv hI
theorem gx_3_5 {v : Nat} (hv : v < 3 ^ 5) (hI : Irr 3 5 (dv 3 v)) : ∃ g, Gn (3 ^ 5) (fmul 3 5 (dv 3 v)) g := by
 have hv2 : v < 243 := hv; rcases Nat.lt_or_ge v 24 with h | h
 ·exact chk_ok (by decide) (by decide) chk_3_5_0 (by omega) (by omega) hv hI
 rcases Nat.lt_or_ge v 48 with h | h
 ·exact chk_ok (by decide) (by decide) chk_3_5_24 (by omega) (by omega) hv hI
 rcases Nat.lt_or_ge v 72 with h | h
 ·exact chk_ok (by decide) (by decide) chk_3_5_48 (by omega) (by omega) hv hI
 rcases Nat.lt_or_ge v 96 with h | h
 ·exact chk_ok (by decide) (by decide) chk_3_5_72 (by omega) (by omega) hv hI
 rcases Nat.lt_or_ge v 120 with h | h
 ·exact chk_ok (by decide) (by decide) chk_3_5_96 (by omega) (by omega) hv hI
 rcases Nat.lt_or_ge v 144 with h | h
 ·exact chk_ok (by decide) (by decide) chk_3_5_120 (by omega) (by omega) hv hI
 rcases Nat.lt_or_ge v 168 with h | h
 ·exact chk_ok (by decide) (by decide) chk_3_5_144 (by omega) (by omega) hv hI
 rcases Nat.lt_or_ge v 192 with h | h
 ·exact chk_ok (by decide) (by decide) chk_3_5_168 (by omega) (by omega) hv hI
 rcases Nat.lt_or_ge v 216 with h | h
 ·exact chk_ok (by decide) (by decide) chk_3_5_192 (by omega) (by omega) hv hI
 rcases Nat.lt_or_ge v 240 with h | h
 ·exact chk_ok (by decide) (by decide) chk_3_5_216 (by omega) (by omega) hv hI
 exact chk_ok (by decide) (by decide) chk_3_5_240 (by omega) (by omega) hv hI
theorem gx_5_2 {v : Nat} (hv : v < 5 ^ 2) (hI : Irr 5 2 (dv 5 v)) : ∃ g, Gn (5 ^ 2) (fmul 5 2 (dv 5 v)) g := by
 have hv2 : v < 25 := hv; exact chk_ok (by decide) (by decide) chk_5_2_0 (by omega) (by omega) hv hI
theorem gx_5_3 {v : Nat} (hv : v < 5 ^ 3) (hI : Irr 5 3 (dv 5 v)) : ∃ g, Gn (5 ^ 3) (fmul 5 3 (dv 5 v)) g := by
 have hv2 : v < 125 := hv; rcases Nat.lt_or_ge v 64 with h | h
 ·exact chk_ok (by decide) (by decide) chk_5_3_0 (by omega) (by omega) hv hI
 exact chk_ok (by decide) (by decide) chk_5_3_64 (by omega) (by omega) hv hI
theorem gx_7_2 {v : Nat} (hv : v < 7 ^ 2) (hI : Irr 7 2 (dv 7 v)) : ∃ g, Gn (7 ^ 2) (fmul 7 2 (dv 7 v)) g := by
 have hv2 : v < 49 := hv; exact chk_ok (by decide) (by decide) chk_7_2_0 (by omega) (by omega) hv hI
theorem gx_11_2 {v : Nat} (hv : v < 11 ^ 2) (hI : Irr 11 2 (dv 11 v)) : ∃ g, Gn (11 ^ 2) (fmul 11 2 (dv 11 v)) g := by
 have hv2 : v < 121 := hv; rcases Nat.lt_or_ge v 64 with h | h
 ·exact chk_ok (by decide) (by decide) chk_11_2_0 (by omega) (by omega) hv hI
 exact chk_ok (by decide) (by decide) chk_11_2_64 (by omega) (by omega) hv hI
theorem gx_13_2 {v : Nat} (hv : v < 13 ^ 2) (hI : Irr 13 2 (dv 13 v)) : ∃ g, Gn (13 ^ 2) (fmul 13 2 (dv 13 v)) g := by
 have hv2 : v < 169 := hv; rcases Nat.lt_or_ge v 64 with h | h
 ·exact chk_ok (by decide) (by decide) chk_13_2_0 (by omega) (by omega) hv hI
 rcases Nat.lt_or_ge v 128 with h | h
 ·exact chk_ok (by decide) (by decide) chk_13_2_64 (by omega) (by omega) hv hI
 exact chk_ok (by decide) (by decide) chk_13_2_128 (by omega) (by omega) hv hI
noncomputable def prL : List Nat := [2, 3, 5, 7, 11, 13, 17, 19, 23, 29, 31, 37, 41, 43, 47, 53, 59, 61, 67, 71, 73, 79, 83, 89, 97, 101, 103, 107, 109, 113, 127, 131, 137, 139, 149, 151, 157, 163, 167, 173, 179, 181, 191, 193, 197, 199, 211, 223, 227, 229, 233, 239, 241, 251]
theorem prL_all : (List.range 257).all (fun p => prL.contains p || Nat.blt p 2 || (List.range p).any (fun e => Nat.ble 2 e && Nat.beq (p % e) 0)) = true := by decide +kernel
theorem prL_mem {p : Nat} (hp : IsLf p p) (h : p ≤ 256) : p ∈ prL := by
 have h1 := List.all_eq_true.1 prL_all p (List.mem_range.2 (by omega)); simp only [Bool.or_eq_true, List.contains_iff_mem, List.any_eq_true, List.mem_range, Bool.and_eq_true] at h1; rcases h1 with (h1 | h1) | ⟨e, he, h2, h3⟩
 ·exact h1
 ·have := hp.two; have := Nat.le_of_ble_eq_true h1; omega
 ·have := hp.min e (Nat.le_of_ble_eq_true h2) (Nat.eq_of_beq_eq_true h3); omega
theorem gx_1 {p : Nat} (hp : IsLf p p) (h : p ≤ 256) : ∃ g, Gn (p ^ 1) (fmul p 1 (dv p 0)) g := by
 have hm := prL_mem hp h; have hg : genB p 1 [0] = true := by
  unfold prL at hm; rw [show ([2, 3, 5, 7, 11, 13, 17, 19, 23, 29, 31, 37, 41, 43, 47, 53, 59, 61, 67, 71, 73, 79, 83, 89, 97, 101, 103, 107, 109, 113, 127, 131, 137, 139, 149, 151, 157, 163, 167, 173, 179, 181, 191, 193, 197, 199, 211, 223, 227, 229, 233, 239, 241, 251] : List Nat) = ([2, 3, 5, 7, 11, 13, 17, 19, 23, 29, 31, 37, 41, 43, 47, 53, 59, 61] : List Nat) ++ ([67, 71, 73, 79, 83, 89, 97, 101, 103, 107, 109, 113, 127, 131, 137, 139, 149, 151] : List Nat) ++ ([157, 163, 167, 173, 179, 181, 191, 193, 197, 199, 211, 223, 227, 229, 233, 239, 241, 251] : List Nat) from rfl] at hm; simp only [List.mem_append] at hm; rcases hm with (h | h) | h
  ·exact List.all_eq_true.1 chk1_0 p h
  ·exact List.all_eq_true.1 chk1_1 p h
  ·exact List.all_eq_true.1 chk1_2 p h
 refine genB_ok hp.two (by decide) ⟨rfl, fun i hi => ?_⟩ hg; rw [show i = 0 by omega, dv_z]; simp [vz]
theorem pm_cases {p m : Nat} (hp : IsLf p p) (hm : 2 ≤ m) (hq : p ^ m ≤ 256) : (p = 2 ∧ m = 2) ∨ (p = 2 ∧ m = 3) ∨ (p = 2 ∧ m = 4) ∨ (p = 2 ∧ m = 5) ∨ (p = 2 ∧ m = 6) ∨ (p = 2 ∧ m = 7) ∨ (p = 2 ∧ m = 8) ∨ (p = 3 ∧ m = 2) ∨ (p = 3 ∧ m = 3) ∨ (p = 3 ∧ m = 4) ∨ (p = 3 ∧ m = 5) ∨ (p = 5 ∧ m = 2) ∨ (p = 5 ∧ m = 3) ∨ (p = 7 ∧ m = 2) ∨ (p = 11 ∧ m = 2) ∨ (p = 13 ∧ m = 2) := by
  have h2 := hp.two
  have hpow : ∀ k, k ≤ m → p ^ k ≤ 256 := fun k hk => Nat.le_trans (Nat.pow_le_pow_right (by omega) hk) hq
  have hp2 : p ≤ 16 := by
    rcases Nat.lt_or_ge 16 p with h | h
    · have h1 := hpow 2 hm
      have h3 : 17 ^ 2 ≤ p ^ 2 := Nat.pow_le_pow_left h 2
      omega
    · exact h
  have hnd : ∀ e, 2 ≤ e → e < p → p % e ≠ 0 := fun e he hlt h0 => by have := hp.min e he h0; omega
  have hc : p = 2 ∨ p = 3 ∨ p = 5 ∨ p = 7 ∨ p = 11 ∨ p = 13 := by
    have h3 := hnd 2 (by omega)
    have h4 := hnd 3 (by omega)
    omega
  rcases hc with rfl | rfl | rfl | rfl | rfl | rfl
  · have : m ≤ 8 := by
      rcases Nat.lt_or_ge 8 m with h | h
      · have := hpow 9 h; omega
      · exact h
    omega
  · have : m ≤ 5 := by
      rcases Nat.lt_or_ge 5 m with h | h
      · have := hpow 6 h; omega
      · exact h
    omega
  · have : m ≤ 3 := by
      rcases Nat.lt_or_ge 3 m with h | h
      · have := hpow 4 h; omega
      · exact h
    omega
  · have : m ≤ 2 := by
      rcases Nat.lt_or_ge 2 m with h | h
      · have := hpow 3 h; omega
      · exact h
    omega
  · have : m ≤ 2 := by
      rcases Nat.lt_or_ge 2 m with h | h
      · have := hpow 3 h; omega
      · exact h
    omega
  · have : m ≤ 2 := by
      rcases Nat.lt_or_ge 2 m with h | h
      · have := hpow 3 h; omega
      · exact h
    omega
theorem gen_ex {p m v : Nat} (hp : IsLf p p) (hm : 0 < m) (hq : p ^ m ≤ 256) (hv : v < p ^ m) (h1 : m = 1 → v = 0) (hI : Irr p m (dv p v)) : ∃ g, Gn (p ^ m) (fmul p m (dv p v)) g := by
  rcases Nat.lt_or_ge m 2 with h | h
  · have : m = 1 := by omega
    subst this
    rw [h1 rfl]
    exact gx_1 hp (by simpa using hq)
  · rcases pm_cases hp h hq with ⟨rfl, rfl⟩ | ⟨rfl, rfl⟩ | ⟨rfl, rfl⟩ | ⟨rfl, rfl⟩ | ⟨rfl, rfl⟩ | ⟨rfl, rfl⟩ | ⟨rfl, rfl⟩ | ⟨rfl, rfl⟩ | ⟨rfl, rfl⟩ | ⟨rfl, rfl⟩ | ⟨rfl, rfl⟩ | ⟨rfl, rfl⟩ | ⟨rfl, rfl⟩ | ⟨rfl, rfl⟩ | ⟨rfl, rfl⟩ | ⟨rfl, rfl⟩
    · exact gx_2_2 hv hI
    · exact gx_2_3 hv hI
    · exact gx_2_4 hv hI
    · exact gx_2_5 hv hI
    · exact gx_2_6 hv hI
    · exact gx_2_7 hv hI
    · exact gx_2_8 hv hI
    · exact gx_3_2 hv hI
    · exact gx_3_3 hv hI
    · exact gx_3_4 hv hI
    · exact gx_3_5 hv hI
    · exact gx_5_2 hv hI
    · exact gx_5_3 hv hI
    · exact gx_7_2 hv hI
    · exact gx_11_2 hv hI
    · exact gx_13_2 hv hI
end Go.Proofs.Ytcmfjjbbcfddpaa
set_option linter.unusedVariables false
set_option linter.unusedSimpArgs false
namespace Go.Proofs.Ytcmfjjbbcfddpaa
def vo (l : List Int) : Vec := fun i => l.getD i 0
theorem gi_nat (l : List Int) (i : Nat) : gi l (i : Int) = vo l i := rfl
theorem si_nat (l : List Int) (i : Nat) (x : Int) : si l (i : Int) x = l.set i x := rfl
theorem tmodN (a b : Nat) : (a : Int).tmod (b : Int) = ((a % b : Nat) : Int) := rfl
theorem tdivN (a b : Nat) : (a : Int).tdiv (b : Int) = ((a / b : Nat) : Int) := rfl
theorem vo_set (l : List Int) (i j : Nat) (x : Int) : vo (l.set i x) j = if i = j ∧ i < l.length then x else vo l j := by
 unfold vo; rw [List.getD_eq_getElem?_getD, List.getD_eq_getElem?_getD, List.getElem?_set]; by_cases h : i = j
 ·subst h; by_cases h2 : i < l.length
  ·simp [h2]
  ·simp [h2]
 ·simp [h]
theorem vo_rep (n : Nat) (i : Nat) : vo (List.replicate n (0 : Int)) i = 0 := by
 unfold vo; rw [List.getD_eq_getElem?_getD, List.getElem?_replicate]; split <;> rfl
theorem vo_hi {l : List Int} {i : Nat} (h : l.length ≤ i) : vo l i = 0 := by
 unfold vo; rw [List.getD_eq_getElem?_getD, List.getElem?_eq_none h]; rfl
theorem vo_ext {l o : List Int} (h : l.length = o.length) (hv : ∀ i, i < l.length → vo l i = vo o i) : l = o := by
 refine List.ext_getElem h fun i h1 h2 => ?_; have := hv i h1; unfold vo at this; rw [List.getD_eq_getElem?_getD, List.getD_eq_getElem?_getD, List.getElem?_eq_getElem h1, List.getElem?_eq_getElem h2] at this; exact this
theorem small {x : Int} (h : -1000000000000 ≤ x) (h2 : x ≤ 1000000000000) : I64 x := ⟨by omega, by omega⟩
theorem smallN {n : Nat} (h : n ≤ 1000000000000) : I64 (n : Int) := small (by omega) (by omega)
def dgi (p n x : Nat) : List Int := (dgl p n x).map fun (a : Nat) => (a : Int)
theorem dgi_len (p n x : Nat) : (dgi p n x).length = n := by simp [dgi, dgl_len]
theorem dgi_at {p n x i : Nat} (h : i < n) : vo (dgi p n x) i = dv p x i := by
 rw [← dgl_at p n x i h]; unfold vo dgi; rw [List.getD_eq_getElem?_getD, List.getElem?_map, List.getD_eq_getElem?_getD]; rw [List.getElem?_eq_getElem (by rw [dgl_len]; exact h)]; rfl
theorem v_okIf {b : Bool} {Q : Int → Prop} (h : Q (if b = true then 0 else 1)) : V_okIf b Q := by
 cases b
 ·exact ⟨fun h' => absurd h' (by decide), fun _ => h⟩
 ·exact ⟨fun _ => h, fun h' => absurd h' (by decide)⟩
theorem lf_root {n k : Nat} (hn : 2 ≤ n) (hk : n < k * k) (h : ∀ e, e < k → 2 ≤ e → n % e ≠ 0) : IsLf n n := by
 refine ⟨hn, Nat.mod_self n, fun e he hm => ?_⟩; rcases Nat.lt_or_ge e k with hc | hc
 ·exact absurd hm (h e hc he)
 ·obtain ⟨t, ht⟩ := Nat.dvd_of_mod_eq_zero hm; have hq1 : t < k := by
   rcases Nat.lt_or_ge t k with h1 | h1
   ·exact h1
   ·have := Nat.mul_le_mul hc h1; omega
  rcases Nat.lt_or_ge t 2 with h2 | h2
  ·have : t = 0 ∨ t = 1 := by omega
   rcases this with rfl | rfl
   ·omega
   ·omega
  ·exact absurd (Nat.mod_eq_zero_of_dvd ⟨e, by rw [ht, Nat.mul_comm]⟩) (h t hq1 h2)
theorem v_leastDivisor {x : Nat} {Q : Int → Prop} (h2 : 2 ≤ x) (hx : x ≤ 256) (h : ∀ d : Nat, IsLf x d → Q d) : V_leastDivisor x Q := by
 refine ⟨fun z => ∃ k : Nat, z = k ∧ 2 ≤ k ∧ k ≤ 17 ∧ ∀ e, e < k → 2 ≤ e → x % e ≠ 0, fun z => (20 - z).toNat, ⟨2, rfl, by omega, by omega, fun e _ _ => by omega⟩, ?_⟩; rintro _ ⟨k, rfl, hk2, hk, hm⟩; dsimp only; have e1 : ((k : Nat) : Int) * (k : Int) = ((k * k : Nat) : Int) := by push_cast; rfl
 have hb : k * k ≤ 17 * 17 := Nat.mul_le_mul hk hk; rw [e1]; refine ⟨small (by omega) (by omega), fun hle => ⟨by omega, ?_, ?_⟩, fun hgt => ?_⟩
 ·intro h0; rw [tmodN] at h0; refine h k ⟨hk2, by omega, fun e he h3 => ?_⟩; rcases Nat.lt_or_ge e k with hc | hc
  ·exact absurd h3 (hm e hc he)
  ·exact hc
 ·intro h0; rw [tmodN] at h0; have hk16 : k ≤ 16 := by
   rcases Nat.lt_or_ge 16 k with hc | hc
   ·have := Nat.mul_le_mul hc hc; omega
   ·exact hc
  refine ⟨small (by omega) (by omega), ⟨k + 1, by push_cast; rfl, by omega, by omega, fun e he h3 => ?_⟩, by omega⟩; rcases Nat.lt_or_ge e k with hc | hc
  ·exact hm e hc h3
  ·rw [show e = k by omega]; omega
 ·exact h x (lf_root h2 (by omega) hm)
theorem IsLf.uniq {n d e : Nat} (h : IsLf n d) (h' : IsLf n e) : d = e := Nat.le_antisymm (h.min e h'.two h'.dvd) (h'.min d h.two h.dvd)
theorem v_isPrime {x : Int} {Q : Bool → Prop} (hx : x ≤ 256) (h : ∀ b : Bool, (b = true ↔ 2 ≤ x ∧ IsLf x.toNat x.toNat) → Q b) : V_isPrime x Q := by
 refine ⟨fun h2 => ?_, fun h2 => h false ⟨fun h' => by (cases h'), fun h' => absurd h'.1 h2⟩⟩; obtain ⟨n, rfl⟩ := Int.eq_ofNat_of_zero_le (show 0 ≤ x by omega); refine v_leastDivisor (by omega) (by omega) fun d hd => h _ ?_; rw [decide_eq_true_iff, Int.toNat_natCast]; constructor
 ·intro he; have : d = n := by omega
  subst this; exact ⟨h2, hd⟩
 ·rintro ⟨_, hn⟩; rw [hd.uniq hn]
theorem v_rprime {x : Nat} {Q : Bool → Prop} (h2 : 2 ≤ x) (hx : x ≤ 256) (h : ∀ b : Bool, (b = true ↔ IsLf x x) → Q b) : V_rprime x Q := by
 refine ⟨fun z => ∃ k : Nat, z = k ∧ 2 ≤ k ∧ k ≤ x ∧ ∀ e, e < k → 2 ≤ e → x % e ≠ 0, fun z => (x - z).toNat, ⟨2, rfl, by omega, by omega, fun e _ _ => by omega⟩, ?_⟩; rintro _ ⟨k, rfl, hk2, hk, hm⟩; dsimp only; refine ⟨fun hlt => ⟨by omega, fun h0 => ?_, fun h0 => ?_⟩, fun hge => ?_⟩
 ·rw [tmodN] at h0; refine h false ⟨fun h' => by (cases h'), fun hp => ?_⟩; have := hp.min k hk2 (by omega); omega
 ·rw [tmodN] at h0; refine ⟨small (by omega) (by omega), ⟨k + 1, by push_cast; rfl, by omega, by omega, fun e he h3 => ?_⟩, by omega⟩; rcases Nat.lt_or_ge e k with hc | hc
  ·exact hm e hc h3
  ·rw [show e = k by omega]; omega
 ·refine h true ⟨fun _ => ⟨h2, Nat.mod_self x, fun e he h0 => ?_⟩, fun _ => rfl⟩; rcases Nat.lt_or_ge e x with hc | hc
  ·exact absurd h0 (hm e (by omega) he)
  ·exact hc
theorem pow_mono {p a b : Nat} (hp : 0 < p) (h : a ≤ b) : p ^ a ≤ p ^ b := Nat.pow_le_pow_right hp h
theorem v_order {p : Nat} {M : Int} {mf : List Int} {Q : Int → Prop} (hp : 2 ≤ p) (hp2 : p ≤ 256) (h : ∀ r : Int, (p ^ M.toNat ≤ 256 → r = ((p ^ M.toNat : Nat) : Int)) → (256 < p ^ M.toNat → 256 < r) → Q r) : V_order p M mf Q := by
 refine ⟨fun r => (p ^ M.toNat ≤ 256 → r = ((p ^ M.toNat : Nat) : Int)) ∧ (256 < p ^ M.toNat → 256 < r), ⟨fun z i => ∃ k : Nat, i = k ∧ k ≤ M.toNat ∧ z = ((p ^ k : Nat) : Int) ∧ p ^ k ≤ 65536 ∧ k ≤ 16, fun z i => (20 - i).toNat, ⟨0, rfl, Nat.zero_le _, by simp, by simp, by omega⟩, ?_⟩, fun r hr => h r hr.1 hr.2⟩; rintro _ _ ⟨k, rfl, hk, rfl, hb, hk16⟩; dsimp only; refine ⟨fun hlt => ⟨fun hle => ?_, fun hgt => ?_⟩, fun hge => ?_⟩
 ·have hk8 : p ^ k ≤ 256 := by omega
  have hkk : k < 16 := by
   rcases Nat.lt_or_ge k 16 with hc | hc
   ·exact hc
   ·have h1 := pow_mono (p := p) (by omega) hc; have h2 : 2 ^ 16 ≤ p ^ 16 := Nat.pow_le_pow_left hp 16; omega
  have e1 : ((p ^ k : Nat) : Int) * (p : Int) = ((p ^ (k + 1) : Nat) : Int) := by rw [Nat.pow_succ]; push_cast; rfl
  have hb2 : p ^ (k + 1) ≤ 65536 := by
   rw [Nat.pow_succ]; have := Nat.mul_le_mul hk8 hp2; omega
  rw [e1]; exact ⟨small (by omega) (by omega), small (by omega) (by omega), ⟨k + 1, by push_cast; rfl, by omega, rfl, hb2, by omega⟩, by omega⟩
 ·have := pow_mono (p := p) (by omega) hk; exact ⟨fun h' => by omega, fun _ => by omega⟩
 ·have : k = M.toNat := by omega
  subst this; exact ⟨fun _ => rfl, fun h' => by omega⟩
def ordR (P M : Int) : Int := if 2 ≤ P ∧ 1 ≤ M ∧ P.toNat ^ M.toNat ≤ 256 then ((P.toNat ^ M.toNat : Nat) : Int) else 0
theorem v_rOrder {P M : Int} {mf : List Int} {Q : Int → Prop} (h : Q (ordR P M)) : V_rOrder P M mf Q := by
 refine ⟨fun h1 => ?_, fun h1 => ⟨fun h2 => ?_, fun h2 => ⟨fun h3 => ?_, fun h3 => ?_⟩⟩⟩
 ·rw [ordR, if_neg (by omega)] at h; exact h
 ·rw [ordR, if_neg (by omega)] at h; exact h
 ·rw [ordR, if_neg] at h
  ·exact h
  ·rintro ⟨h4, h5, h6⟩; have e1 : 2 ^ 9 ≤ P.toNat ^ 9 := Nat.pow_le_pow_left (by omega) 9; have e2 := pow_mono (p := P.toNat) (by omega) (show 9 ≤ M.toNat by omega); omega
 ·obtain ⟨p, rfl⟩ := Int.eq_ofNat_of_zero_le (show 0 ≤ P by omega); obtain ⟨m, rfl⟩ := Int.eq_ofNat_of_zero_le (show 0 ≤ M by omega); refine ⟨fun z i => ∃ k : Nat, i = k ∧ k ≤ m ∧ z = ((p ^ k : Nat) : Int) ∧ p ^ k ≤ 256, fun z i => (20 - i).toNat, ⟨0, rfl, Nat.zero_le _, by simp, by simp⟩, ?_⟩; rintro _ _ ⟨k, rfl, hk, rfl, hb⟩; dsimp only; rw [show (256 : Int) = ((256 : Nat) : Int) from rfl, tdivN]; have hd : 256 / p ≤ 256 := Nat.div_le_self _ _; have hdm : ∀ a, a ≤ 256 / p ↔ a * p ≤ 256 := fun a => Nat.le_div_iff_mul_le (show 0 < p by omega); generalize 256 / p = D at *
  refine ⟨fun hlt => ⟨⟨by omega, small (by omega) (by omega)⟩, fun hgt => ?_, fun hle => ?_⟩, fun hge => ?_⟩
  ·rw [ordR, if_neg] at h
   ·exact h
   ·rintro ⟨_, _, h6⟩; simp only [Int.toNat_natCast] at h6; have h7 : p ^ (k + 1) ≤ 256 := Nat.le_trans (pow_mono (by omega) (by omega)) h6; rw [Nat.pow_succ] at h7; have := (hdm _).2 h7; omega
  ·have h7 : p ^ (k + 1) ≤ 256 := by rw [Nat.pow_succ]; exact (hdm _).1 (by omega)
   have e1 : ((p ^ k : Nat) : Int) * (p : Int) = ((p ^ (k + 1) : Nat) : Int) := by rw [Nat.pow_succ]; push_cast; rfl
   rw [e1]; exact ⟨small (by omega) (by omega), small (by omega) (by omega), ⟨k + 1, by push_cast; rfl, by omega, rfl, h7⟩, by omega⟩
  ·have : k = m := by omega
   subst this; rw [ordR, if_pos ⟨by omega, by omega, by simpa using hb⟩] at h
   simpa using h
theorem div_pow_succ (x p i : Nat) : x / p ^ i / p = x / p ^ (i + 1) := by rw [Nat.div_div_eq_div_mul, Nat.pow_succ]
theorem v_digits {p n x : Nat} {Q : List Int → Prop} (hp : 0 < p) (hn : n ≤ 1000) (hx : x ≤ 1000) (h : Q (dgi p n x)) : V_digits p n x Q := by
 refine ⟨⟨by omega, by omega, by omega⟩, fun l z i => ∃ k : Nat, i = k ∧ k ≤ n ∧ z = ((x / p ^ k : Nat) : Int) ∧ l.length = n ∧ ∀ j, j < k → vo l j = dv p x j, fun l z i => (n - i).toNat, ⟨0, rfl, Nat.zero_le _, by simp, by simp, fun j hj => by omega⟩, ?_⟩; rintro l _ _ ⟨k, rfl, hk, rfl, hl, hv⟩; dsimp only; have hd : x / p ^ k ≤ x := Nat.div_le_self _ _; have hd2 : x / p ^ k / p ≤ x / p ^ k := Nat.div_le_self _ _; rw [tdivN, tmodN, si_nat]; simp only [Int.toNat_natCast]; refine ⟨fun hlt => ⟨by omega, ⟨by omega, by omega⟩, ⟨by omega, smallN (by omega)⟩, small (by omega) (by omega), ⟨k + 1, by push_cast; rfl, by omega, by rw [div_pow_succ], by rw [List.length_set, hl], fun j hj => ?_⟩, by omega⟩, fun hge => ?_⟩
 ·rw [vo_set]; by_cases hjk : k = j
  ·subst hjk; rw [if_pos ⟨rfl, by omega⟩]; rfl
  ·rw [if_neg (by omega)]; exact hv j (by omega)
 ·have : l = dgi p n x := vo_ext (by rw [hl, dgi_len]) fun j hj => by rw [hv j (by omega), dgi_at (by omega)]
  rw [this]; exact h
theorem v_rdigits {p n x : Nat} {Q : List Int → Prop} (hp : 0 < p) (hn : n ≤ 1000) (hx : x ≤ 1000) (h : Q (dgi p n x)) : V_rdigits x p n Q := by
 refine ⟨⟨by omega, by omega, by omega⟩, fun l z i => ∃ k : Nat, i = k ∧ k ≤ n ∧ z = ((x / p ^ k : Nat) : Int) ∧ l.length = n ∧ ∀ j, j < k → vo l j = dv p x j, fun l z i => (n - i).toNat, ⟨0, rfl, Nat.zero_le _, by simp, by simp, fun j hj => by omega⟩, ?_⟩; rintro l _ _ ⟨k, rfl, hk, rfl, hl, hv⟩; dsimp only; have hd : x / p ^ k ≤ x := Nat.div_le_self _ _; have hd2 : x / p ^ k / p ≤ x / p ^ k := Nat.div_le_self _ _; rw [tdivN, tmodN, si_nat]; simp only [Int.toNat_natCast]; refine ⟨fun hlt => ⟨by omega, ⟨by omega, by omega⟩, ⟨by omega, smallN (by omega)⟩, small (by omega) (by omega), ⟨k + 1, by push_cast; rfl, by omega, by rw [div_pow_succ], by rw [List.length_set, hl], fun j hj => ?_⟩, by omega⟩, fun hge => ?_⟩
 ·rw [vo_set]; by_cases hjk : k = j
  ·subst hjk; rw [if_pos ⟨rfl, by omega⟩]; rfl
  ·rw [if_neg (by omega)]; exact hv j (by omega)
 ·have : l = dgi p n x := vo_ext (by rw [hl, dgi_len]) fun j hj => by rw [hv j (by omega), dgi_at (by omega)]
  rw [this]; exact h
theorem v_successor {p m x : Nat} {mf : List Int} {Q : Int → Prop} (hp : 2 ≤ p) (hp2 : p ≤ 256) (hx : x ≤ 256) (h : Q ((if x % p = p - 1 then x - x % p else x + 1 : Nat) : Int)) : V_successor p m mf x Q := by
 have hm := Nat.mod_lt x (show 0 < p by omega); have hm2 := Nat.mod_le x p; refine ⟨by omega, small (by omega) (by omega), fun h0 => ⟨by omega, ?_⟩, fun h0 => ?_⟩
 ·rw [tmodN] at h0 ⊢; rw [if_pos (by omega)] at h; refine ⟨small (by omega) (by omega), ?_⟩; rw [show (x : Int) - ((x % p : Nat) : Int) = ((x - x % p : Nat) : Int) by omega]; exact h
 ·rw [tmodN] at h0; rw [if_neg (by omega)] at h; exact ⟨small (by omega) (by omega), by push_cast at h ⊢; exact h⟩
theorem v_clone {l : List Int} {Q : List Int → Prop} (hl : l.length ≤ 1000000) (h : Q l) : V_clone l Q := by
 intro b hb; refine ⟨fun h1 => by rw [← hb h1]; exact h, fun _ => ⟨by omega, by simpa using h⟩⟩
end Go.Proofs.Ytcmfjjbbcfddpaa
set_option linter.unusedVariables false
set_option linter.unusedSimpArgs false
namespace Go.Proofs.Ytcmfjjbbcfddpaa
theorem any_iff {l : List Int} {f : Int → Bool} : l.any f = true ↔ ∃ i, i < l.length ∧ f (vo l i) = true := by
  rw [List.any_eq_true]
  constructor
  · rintro ⟨x, hx, hf⟩
    obtain ⟨i, hi, rfl⟩ := List.mem_iff_getElem.1 hx
    refine ⟨i, hi, ?_⟩
    unfold vo; rw [List.getD_eq_getElem?_getD, List.getElem?_eq_getElem hi]; exact hf
  · rintro ⟨i, hi, hf⟩
    unfold vo at hf
    rw [List.getD_eq_getElem?_getD, List.getElem?_eq_getElem hi] at hf
    exact ⟨l[i], List.getElem_mem hi, hf⟩
theorem v_contains {l : List Int} {p : Int → (Bool → Prop) → Prop} {f : Int → Bool} {Q : Bool → Prop} (hl : l.length ≤ 1000000000) (hp : ∀ x (R : Bool → Prop), R (f x) → p x R) (h : Q (l.any f)) : V_contains l p Q := by
 refine ⟨fun z => ∃ k : Nat, z = k ∧ k ≤ l.length ∧ ∀ j, j < k → f (vo l j) = false, fun z => (l.length - z).toNat, ⟨0, rfl, Nat.zero_le _, fun j hj => by omega⟩, ?_⟩; rintro _ ⟨k, rfl, hk, hv⟩; dsimp only; refine ⟨fun hlt => ⟨⟨by omega, by omega⟩, hp _ _ ⟨fun hb => ?_, fun hb => ⟨small (by omega) (by omega), ⟨k + 1, by push_cast; rfl, by omega, fun j hj => ?_⟩, by omega⟩⟩⟩, fun hge => ?_⟩
 ·rw [any_iff.2 ⟨k, by omega, hb⟩] at h; rw [decide_eq_true (by omega)]; exact h
 ·rw [gi_nat] at hb; by_cases hjk : j = k
  ·subst hjk; exact hb
  ·exact hv j (by omega)
 ·have : l.any f = false := by
   cases hb : l.any f with
   | false => rfl
   | true =>
    obtain ⟨i, hi, hf⟩ := any_iff.1 hb; rw [hv i (by omega)] at hf; cases hf
  rw [this] at h; exact h
theorem red_eq {p : Nat} {a l c : Int} (hp : 0 < p) (ha : 0 ≤ a) (hl : l ≤ p) (hc : 0 ≤ c) : (a + ((p : Int) - l) * c).tmod p = (a - l * c) % (p : Int) := by
 have h1 : 0 ≤ ((p : Int) - l) * c := Int.mul_nonneg (by omega) hc; rw [Int.tmod_eq_emod_of_nonneg (by omega)]; have : a + ((p : Int) - l) * c = (a - l * c) + p * c := by rw [Int.sub_mul]; omega
 rw [this, Int.add_mul_emod_self_left]
theorem rem_cn {p d n : Nat} {l R : Vec} (hp : 0 < p) {N : Nat} (hR : Cn p N R) : ∀ k, Cn p N (rem p d l R n k)
 | 0 => hR
 | k + 1 => fun j hj => by
  show 0 ≤ rst _ _ _ _ _ j ∧ rst _ _ _ _ _ j < _; unfold rst; split
  ·exact ⟨Int.emod_nonneg _ (by omega), Int.emod_lt_of_pos _ (by omega)⟩
  ·exact rem_cn hp hR k j hj
theorem bd_mul {a b : Int} {p : Nat} (hp : p ≤ 256) (ha : 0 ≤ a ∧ a ≤ p) (hb : 0 ≤ b ∧ b ≤ p) : 0 ≤ a * b ∧ a * b ≤ 65536 := by
 obtain ⟨x, rfl⟩ := Int.eq_ofNat_of_zero_le ha.1; obtain ⟨y, rfl⟩ := Int.eq_ofNat_of_zero_le hb.1; have : x * y ≤ 256 * 256 := Nat.mul_le_mul (by omega) (by omega); have e : ((x : Int)) * (y : Int) = ((x * y : Nat) : Int) := by push_cast; rfl
 rw [e]; omega
theorem take_vo {l : List Int} {n i : Nat} (h : i < n) : vo (l.take n) i = vo l i := by
 unfold vo; rw [List.getD_eq_getElem?_getD, List.getD_eq_getElem?_getD, List.getElem?_take, if_pos h]
theorem v_divides {p : Nat} {l o : List Int} {Q : Bool → Prop} (hp : 0 < p) (hp2 : p ≤ 256) (hl : Cn p l.length (vo l)) (ho : Cn p o.length (vo o)) (hd : 0 < l.length) (hdn : l.length ≤ o.length) (hn : o.length ≤ 1000)
  (h : ∀ b : Bool, (b = true ↔ Dvd p l.length (vo l) (vo o) o.length) → Q b) : V_divides p l o Q := by
 refine v_clone (by omega) ⟨small (by omega) (by omega), ?_⟩; generalize hdd : l.length = d at *
 generalize hnn : o.length = n at *
 refine ⟨fun x z => ∃ k : Nat, z = (n : Int) - 1 - k ∧ k ≤ n - d ∧ x.length = n ∧ ∀ j, j < n → vo x j = rem p d (vo l) (vo o) n k j, fun x z => (z + 1).toNat, ⟨0, by omega, by omega, hnn, fun j _ => rfl⟩, ?_⟩; rintro x _ ⟨k, rfl, hk, hx, hv⟩; dsimp only; have hc := rem_cn (d := d) (l := vo l) (n := n) hp ho k; refine ⟨fun hle => ?_, fun hgt => ?_⟩
 ·obtain ⟨i, hi⟩ : ∃ i : Nat, (n : Int) - 1 - k = i := ⟨n - 1 - k, by omega⟩
  rw [hi]; have hin : i = n - 1 - k := by omega
  refine ⟨fun y z => ∃ t : Nat, z = t ∧ t ≤ d ∧ y.length = n ∧ ∀ j, j < n → vo y j = if i ≤ j + d ∧ j + d < i + t then rem p d (vo l) (vo o) n (k + 1) j else rem p d (vo l) (vo o) n k j, fun y z => (d - z).toNat, ⟨0, rfl, Nat.zero_le _, hx, fun j hj => by rw [if_neg (by omega)]; exact hv j hj⟩, ?_⟩; rintro y _ ⟨t, rfl, ht, hy, hw⟩; dsimp only; have e1 : (i : Int) - (d : Int) + (t : Int) = ((i - d + t : Nat) : Int) := by omega
  rw [e1, gi_nat, gi_nat, gi_nat, si_nat]; have hyi : vo y i = rem p d (vo l) (vo o) n k i := by rw [hw i (by omega), if_neg (by omega)]
  refine ⟨fun hlt => ?_, fun hge => ?_⟩
  ·have hyj : vo y (i - d + t) = rem p d (vo l) (vo o) n k (i - d + t) := by rw [hw _ (by omega), if_neg (by omega)]
   have c1 := hl t (by omega); have c2 := hc i (by omega); have c3 := hc (i - d + t) (by omega); rw [hyi, hyj]; have c4 := bd_mul (a := (p : Int) - vo l t) (b := rem p d (vo l) (vo o) n k i) hp2 ⟨by omega, by omega⟩ ⟨c2.1, by omega⟩; refine ⟨⟨by omega, by omega⟩, small (by omega) (by omega), small (by omega) (by omega), ⟨by omega, by omega⟩, small (by omega) (by omega), ⟨by omega, by omega⟩, small (by omega) (by omega), small (by omega) (by omega), by omega, ⟨by omega, by omega⟩, small (by omega) (by omega), ⟨t + 1, by push_cast; rfl, by omega, by rw [List.length_set, hy], fun j hj => ?_⟩, by omega⟩; rw [vo_set]; by_cases hjt : i - d + t = j
   ·subst hjt; rw [if_pos ⟨rfl, by omega⟩, if_pos (by omega), red_eq hp c3.1 (by omega) c2.1]; show _ = rst p d (n - 1 - k) (vo l) (rem p d (vo l) (vo o) n k) (i - d + t); unfold rst; rw [← hin, if_pos (by omega), show i - d + t + d - i = t by omega]
   ·rw [if_neg (fun h => hjt h.1), hw j hj]; by_cases hc2 : i ≤ j + d ∧ j + d < i + t
    ·rw [if_pos hc2, if_pos (by omega)]
    ·rw [if_neg hc2, if_neg (by omega)]
  ·refine ⟨small (by omega) (by omega), ⟨k + 1, by omega, by omega, hy, fun j hj => ?_⟩, by omega⟩; rw [hw j hj]; have htd : t = d := by omega
   by_cases hc2 : i ≤ j + d ∧ j + d < i + t
   ·rw [if_pos hc2]
   ·rw [if_neg hc2]; show _ = rst p d (n - 1 - k) (vo l) (rem p d (vo l) (vo o) n k) j; unfold rst; rw [← hin, if_neg (by omega)]
 ·refine ⟨⟨by omega, by omega⟩, v_contains (f := fun x => decide (x ≠ 0)) (by rw [List.length_take]; omega) (fun x R hR => hR) (h _ ?_)⟩; have hkk : k = n - d := by omega
  have hlen : (x.take (d : Int).toNat).length = d := by rw [List.length_take]; omega
  rw [Bool.not_eq_true']; constructor
  ·intro hb j hj; have h2 : ¬ (x.take (d : Int).toNat).any (fun x => decide (x ≠ 0)) = true := by rw [hb]; decide
   rw [any_iff] at h2; have h3 : decide (vo (x.take (d : Int).toNat) j ≠ 0) = false := by
    cases hc3 : decide (vo (x.take (d : Int).toNat) j ≠ 0) with
    | false => rfl
    | true => exact absurd ⟨j, by omega, hc3⟩ h2
   rw [take_vo (by simpa using hj), hv j (by omega), hkk] at h3; have h4 := of_decide_eq_false h3; omega
  ·intro hD; cases hb : (x.take (d : Int).toNat).any (fun x => decide (x ≠ 0)) with
   | false => rfl
   | true =>
    obtain ⟨i, hi, hf⟩ := any_iff.1 hb; rw [take_vo (by simpa using (by omega : i < d)), hv i (by omega), hkk, hD i (by omega)] at hf; exact absurd hf (by decide)
theorem vo_snoc (o : List Int) : vo (o ++ [(1 : Int)]) = fun i => if i = o.length then 1 else vo o i := by
 funext i; unfold vo; rw [List.getD_eq_getElem?_getD, List.getD_eq_getElem?_getD]; rcases Nat.lt_trichotomy i o.length with h | h | h
 ·rw [List.getElem?_append_left h, if_neg (by omega)]
 ·subst h; simp
 ·rw [if_neg (by omega), List.getElem?_eq_none (by simp; omega), List.getElem?_eq_none (by omega)]
theorem snoc_cn {p : Nat} {o : List Int} (hp : 2 ≤ p) (ho : Cn p o.length (vo o)) : Cn p (o.length + 1) (vo (o ++ [(1 : Int)])) := fun i hi => by
 rw [vo_snoc]; dsimp only; split
 ·omega
 ·exact ho i (by omega)
theorem v_rdivides {p : Nat} {l o : List Int} {Q : Bool → Prop} (hp : 2 ≤ p) (hp2 : p ≤ 256) (hl : Cn p l.length (vo l)) (ho : Cn p o.length (vo o)) (hd : 0 < l.length) (hdn : l.length ≤ o.length) (hn : o.length ≤ 1000)
  (h : ∀ b : Bool, (b = true ↔ Dvd p l.length (vo l) (fun i => if i = o.length then 1 else vo o i) (o.length + 1)) → Q b) : V_rdivides l o p Q := by
 unfold V_rdivides; simp only [List.nil_append]; rw [← vo_snoc] at h; have hcR := snoc_cn hp ho; have hnn : (o ++ [(1 : Int)]).length = o.length + 1 := by simp
 refine ⟨by omega, by omega, small (by omega) (by omega), ?_⟩; generalize hdd : l.length = d at *
 generalize hN : o.length + 1 = n at *
 generalize hoo : o ++ [(1 : Int)] = r at *
 refine ⟨fun x z => ∃ k : Nat, z = (n : Int) - 1 - k ∧ k ≤ n - d ∧ x.length = n ∧ ∀ j, j < n → vo x j = if j + k < n then rem p d (vo l) (vo r) n k j else 0, fun x z => (z + 1).toNat, ⟨0, by omega, by omega, hnn, fun j hj => by rw [if_pos (by omega)]; rfl⟩, ?_⟩; rintro x _ ⟨k, rfl, hk, hx, hv⟩; dsimp only; have hc := rem_cn (d := d) (l := vo l) (n := n) (p := p) (by omega) hcR k; refine ⟨fun hle => ⟨⟨by omega, by omega⟩, ?_⟩, fun hgt => ?_⟩
 ·obtain ⟨i, hi⟩ : ∃ i : Nat, (n : Int) - 1 - k = i := ⟨n - 1 - k, by omega⟩
  rw [hi]; have hin : i = n - 1 - k := by omega
  have hxi : vo x i = rem p d (vo l) (vo r) n k i := by rw [hv i (by omega), if_pos (by omega)]
  refine ⟨fun y z => ∃ t : Nat, z = t ∧ t ≤ d ∧ y.length = n ∧ ∀ j, j < n → vo y j = if i ≤ j + d ∧ j + d < i + t then rem p d (vo l) (vo r) n (k + 1) j else vo x j, fun y z => (d - z).toNat, ⟨0, rfl, Nat.zero_le _, hx, fun j hj => by rw [if_neg (by omega)]⟩, ?_⟩; rintro y _ ⟨t, rfl, ht, hy, hw⟩; dsimp only; have e1 : (i : Int) - (d : Int) + (t : Int) = ((i - d + t : Nat) : Int) := by omega
  rw [e1, gi_nat, gi_nat, gi_nat, si_nat, si_nat]; refine ⟨fun hlt => ?_, fun hge => ?_⟩
  ·have hyj : vo y (i - d + t) = rem p d (vo l) (vo r) n k (i - d + t) := by rw [hw _ (by omega), if_neg (by omega), hv _ (by omega), if_pos (by omega)]
   have c1 := hl t (by omega); have c2 := hc i (by omega); have c3 := hc (i - d + t) (by omega); rw [hxi, hyj]; have c4 := bd_mul (a := (p : Int) - rem p d (vo l) (vo r) n k i) (b := vo l t) hp2 ⟨by omega, by omega⟩ ⟨c1.1, by omega⟩; refine ⟨small (by omega) (by omega), small (by omega) (by omega), small (by omega) (by omega), small (by omega) (by omega), ⟨by omega, by omega⟩, small (by omega) (by omega), ⟨by omega, by omega⟩, small (by omega) (by omega), small (by omega) (by omega), by omega, ⟨by omega, by omega⟩, small (by omega) (by omega), ⟨t + 1, by push_cast; rfl, by omega, by rw [List.length_set, hy], fun j hj => ?_⟩, by omega⟩; rw [vo_set]; by_cases hjt : i - d + t = j
   ·subst hjt; rw [if_pos ⟨rfl, by omega⟩, if_pos (by omega), red_eq (by omega) c3.1 (by omega) c1.1]; show _ = rst p d (n - 1 - k) (vo l) (rem p d (vo l) (vo r) n k) (i - d + t); unfold rst; rw [← hin, if_pos (by omega), show i - d + t + d - i = t by omega, Int.mul_comm]
   ·rw [if_neg (fun h => hjt h.1), hw j hj]; by_cases hc2 : i ≤ j + d ∧ j + d < i + t
    ·rw [if_pos hc2, if_pos (by omega)]
    ·rw [if_neg hc2, if_neg (by omega)]
  ·refine ⟨⟨by omega, by omega⟩, small (by omega) (by omega), ⟨k + 1, by omega, by omega, by rw [List.length_set, hy], fun j hj => ?_⟩, by omega⟩; rw [vo_set]; by_cases hij : i = j
   ·subst hij; rw [if_pos ⟨rfl, by omega⟩, if_neg (by omega)]
   ·rw [if_neg (fun h => hij h.1), hw j hj]; have htd : t = d := by omega
    by_cases hc2 : i ≤ j + d ∧ j + d < i + t
    ·rw [if_pos hc2, if_pos (by omega)]
    ·rw [if_neg hc2, hv j hj]; by_cases hjk : j + k < n
     ·rw [if_pos hjk, if_pos (by omega)]; show _ = rst p d (n - 1 - k) (vo l) (rem p d (vo l) (vo r) n k) j; unfold rst; rw [← hin, if_neg (by omega)]
     ·rw [if_neg hjk, if_neg (by omega)]
 ·have hkk : k = n - d := by omega
  refine ⟨fun z => ∃ t : Nat, z = t ∧ t ≤ n ∧ ∀ j, j < t → vo x j = 0, fun z => (n - z).toNat, ⟨0, rfl, Nat.zero_le _, fun j hj => by omega⟩, ?_⟩; rintro _ ⟨t, rfl, ht, hz⟩; dsimp only; rw [gi_nat]; refine ⟨fun hlt => ⟨⟨by omega, by omega⟩, fun hne => ?_, fun heq => ⟨small (by omega) (by omega), ⟨t + 1, by push_cast; rfl, by omega, fun j hj => ?_⟩, by omega⟩⟩, fun hge => ?_⟩
  ·refine h false ⟨fun h' => absurd h' (by decide), fun hD => ?_⟩; rw [hv t (by omega)] at hne; by_cases hc2 : t + k < n
   ·rw [if_pos hc2, hkk, hD t (by omega)] at hne; exact absurd rfl hne
   ·rw [if_neg hc2] at hne; exact absurd rfl hne
  ·by_cases hjt : j = t
   ·subst hjt; omega
   ·exact hz j (by omega)
  ·refine h true ⟨fun _ j hj => ?_, fun _ => rfl⟩; have h1 := hz j (by omega); rw [hv j (by omega), if_pos (by omega), hkk] at h1; exact h1
theorem dgi_vo {p d w : Nat} (hw : w < p ^ d) : vo (dgi p d w) = dv p w := by
 funext i; rcases Nat.lt_or_ge i d with h | h
 ·exact dgi_at h
 ·rw [vo_hi (by rw [dgi_len]; exact h), dv_hi hw h]
theorem dgi_cn {p d w : Nat} (hp : 0 < p) (hw : w < p ^ d) (n : Nat) : Cn p n (vo (dgi p d w)) := by rw [dgi_vo hw]; exact dv_cn hp w n
theorem v_isIrr {p m : Nat} {mf : List Int} {Q : Bool → Prop} (hp : 2 ≤ p) (hp2 : p ≤ 256) (hm : mf.length = m) (hq : p ^ m ≤ 256) (hc : Cn p m (vo mf))
  (h : ∀ b : Bool, (b = true ↔ Irr p m (vo mf)) → Q b) : V_isIrreducible p m mf Q := by
 have hm9 : m ≤ 8 := by
  rcases Nat.lt_or_ge 8 m with h1 | h1
  ·have e1 : 2 ^ 9 ≤ p ^ 9 := Nat.pow_le_pow_left (by omega) 9; have e2 := pow_mono (p := p) (by omega) (show 9 ≤ m by omega); omega
  ·exact h1
 refine v_clone (by omega) ⟨by omega, ?_⟩; have hlen : (mf ++ [(1 : Int)]).length = m + 1 := by simp [hm]
 have hcs : Cn p (m + 1) (vo (mf ++ [(1 : Int)])) := by have := snoc_cn hp (o := mf) (by rw [hm]; exact hc); rwa [hm] at this
 have hpd : ∀ d, 2 * d ≤ m → p ^ d ≤ 256 := fun d hd => Nat.le_trans (pow_mono (by omega) (by omega)) hq; refine ⟨fun a b => ∃ d : Nat, a = d ∧ 1 ≤ d ∧ 2 * (d - 1) ≤ m ∧ b = ((p ^ d : Nat) : Int) ∧ p ^ d ≤ 65536 ∧ ∀ e, 0 < e → e < d → 2 * e ≤ m → ∀ w, w < p ^ e → ¬ Dvd p e (dv p w) (fun i => if i = m then 1 else vo mf i) (m + 1), fun a b => (20 - a).toNat, ⟨1, rfl, by omega, by omega, by simp, by simp; omega, fun e h1 h2 => by omega⟩, ?_⟩; rintro _ _ ⟨d, rfl, hd1, hd2, rfl, hdp, hnd⟩; dsimp only; refine ⟨small (by omega) (by omega), fun hle => ?_, fun hgt => ?_⟩
 ·have hpd' := hpd d (by omega); refine ⟨fun z => ∃ w : Nat, z = w ∧ w ≤ p ^ d ∧ ∀ u, u < w → ¬ Dvd p d (dv p u) (fun i => if i = m then 1 else vo mf i) (m + 1), fun z => ((p ^ d : Nat) - z).toNat, ⟨0, rfl, Nat.zero_le _, fun u hu => by omega⟩, ?_⟩; rintro _ ⟨w, rfl, hw, hnw⟩; dsimp only; refine ⟨fun hlt => ?_, fun hge => ?_⟩
  ·have hw2 : w < p ^ d := by omega
   refine ⟨_, v_digits (by omega) (by omega) (by omega) rfl, ?_⟩; have hdl := dgi_len p d w; refine (?_ : ∃ r : Bool, V_divides p (dgi p d w) (mf ++ [(1 : Int)]) (fun q => q = r) ∧ _); by_cases hD : Dvd p d (dv p w) (fun i => if i = m then 1 else vo mf i) (m + 1)
   ·refine ⟨true, v_divides (by omega) hp2 (by rw [hdl]; exact dgi_cn (by omega) hw2 d) (by rw [hlen]; exact hcs) (by omega) (by omega) (by omega) fun b hb => ?_, fun _ => ?_, fun h' => absurd h' (by decide)⟩
    ·rw [hdl, hlen, dgi_vo hw2, vo_snoc, hm] at hb; exact hb.2 hD
    ·exact h false ⟨fun h' => absurd h' (by decide), fun hI => absurd hD (hI d (by omega) (by omega) w hw2)⟩
   ·refine ⟨false, v_divides (by omega) hp2 (by rw [hdl]; exact dgi_cn (by omega) hw2 d) (by rw [hlen]; exact hcs) (by omega) (by omega) (by omega) fun b hb => ?_, fun h' => absurd h' (by decide), fun _ => ?_⟩
    ·rw [hdl, hlen, dgi_vo hw2, vo_snoc, hm] at hb; cases b with
     | false => rfl
     | true => exact absurd (hb.1 rfl) hD
    ·refine ⟨small (by omega) (by omega), ⟨w + 1, by push_cast; rfl, by omega, fun u hu => ?_⟩, by omega⟩; by_cases huw : u = w
     ·subst huw; exact hD
     ·exact hnw u (by omega)
  ·have e1 : ((p ^ d : Nat) : Int) * (p : Int) = ((p ^ (d + 1) : Nat) : Int) := by rw [Nat.pow_succ]; push_cast; rfl
   have hb2 : p ^ (d + 1) ≤ 65536 := by
    rw [Nat.pow_succ]; have := Nat.mul_le_mul hpd' hp2; omega
   rw [e1]; refine ⟨small (by omega) (by omega), smallN (by omega), ⟨d + 1, by push_cast; rfl, by omega, by omega, rfl, hb2, fun e he0 he h2 u hu => ?_⟩, by omega⟩; by_cases hed : e = d
   ·subst hed; exact hnw u (by omega)
   ·exact hnd e he0 (by omega) h2 u hu
 ·exact h true ⟨fun _ e he0 h2 u hu => hnd e he0 (by omega) h2 u hu, fun _ => rfl⟩
theorem v_rirr {p m : Nat} {mf : List Int} {Q : Bool → Prop} (hp : 2 ≤ p) (hp2 : p ≤ 256) (hm : mf.length = m) (hq : p ^ m ≤ 256) (hc : Cn p m (vo mf))
  (h : ∀ b : Bool, (b = true ↔ Irr p m (vo mf)) → Q b) : V_rirr mf p Q := by
 have hm9 : m ≤ 8 := by
  rcases Nat.lt_or_ge 8 m with h1 | h1
  ·have e1 : 2 ^ 9 ≤ p ^ 9 := Nat.pow_le_pow_left (by omega) 9; have e2 := pow_mono (p := p) (by omega) (show 9 ≤ m by omega); omega
  ·exact h1
 unfold V_rirr; rw [hm]; have hpd : ∀ d, 2 * d ≤ m → p ^ d ≤ 256 := fun d hd => Nat.le_trans (pow_mono (by omega) (by omega)) hq; refine ⟨fun b a => ∃ d : Nat, a = d + 1 ∧ 2 * d ≤ m ∧ b = ((p ^ d : Nat) : Int) ∧ ∀ e, 0 < e → e ≤ d → 2 * e ≤ m → ∀ w, w < p ^ e → ¬ Dvd p e (dv p w) (fun i => if i = m then 1 else vo mf i) (m + 1), fun b a => (20 - a).toNat, ⟨0, rfl, by omega, by simp, fun e h1 h2 => by omega⟩, ?_⟩; rintro _ _ ⟨d, rfl, hd2, rfl, hnd⟩; dsimp only; have hpd' := hpd d hd2; refine ⟨small (by omega) (by omega), fun hle => ?_, fun hgt => ?_⟩
 ·have e1 : ((p ^ d : Nat) : Int) * (p : Int) = ((p ^ (d + 1) : Nat) : Int) := by rw [Nat.pow_succ]; push_cast; rfl
  have hpd2 := hpd (d + 1) (by omega); rw [e1]; refine ⟨smallN (by omega), ?_⟩; refine ⟨fun z => ∃ w : Nat, z = w ∧ w ≤ p ^ (d + 1) ∧ ∀ u, u < w → ¬ Dvd p (d + 1) (dv p u) (fun i => if i = m then 1 else vo mf i) (m + 1), fun z => ((p ^ (d + 1) : Nat) - z).toNat, ⟨0, rfl, Nat.zero_le _, fun u hu => by omega⟩, ?_⟩; rintro _ ⟨w, rfl, hw, hnw⟩; dsimp only; rw [show (d : Int) + 1 = ((d + 1 : Nat) : Int) by push_cast; rfl]; refine ⟨fun hlt => ?_, fun hge => ?_⟩
  ·have hw2 : w < p ^ (d + 1) := by omega
   have hdl := dgi_len p (d + 1) w; refine v_rdigits (by omega) (by omega) (by omega) (v_rdivides hp hp2 (by rw [hdl]; exact dgi_cn (by omega) hw2 _) (by rw [hm]; exact hc) (by omega) (by omega) (by omega) fun b hb => ?_); rw [hdl, hm, dgi_vo hw2] at hb; refine ⟨fun hb1 => ?_, fun hb0 => ?_⟩
   ·exact h false ⟨fun h' => absurd h' (by decide), fun hI => absurd (hb.1 hb1) (hI (d + 1) (by omega) (by omega) w hw2)⟩
   ·refine ⟨small (by omega) (by omega), ⟨w + 1, by push_cast; rfl, by omega, fun u hu => ?_⟩, by omega⟩; by_cases huw : u = w
    ·subst huw; intro hD; rw [hb.2 hD] at hb0; exact absurd hb0 (by decide)
    ·exact hnw u (by omega)
  ·refine ⟨small (by omega) (by omega), ⟨d + 1, rfl, by omega, rfl, fun e he0 he h2 u hu => ?_⟩, by omega⟩; by_cases hed : e = d + 1
   ·subst hed; exact hnw u (by omega)
   ·exact hnd e he0 (by omega) h2 u hu
 ·exact h true ⟨fun _ e he0 h2 u hu => hnd e he0 (by omega) h2 u hu, fun _ => rfl⟩
structure FV (P M : Int) (mf : List Int) (p m v : Nat) : Prop where
  eP : P = p
  eM : M = m
  pr : IsLf p p
  m0 : 0 < m
  q : p ^ m ≤ 256
  vlt : v < p ^ m
  m1 : m = 1 → mf = [] ∧ v = 0
  m2 : m ≠ 1 → mf = dgi p m v
  irr : Irr p m (dv p v)
def Valid (P M : Int) (mf : List Int) : Prop := ∃ p m v, FV P M mf p m v
open Classical in
noncomputable def ck (P M : Int) (mf : List Int) : Int := if Valid P M mf then 0 else 1
theorem ck_ok {P M : Int} {mf : List Int} (h : Valid P M mf) : ck P M mf = 0 := if_pos h
theorem ck_no {P M : Int} {mf : List Int} (h : ¬ Valid P M mf) : ck P M mf = 1 := if_neg h
theorem irr_one (p : Nat) (c : Vec) : Irr p 1 c := fun d h1 h2 => by omega
theorem valid_one {p : Nat} (hp : IsLf p p) (hq : p ≤ 256) : FV p ((1 : Nat) : Int) [] p 1 0 := ⟨rfl, rfl, hp, by omega, by simpa using hq, by have := hp.two; simp; omega, fun _ => ⟨rfl, rfl⟩, fun h => absurd rfl h, irr_one p _⟩
theorem cn_list {p m : Nat} {mf : List Int} (hp : 0 < p) (hl : mf.length = m) (hc : Cn p m (vo mf)) : nm p m (vo mf) < p ^ m ∧ mf = dgi p m (nm p m (vo mf)) ∧ vo mf = dv p (nm p m (vo mf)) := by
 have hlt := nm_lt (m := m) hp (vo mf); have he : mf = dgi p m (nm p m (vo mf)) := vo_ext (by rw [hl, dgi_len]) fun i hi => by
  have h1 := hc i (by omega); rw [dgi_at (by omega), dv_nm hp _ (by omega), Int.emod_eq_of_lt h1.1 h1.2]
 exact ⟨hlt, he, by have := congrArg vo he; rw [dgi_vo hlt] at this; exact this⟩
theorem FV.cn {P M : Int} {mf : List Int} {p m v : Nat} (h : FV P M mf p m v) (hm : m ≠ 1) : mf.length = m ∧ Cn p m (vo mf) ∧ Irr p m (vo mf) := by
 have := h.pr.two; rw [h.m2 hm]; exact ⟨dgi_len p m v, dgi_cn (by omega) h.vlt m, by rw [dgi_vo h.vlt]; exact h.irr⟩
theorem FV.vo {P M : Int} {mf : List Int} {p m v : Nat} (h : FV P M mf p m v) : Go.Proofs.Ytcmfjjbbcfddpaa.vo mf = dv p v := by
 by_cases hm : m = 1
 ·rw [(h.m1 hm).1, (h.m1 hm).2, dv_z]; rfl
 ·rw [h.m2 hm, dgi_vo h.vlt]
theorem v_check {P M : Int} {mf : List Int} {Q : Int → Prop} (h : Q (ck P M mf)) : V_check P M mf Q := by
 refine ⟨fun h1 => ?_, fun h1 => v_isPrime (by omega) fun b hb => ⟨fun hb0 => ?_, fun hb1 => ?_⟩⟩
 ·rw [ck_no] at h
  ·exact h
  ·rintro ⟨p, m, v, hV⟩; have e1 := pow_mono (p := p) (by have := hV.pr.two; omega) hV.m0; have := hV.q; have := hV.eP; rw [show p ^ (0 + 1) = p from Nat.pow_one p] at e1; omega
 ·rw [ck_no] at h
  ·exact h
  ·rintro ⟨p, m, v, hV⟩; have := hV.pr.two; have : b = true := hb.2 ⟨by rw [hV.eP]; omega, by rw [hV.eP]; exact hV.pr⟩; rw [this] at hb0; exact absurd hb0 (by decide)
 ·have hbt : b = true := by cases b <;> first | rfl | exact absurd hb1 (by decide)
  obtain ⟨hP2, hPr⟩ := hb.1 hbt; obtain ⟨p, rfl⟩ := Int.eq_ofNat_of_zero_le (show 0 ≤ P by omega); rw [Int.toNat_natCast] at hPr; refine ⟨fun h2 => ?_, fun h2 => v_order (by omega) (by omega) fun r hr1 hr2 => ⟨fun h3 => ?_, fun h3 => ?_⟩⟩
  ·rw [ck_no] at h
   ·exact h
   ·rintro ⟨p', m, v, hV⟩; have := hV.m0; have := hV.eM; omega
  ·rw [ck_no] at h
   ·exact h
   ·rintro ⟨p', m, v, hV⟩; have e1 := hV.eM; have e2 := hV.eP; have e3 := hV.q; have : p = p' := by omega
    subst this; rw [e1, Int.toNat_natCast] at hr1; have := hr1 e3; omega
  ·obtain ⟨m, rfl⟩ := Int.eq_ofNat_of_zero_le (show 0 ≤ M by omega); rw [Int.toNat_natCast] at hr1 hr2; have hq : p ^ m ≤ 256 := by
    rcases Nat.lt_or_ge 256 (p ^ m) with hc | hc
    ·exact absurd (hr2 hc) h3
    ·exact hc
   refine ⟨fun h4 => v_okIf ?_, fun h4 => ⟨fun h5 => ?_, fun h5 => ?_⟩⟩
   ·have hm1 : m = 1 := by omega
    subst hm1; by_cases hl : mf = []
    ·subst hl; rw [ck_ok ⟨_, _, _, valid_one hPr (by omega)⟩] at h
     simpa using h
    ·rw [ck_no] at h
     ·simpa [hl] using h
     ·rintro ⟨p', m, v, hV⟩; exact hl (hV.m1 (by have := hV.eM; omega)).1
   ·rw [ck_no] at h
    ·exact h
    ·rintro ⟨p', m', v, hV⟩; have e1 := hV.eM; have := (hV.cn (by omega)).1; omega
   ·have hlen : mf.length = m := by omega
    have hm8 : mf.length ≤ 1000000000 := by
     have := Nat.lt_two_pow_self (n := m); have e1 : 2 ^ m ≤ p ^ m := Nat.pow_le_pow_left (by omega) m; omega
    refine v_contains (f := fun x => if x < 0 then true else decide ((p : Int) ≤ x)) hm8 (fun x R hR => ⟨fun hx => by simpa [hx] using hR, fun hx => by simpa [hx] using hR⟩) ⟨fun hb6 => ?_, fun hb6 => ?_⟩
    ·rw [ck_no] at h
     ·exact h
     ·rintro ⟨p', m', v, hV⟩; have e1 := hV.eM; have e2 := hV.eP; have e3 : p = p' := by omega
      have e4 : m = m' := by omega
      subst e3; subst e4; obtain ⟨i, hi, hf⟩ := any_iff.1 hb6; have hcn := (hV.cn (by omega)).2.1 i (by omega); rw [if_neg (by omega)] at hf; have := of_decide_eq_true hf; omega
    ·have hcn : Cn p m (vo mf) := fun i hi => by
      have h6 : ¬ mf.any (fun x => if x < 0 then true else decide ((p : Int) ≤ x)) = true := by rw [hb6]; decide
      rw [any_iff] at h6; by_cases hx : vo mf i < 0
      ·exact absurd ⟨i, by omega, by rw [if_pos hx]⟩ h6
      ·by_cases hx2 : (p : Int) ≤ vo mf i
       ·exact absurd ⟨i, by omega, by rw [if_neg hx, decide_eq_true hx2]⟩ h6
       ·omega
     have hcl := cn_list (by omega) hlen hcn; refine v_isIrr (by omega) (by omega) hlen hq hcn fun b2 hb2 => v_okIf ?_; by_cases hI : Irr p m (vo mf)
     ·rw [hb2.2 hI, if_pos rfl]; rw [ck_ok ⟨p, m, nm p m (vo mf), rfl, rfl, hPr, by omega, hq, hcl.1, fun e => by omega, fun _ => hcl.2.1, by rw [← hcl.2.2]; exact hI⟩] at h; exact h
     ·rw [if_neg (fun e => hI (hb2.1 e))]; rw [ck_no] at h
      ·exact h
      ·rintro ⟨p', m', v, hV⟩; have e1 := hV.eM; have e2 := hV.eP; have e3 : p = p' := by omega
       have e4 : m = m' := by omega
       subst e3; subst e4; exact hI (hV.cn (by omega)).2.2
theorem v_rCheck {P M : Int} {mf : List Int} {Q : Int → Prop} (h : Q (ck P M mf)) : V_rCheck P M mf Q := by
 refine v_rOrder ⟨fun h0 => ?_, fun h0 => ?_⟩
 ·rw [ck_no] at h
  ·exact h
  ·rintro ⟨p, m, v, hV⟩; have h1 := hV.pr.two; have h2 := hV.m0; have h3 := hV.q; rw [hV.eP, hV.eM, ordR, if_pos ⟨by omega, by omega, by simpa using h3⟩] at h0; have h4 : 0 < p ^ m := Nat.pow_pos (by omega); simp only [Int.toNat_natCast] at h0; omega
 ·unfold ordR at h0; by_cases hc : 2 ≤ P ∧ 1 ≤ M ∧ P.toNat ^ M.toNat ≤ 256
  ·obtain ⟨h1, h2, hq⟩ := hc; obtain ⟨p, rfl⟩ := Int.eq_ofNat_of_zero_le (show 0 ≤ P by omega); obtain ⟨m, rfl⟩ := Int.eq_ofNat_of_zero_le (show 0 ≤ M by omega); simp only [Int.toNat_natCast] at hq; have hp256 : p ≤ 256 := by
    have := pow_mono (p := p) (by omega) (show 1 ≤ m by omega); rw [Nat.pow_one] at this; omega
   refine v_rprime (by omega) hp256 fun b hb => ⟨fun hb0 => ?_, fun hb1 => ?_⟩
   ·rw [ck_no] at h
    ·exact h
    ·rintro ⟨p', m', v, hV⟩; have e2 := hV.eP; have e3 : p = p' := by omega
     subst e3; rw [hb.2 hV.pr] at hb0; exact absurd hb0 (by decide)
   ·have hbt : b = true := by cases b <;> first | rfl | exact absurd hb1 (by decide)
    have hPr := hb.1 hbt; refine ⟨fun h4 => ⟨fun h5 => ?_, fun h5 => ?_⟩, fun h4 => ⟨fun h5 => ?_, fun h5 => ?_⟩⟩
    ·rw [ck_no] at h
     ·exact h
     ·rintro ⟨p', m', v, hV⟩; have e1 := hV.eM; have := (hV.m1 (by omega)).1; rw [this] at h5; exact h5 rfl
    ·have hm1 : m = 1 := by omega
     subst hm1; have hl : mf = [] := List.length_eq_zero_iff.1 (by omega); subst hl; rw [ck_ok ⟨_, _, _, valid_one hPr hp256⟩] at h; exact h
    ·rw [ck_no] at h
     ·exact h
     ·rintro ⟨p', m', v, hV⟩; have e1 := hV.eM; have := (hV.cn (by omega)).1; omega
    ·have hlen : mf.length = m := by omega
     refine ⟨fun z => ∃ k : Nat, z = k ∧ k ≤ m ∧ Cn p k (vo mf), fun z => (m - z).toNat, ⟨0, rfl, Nat.zero_le _, fun i hi => by omega⟩, ?_⟩; rintro _ ⟨k, rfl, hk, hcn⟩; dsimp only; rw [gi_nat]; have hno : ¬ (0 ≤ vo mf k ∧ vo mf k < p) → k < m → ¬ Valid p m mf := by
      rintro hbad hkm ⟨p', m', v, hV⟩; have e1 := hV.eM; have e2 := hV.eP; have e3 : p = p' := by omega
      have e4 : m = m' := by omega
      subst e3; subst e4; exact hbad ((hV.cn (by omega)).2.1 k hkm)
     have hm8 : m ≤ 1000000000 := by
      have := Nat.lt_two_pow_self (n := m); have e1 : 2 ^ m ≤ p ^ m := Nat.pow_le_pow_left (by omega) m; omega
     refine ⟨fun hlt => ⟨fun hneg => ⟨⟨by omega, by omega⟩, ?_⟩, fun hpos => ⟨⟨by omega, by omega⟩, ⟨by omega, by omega⟩, fun hbig => ?_, fun hsm => ⟨small (by omega) (by omega), ⟨k + 1, by push_cast; rfl, by omega, fun i hi => ?_⟩, by omega⟩⟩⟩, fun hge => ?_⟩
     ·rw [ck_no (hno (by omega) (by omega))] at h; exact h
     ·rw [ck_no (hno (by omega) (by omega))] at h; exact h
     ·by_cases hik : i = k
      ·subst hik; omega
      ·exact hcn i (by omega)
     ·have hkm : k = m := by omega
      subst hkm; have hcl := cn_list (by omega) hlen hcn; refine v_rirr (by omega) hp256 hlen hq hcn fun b2 hb2 => ⟨fun hb3 => ?_, fun hb3 => ?_⟩
      ·rw [ck_no] at h
       ·exact h
       ·rintro ⟨p', m', v, hV⟩; have e1 := hV.eM; have e2 := hV.eP; have e3 : p = p' := by omega
        have e4 : k = m' := by omega
        subst e3; subst e4; rw [hb2.2 (hV.cn (by omega)).2.2] at hb3; exact absurd hb3 (by decide)
      ·have hbt2 : b2 = true := by cases b2 <;> first | rfl | exact absurd hb3 (by decide)
       rw [ck_ok ⟨p, k, nm p k (vo mf), rfl, rfl, hPr, by omega, hq, hcl.1, fun e => by omega, fun _ => hcl.2.1, by rw [← hcl.2.2]; exact hb2.1 hbt2⟩] at h; exact h
  ·rw [if_neg hc] at h0; exact absurd rfl h0
end Go.Proofs.Ytcmfjjbbcfddpaa
set_option linter.unusedVariables false
set_option linter.unusedSimpArgs false
namespace Go.Proofs.Ytcmfjjbbcfddpaa
theorem can_list {p m : Nat} {r : List Int} {u : Vec} (hp : 0 < p) (hl : r.length = m) (hv : ∀ i, i < m → vo r i = u i % (p : Int)) : r = dgi p m (nm p m u) :=
  vo_ext (by rw [hl, dgi_len]) fun i hi => by rw [hv i (by omega), dgi_at (by omega), dv_nm hp _ (by omega)]
theorem vl_step (p i : Nat) (l : List Int) (n : Nat) (h : i < n) : vl p (i + 1) (fun t => vo l (n - (i + 1) + t)) = vo l (n - (i + 1)) + (p : Int) * vl p i (fun t => vo l (n - i + t)) := by
 show vo l (n - (i + 1) + 0) + (p : Int) * vl p i (fun t => vo l (n - (i + 1) + (t + 1))) = _; rw [Nat.add_zero]; have : (fun t => vo l (n - (i + 1) + (t + 1))) = fun t => vo l (n - i + t) := by
  funext t; rw [show n - (i + 1) + (t + 1) = n - i + t by omega]
 rw [this]
theorem vl_part {p : Nat} {l : List Int} {n i : Nat} (hp : 2 ≤ p) (hc : Cn p n (vo l)) (hq : p ^ n ≤ 256) (hi : i ≤ n) : 0 ≤ vl p i (fun t => vo l (n - i + t)) ∧ vl p i (fun t => vo l (n - i + t)) < 256 := by
 have h1 := vl_bd (p := p) (n := i) (v := fun t => vo l (n - i + t)) (by omega) (fun t ht => hc (n - i + t) (by omega)); have h2 := pow_mono (p := p) (by omega) hi; omega
theorem v_fromDigits {p : Nat} {l : List Int} {Q : Int → Prop} (hp : 2 ≤ p) (hp2 : p ≤ 256) (hc : Cn p l.length (vo l)) (hq : p ^ l.length ≤ 256) (h : Q (vl p l.length (vo l))) : V_fromDigits p l Q := by
 refine ⟨fun i z => i ≤ l.length ∧ z = vl p i (fun t => vo l (l.length - i + t)), ⟨Nat.zero_le _, rfl⟩, ?_, ?_⟩
 ·rintro i hi _ ⟨_, rfl⟩; have h1 := vl_part hp hc hq (i := i) (by omega); have h2 := vl_part hp hc hq (i := i + 1) (by omega); rw [vl_step p i l l.length hi] at h2; have h3 := bd_mul (a := vl p i (fun t => vo l (l.length - i + t))) (b := p) (p := 256) (by omega) ⟨h1.1, by omega⟩ ⟨by omega, by omega⟩; rw [show ((l.length - 1 - i : Nat) : Int) = ((l.length - (i + 1) : Nat) : Int) by omega, gi_nat]; refine ⟨small (by omega) (by omega), ?_, by omega, ?_⟩
  ·rw [Int.mul_comm, Int.add_comm]; exact small (by omega) (by omega)
  ·rw [vl_step p i l l.length hi, Int.mul_comm, Int.add_comm]
 ·rintro _ ⟨_, rfl⟩; have : (fun t => vo l (l.length - l.length + t)) = vo l := by funext t; rw [Nat.sub_self, Nat.zero_add]
  rw [this]; exact h
theorem v_rValue {p : Nat} {M : Int} {mf l : List Int} {Q : Int → Prop} (hp : 2 ≤ p) (hp2 : p ≤ 256) (hl : l.length ≤ 1000) (hc : Cn p l.length (vo l)) (hq : p ^ l.length ≤ 256) (h : Q (vl p l.length (vo l))) : V_rValue p M mf l Q := by
 refine ⟨small (by omega) (by omega), fun z j => ∃ i : Nat, j = (l.length : Int) - 1 - i ∧ i ≤ l.length ∧ z = vl p i (fun t => vo l (l.length - i + t)), fun z j => (j + 1).toNat, ⟨0, by omega, Nat.zero_le _, rfl⟩, ?_⟩; rintro _ _ ⟨i, rfl, hi, rfl⟩; dsimp only; refine ⟨fun hge => ?_, fun hlt => ?_⟩
 ·have h1 := vl_part hp hc hq (i := i) (by omega); have h2 := vl_part hp hc hq (i := i + 1) (by omega); rw [vl_step p i l l.length (by omega)] at h2; have h3 := bd_mul (a := vl p i (fun t => vo l (l.length - i + t))) (b := p) (p := 256) (by omega) ⟨h1.1, by omega⟩ ⟨by omega, by omega⟩; rw [show (l.length : Int) - 1 - i = ((l.length - (i + 1) : Nat) : Int) by omega, gi_nat]; refine ⟨small (by omega) (by omega), ⟨by omega, by omega⟩, ?_, small (by omega) (by omega), ⟨i + 1, by omega, by omega, ?_⟩, by omega⟩
  ·rw [Int.mul_comm, Int.add_comm]; exact small (by omega) (by omega)
  ·rw [vl_step p i l l.length (by omega), Int.mul_comm, Int.add_comm]
 ·have hil : i = l.length := by omega
  subst hil; have : (fun t => vo l (l.length - l.length + t)) = vo l := by funext t; rw [Nat.sub_self, Nat.zero_add]
  rw [this]; exact h
theorem vl_dgi {p m x : Nat} (hp : 0 < p) (hx : x < p ^ m) : vl p (dgi p m x).length (vo (dgi p m x)) = (x : Int) := by
 rw [dgi_len, dgi_vo hx, vl_dv hp hx]
namespace FV
variable {P M : Int} {mf : List Int} {p m v : Nat} (F : FV P M mf p m v)
include F
theorem p2 : 2 ≤ p := F.pr.two
theorem pq : p ≤ p ^ m := by
 have := pow_mono (p := p) (by have := F.pr.two; omega) F.m0
 rwa [show p ^ (0 + 1) = p from Nat.pow_one p] at this
theorem p256 : p ≤ 256 := Nat.le_trans F.pq F.q
theorem m8 : m ≤ 8 := by
 rcases Nat.lt_or_ge 8 m with h1 | h1
 ·have e1 : 2 ^ 9 ≤ p ^ 9 := Nat.pow_le_pow_left F.p2 9; have e2 := pow_mono (p := p) (by have := F.p2; omega) (show 9 ≤ m by omega); have := F.q; omega
 ·exact h1
theorem ring : CR (p ^ m) (fadd p m) (fmul p m (dv p v)) := CR.mk' _ F.p2 F.m0
theorem gen : ∃ g, Gn (p ^ m) (fmul p m (dv p v)) g := gen_ex F.pr F.m0 F.q F.vlt (fun h => (F.m1 h).2) F.irr
end FV
def sh (v : Vec) : Vec := fun i => if i = 0 then 0 else v (i - 1)
theorem tX_sh {m : Nat} {c v : Vec} {i : Nat} (hi : i < m) : tX m c v i = sh v i - c i * v (m - 1) := by simp only [tX, if_pos hi, sh]
theorem v_timesX {P M : Int} {mf : List Int} {p m v : Nat} (F : FV P M mf p m v) {x : Nat} {Q : List Int → Prop} (hx : x < p ^ m) (h : Q (dgi p m (nm p m (tX m (dv p v) (dv p x))))) : V_timesX P M mf (dgi p m x) Q := by
 have hp := F.p2; have hp2 := F.p256; have hm0 := F.m0; have hm8 := F.m8; rw [F.eP, F.eM]; have hlen := dgi_len p m x; have hcx := dv_cn (p := p) (by omega) x m; refine ⟨small (by omega) (by omega), ⟨by omega, by omega⟩, ⟨by omega, by omega⟩, ⟨by omega, by omega⟩, ?_⟩; generalize hA : (si ((dgi p m x).take ((1 : Int).toNat) ++ (dgi p m x).take (min (dgi p m x).length ((dgi p m x).length - ((1 : Int).toNat))) ++ (dgi p m x).drop ((1 : Int).toNat + (min (dgi p m x).length ((dgi p m x).length - ((1 : Int).toNat))))) (0 : Int) (0 : Int)) = A; have hAl : A.length = m := by
  rw [← hA]; show (List.set _ _ _).length = m; rw [List.length_set]; simp only [List.length_append, List.length_take, List.length_drop, hlen]; show min 1 m + min (min m (m - 1)) m + (m - (1 + min m (m - 1))) = m; omega
 have hAv : ∀ i, i < m → vo A i = sh (dv p x) i := fun i hi => by
  unfold sh; rw [← hA]; show vo (List.set _ 0 0) i = _; rw [vo_set]; by_cases h0 : i = 0
  ·subst h0; rw [if_pos ⟨rfl, by simp only [List.length_append, List.length_take, hlen]; show 0 < min 1 m + _ + _; omega⟩, if_pos rfl]
  ·rw [if_neg (fun h => h0 h.1.symm), if_neg h0]; have e1 : ((dgi p m x).take ((1 : Int).toNat)).length = 1 := by rw [List.length_take, hlen]; show min 1 m = 1; omega
   have e2 : (min (dgi p m x).length ((dgi p m x).length - ((1 : Int).toNat))) = m - 1 := by rw [hlen]; show min m (m - 1) = m - 1; omega
   rw [e2]; have e3 : ((dgi p m x).take (m - 1)).length = m - 1 := by rw [List.length_take, hlen]; omega
   unfold vo; rw [List.getD_eq_getElem?_getD, List.append_assoc, List.getElem?_append_right (by omega), e1, List.getElem?_append_left (by omega), List.getElem?_take, if_pos (by omega)]; have := dgi_at (p := p) (x := x) (i := i - 1) (n := m) (by omega); unfold vo at this; rw [List.getD_eq_getElem?_getD] at this; exact this
 rw [show (m : Int) - 1 = ((m - 1 : Nat) : Int) by omega, gi_nat, dgi_at (by omega)]; have hshift : ∀ i, i < m → 0 ≤ sh (dv p x) i ∧ sh (dv p x) i < p := fun i hi => by
  unfold sh; split
  ·omega
  ·exact hcx (i - 1) (by omega)
 refine ⟨fun h0 => ?_, fun h0 => ?_⟩
 ·rw [can_list (p := p) (u := tX m (dv p v) (dv p x)) (by omega) hAl fun i hi => ?_]
  ·exact h
  ·have := hshift i hi; rw [hAv i hi]; rw [tX_sh hi, h0, Int.mul_zero, Int.sub_zero, Int.emod_eq_of_lt this.1 this.2]
 ·have hml : mf.length ≤ m := by
   by_cases hm1 : m = 1
   ·rw [(F.m1 hm1).1]; simp
   ·rw [F.m2 hm1, dgi_len]; omega
  have hcv := dv_cn (p := p) (by omega) v m; have ht := hcx (m - 1) (by omega); refine ⟨fun l z => ∃ k : Nat, z = k ∧ k ≤ mf.length ∧ l.length = m ∧ ∀ i, i < m → vo l i = if i < k then tX m (dv p v) (dv p x) i % (p : Int) else vo A i, fun l z => (mf.length - z).toNat, ⟨0, rfl, Nat.zero_le _, hAl, fun i hi => by rw [if_neg (by omega)]⟩, ?_⟩; rintro l _ ⟨k, rfl, hk, hl, hv⟩; dsimp only; rw [gi_nat, gi_nat, si_nat, F.vo]; refine ⟨fun hlt => ?_, fun hge => ?_⟩
  ·have c1 := hcv k (by omega); have c2 := hshift k (by omega); have c3 := bd_mul (a := (p : Int) - dv p v k) (b := dv p x (m - 1)) hp2 ⟨by omega, by omega⟩ ⟨ht.1, by omega⟩; rw [hv k (by omega), if_neg (by omega), hAv k (by omega)]; refine ⟨⟨by omega, by omega⟩, ⟨by omega, by omega⟩, small (by omega) (by omega), small (by omega) (by omega), small (by omega) (by omega), by omega, ⟨by omega, by omega⟩, small (by omega) (by omega), ⟨k + 1, by push_cast; rfl, by omega, by rw [List.length_set, hl], fun i hi => ?_⟩, by omega⟩; rw [vo_set]; by_cases hki : k = i
   ·subst hki; rw [if_pos ⟨rfl, by omega⟩, if_pos (by omega), red_eq (by omega) c2.1 (by omega) ht.1, tX_sh hi]
   ·rw [if_neg (fun h => hki h.1), hv i hi]; by_cases hik : i < k
    ·rw [if_pos hik, if_pos (by omega)]
    ·rw [if_neg hik, if_neg (by omega)]
  ·rw [can_list (p := p) (u := tX m (dv p v) (dv p x)) (by omega) hl fun i hi => ?_]
   ·exact h
   ·rw [hv i hi]; by_cases hik : i < k
    ·rw [if_pos hik]
    ·rw [if_neg hik]; have hm1 : m = 1 := by
      by_cases hm1 : m = 1
      ·exact hm1
      ·rw [F.m2 hm1, dgi_len] at hge hk; omega
     have hi0 : i = 0 := by omega
     rw [hAv i hi, tX_sh hi, (F.m1 hm1).2, dv_z]; subst hi0; simp [sh, vz]
theorem hz_z {m : Nat} {c b y : Vec} {n : Nat} : ∀ {k : Nat}, k ≤ n → (∀ i, n - k ≤ i → i < n → b i = 0) → hz m c b y n k = vz
 | 0, _, _ => rfl
 | k + 1, hk, h => by
  show vadd (tX m c (hz m c b y n k)) (vsm (b (n - 1 - k)) y) = vz; rw [hz_z (k := k) (by omega) (fun i h1 h2 => h i (by omega) h2), h (n - 1 - k) (by omega) (by omega), tX_z]; funext i; simp [vadd, vsm, vz]
theorem hz_sup {m : Nat} {c b y : Vec} {n : Nat} (hy : Sup m y) : ∀ k, Sup m (hz m c b y n k)
 | 0 => Sup.z
 | k + 1 => Sup.add Sup.tX hy.sm
theorem rep_z (p m : Nat) : List.replicate m (0 : Int) = dgi p m 0 := vo_ext (by simp [dgi_len]) fun i hi => by
 rw [vo_rep, dgi_at (by simpa using hi), dv_z]; rfl
theorem nm_z {p m : Nat} (hp : 0 < p) : nm p m vz = 0 := by rw [← dv_z p, nm_dv hp (Nat.pow_pos hp)]
theorem v_product {P M : Int} {mf : List Int} {p m v : Nat} (F : FV P M mf p m v) {o : List Int} {x y : Nat} {Q : List Int → Prop} (ho : o.length = m) (hx : x < p ^ m) (hy : y < p ^ m) (h : Q (dgi p m (fmul p m (dv p v) x y))) : V_product P M mf o (dgi p m x) (dgi p m y) Q := by
 have hp := F.p2; have hp2 := F.p256; have hm0 := F.m0; have hm8 := F.m8; obtain rfl := F.eP; obtain rfl := F.eM; have hlx := dgi_len p m x; have hly := dgi_len p m y; have hcx := dv_cn (p := p) (by omega) x m; have hcy := dv_cn (p := p) (by omega) y m; refine ⟨small (by omega) (by omega), fun z => ∃ k : Nat, z = k ∧ k < m ∧ ∀ i, k < i → i < m → dv p y i = 0, ⟨fun z => ∃ k : Nat, z = k ∧ k < m ∧ ∀ i, k < i → i < m → dv p y i = 0, fun z => z.toNat, ⟨m - 1, by omega, by omega, fun i h1 h2 => by omega⟩, ?_⟩, ?_⟩
 ·rintro _ ⟨k, rfl, hk, hzz⟩; dsimp only; refine ⟨fun hlt => ⟨⟨by omega, by omega⟩, fun h0 => ⟨small (by omega) (by omega), ⟨k - 1, by omega, by omega, fun i h1 h2 => ?_⟩, by omega⟩, fun _ => ⟨k, rfl, hk, hzz⟩⟩, fun _ => ⟨k, rfl, hk, hzz⟩⟩; rw [gi_nat, dgi_at hk] at h0; by_cases hik : i = k
  ·subst hik; exact h0
  ·exact hzz i (by omega) h2
 ·rintro _ ⟨k0, rfl, hk0, hzz⟩; refine ⟨fun l z => ∃ k : Nat, z = (m : Int) - 1 - k ∧ k ≤ m ∧ l = dgi p m (nm p m (hz m (dv p v) (dv p y) (dv p x) m k)), fun l z => (z + 1).toNat, ⟨m - 1 - k0, by omega, by omega, ?_⟩, ?_⟩
  ·rw [hz_z (by omega) (fun i h1 h2 => hzz i (by omega) h2), nm_z (by omega), ho, rep_z p m]
  ·rintro _ _ ⟨k, rfl, hk, rfl⟩; dsimp only; refine ⟨fun hge => v_timesX F (nm_lt (by omega) _) ?_, fun hlt => ?_⟩
   ·have hs := hz_sup (c := dv p v) (b := dv p y) (n := m) (dv_sup hx) k; rw [nm_vcg (vcg.tX (vcg.refl _) (cg_nm (by omega) hs))]; generalize hT : tX m (dv p v) (hz m (dv p v) (dv p y) (dv p x) m k) = T; have hnT := nm_lt (p := p) (m := m) (by omega) T; refine ⟨fun l z => ∃ t : Nat, z = t ∧ t ≤ m ∧ l.length = m ∧ ∀ i, i < m → vo l i = if i < t then (T i + dv p y (m - 1 - k) * dv p x i) % (p : Int) else T i % (p : Int), fun l z => (m - z).toNat, ⟨0, rfl, Nat.zero_le _, dgi_len _ _ _, fun i hi => by rw [if_neg (by omega), dgi_at hi, dv_nm (by omega) _ hi]⟩, ?_⟩; rintro l _ ⟨t, rfl, ht, hl, hv⟩; dsimp only; rw [show (m : Int) - 1 - k = ((m - 1 - k : Nat) : Int) by omega, gi_nat, gi_nat, gi_nat, si_nat]; rw [hlx]; refine ⟨fun hlt => ?_, fun hge2 => ?_⟩
    ·rw [hv t (by omega), if_neg (by omega), dgi_at (by omega), dgi_at (by omega)]; have c1 := hcy (m - 1 - k) (by omega); have c2 := hcx t (by omega); have c3 := bd_mul (a := dv p y (m - 1 - k)) (b := dv p x t) hp2 ⟨c1.1, by omega⟩ ⟨c2.1, by omega⟩; have c4 : 0 ≤ T t % (p : Int) ∧ T t % (p : Int) < p := ⟨Int.emod_nonneg _ (by omega), Int.emod_lt_of_pos _ (by omega)⟩
     refine ⟨⟨by omega, by omega⟩, ⟨by omega, by omega⟩, ⟨by omega, by omega⟩, small (by omega) (by omega), small (by omega) (by omega), by omega, ⟨by omega, by omega⟩, small (by omega) (by omega), ⟨t + 1, by push_cast; rfl, by omega, by rw [List.length_set, hl], fun i hi => ?_⟩, by omega⟩; rw [vo_set]; by_cases hti : t = i
     ·subst hti; rw [if_pos ⟨rfl, by omega⟩, if_pos (by omega), Int.tmod_eq_emod_of_nonneg (by omega)]; exact add_cg (Int.emod_emod _ _) rfl
     ·rw [if_neg (fun h => hti h.1), hv i hi]; by_cases hit : i < t
      ·rw [if_pos hit, if_pos (by omega)]
      ·rw [if_neg hit, if_neg (by omega)]
    ·refine ⟨small (by omega) (by omega), ⟨k + 1, by omega, by omega, ?_⟩, by omega⟩; refine can_list (by omega) hl fun i hi => ?_; rw [hv i hi, if_pos (by omega)]; show _ = (vadd (tX m (dv p v) (hz m (dv p v) (dv p y) (dv p x) m k)) (vsm (dv p y (m - 1 - k)) (dv p x))) i % _; rw [hT]; rfl
   ·have hkm : k = m := by omega
    subst hkm; rw [hz_all]; exact h
def pwl (M : Nat → Nat → Nat) (x n : Nat) : List Int := (List.range n).map fun k => ((pw M x k : Nat) : Int)
theorem pwl_len (M : Nat → Nat → Nat) (x n : Nat) : (pwl M x n).length = n := by simp [pwl]
theorem pwl_at {M : Nat → Nat → Nat} {x n i : Nat} (h : i < n) : vo (pwl M x n) i = ((pw M x i : Nat) : Int) := by
 unfold vo pwl; rw [List.getD_eq_getElem?_getD, List.getElem?_map, List.getElem?_range h]; rfl
theorem pwl_succ (M : Nat → Nat → Nat) (x n : Nat) : pwl M x (n + 1) = pwl M x n ++ [((pw M x n : Nat) : Int)] := by simp [pwl, List.range_succ]
structure Od (M : Nat → Nat → Nat) (x n : Nat) : Prop where
  pos : 0 < n
  one : pw M x n = 1
  least : ∀ k, 0 < k → k < n → pw M x k ≠ 1
theorem v_powers {P M : Int} {mf : List Int} {p m v : Nat} (F : FV P M mf p m v) {x : Nat} {Q : List Int → Prop} (h0 : 0 < x) (hx : x < p ^ m)
  (h : ∀ n, Od (fmul p m (dv p v)) x n → n ≤ p ^ m - 1 → Q (pwl (fmul p m (dv p v)) x n)) : V_powers P M mf x Q := by
 have hp := F.p2; have hp2 := F.p256; have hm0 := F.m0; have hm8 := F.m8; have hq := F.q; have R := F.ring; obtain ⟨g, G⟩ := F.gen; have hone := G.xone R h0 hx; have hq2 := R.q2; obtain rfl := F.eP; obtain rfl := F.eM; refine v_order hp hp2 fun r hr _ => ?_; rw [Int.toNat_natCast] at hr; rw [hr hq]; refine ⟨⟨by omega, by omega, by omega⟩, by omega, _, v_digits (by omega) (by omega) (by omega) rfl, _, v_digits (by omega) (by omega) (by omega) rfl, ⟨by omega, by omega, by omega⟩, ?_⟩; refine ⟨fun l z a b => ∃ k : Nat, 0 < k ∧ k ≤ p ^ m - 1 ∧ l = pwl (fmul p m (dv p v)) x k ∧ z = ((pw (fmul p m (dv p v)) x k : Nat) : Int) ∧ a = dgi p m (pw (fmul p m (dv p v)) x k) ∧ b.length = m ∧ ∀ j, 0 < j → j < k → pw (fmul p m (dv p v)) x j ≠ 1, fun l z a b => 300 - l.length, ⟨1, by omega, by omega, rfl, by rw [R.pw_one hx], by rw [R.pw_one hx], by simp, fun j h1 h2 => by omega⟩, ?_⟩; rintro _ _ _ b ⟨k, hk0, hk, rfl, rfl, rfl, hb, hno⟩; dsimp only; refine ⟨fun hne => ?_, fun heq => ?_⟩
 ·have hkq : k < p ^ m - 1 := by
   rcases Nat.lt_or_ge k (p ^ m - 1) with hc | hc
   ·exact hc
   ·have : k = p ^ m - 1 := by omega
    rw [this, hone] at hne; exact absurd rfl hne
  rw [pwl_len]; refine ⟨by omega, ?_⟩; refine v_product F hb (R.pw_lt x k) hx ?_; have hlt := R.pw_lt x (k + 1); refine v_fromDigits hp hp2 (by rw [dgi_len]; exact dgi_cn (by omega) hlt _) (by rw [dgi_len]; exact hq) ?_; have hvd := vl_dgi (p := p) (m := m) (by omega) hlt; refine ⟨⟨k + 1, by omega, by omega, (pwl_succ _ _ _).symm, hvd, rfl, dgi_len _ _ _, fun j h1 h2 => ?_⟩, ?_⟩
  ·by_cases hjk : j = k
   ·subst hjk; intro e; rw [e] at hne; exact hne rfl
   ·exact hno j h1 (by omega)
  ·rw [List.length_append, pwl_len]; simp; omega
 ·refine h k ⟨hk0, ?_, hno⟩ hk; have : ((pw (fmul p m (dv p v)) x k : Nat) : Int) = 1 := by
   by_cases hc : ((pw (fmul p m (dv p v)) x k : Nat) : Int) = 1
   ·exact hc
   ·exact absurd hc heq
  omega
end Go.Proofs.Ytcmfjjbbcfddpaa
set_option linter.unusedVariables false
set_option linter.unusedSimpArgs false
namespace Go.Proofs.Ytcmfjjbbcfddpaa
theorem gb_nat (l : List Bool) (i : Nat) : gb l (i : Int) = l.getD i false := rfl
theorem sb_nat (l : List Bool) (i : Nat) (x : Bool) : sb l (i : Int) x = l.set i x := rfl
theorem getD_setb (l : List Bool) (i j : Nat) (x : Bool) : (l.set i x).getD j false = if i = j ∧ i < l.length then x else l.getD j false := by
 rw [List.getD_eq_getElem?_getD, List.getD_eq_getElem?_getD, List.getElem?_set]; by_cases h : i = j
 ·subst h; by_cases h2 : i < l.length
  ·simp [h2]
  ·simp [h2]
 ·simp [h]
theorem v_units {P M : Int} {mf : List Int} {p m v : Nat} (F : FV P M mf p m v) {Q : List Int → Prop}
  (h : ∀ g, Gn (p ^ m) (fmul p m (dv p v)) g → Q (pwl (fmul p m (dv p v)) g (p ^ m - 1))) : V_units ⟨P, M, mf, ((p ^ m : Nat) : Int), [], [], []⟩ Q := by
 have hq := F.q; have R := F.ring; have hq2 := R.q2; obtain ⟨g0, G0⟩ := F.gen; generalize hqq : p ^ m = q at *
 generalize hMM : fmul p m (dv p v) = Mu at *
 refine ⟨⟨by show (0 : Int) ≤ q; omega, by show (q : Int) * 1 ≤ _; omega, by show (q : Int) ≤ _; omega⟩, ⟨by omega, by show (0 : Int) < ((((q : Nat) : Int).toNat : Nat) : Int); omega⟩, ?_⟩; refine ⟨smallN (by omega), fun i x s => s.length = q ∧ s.getD 0 false = true ∧ (∀ j, j < i → ¬ Gn q Mu j) ∧ ∀ j, j < q → s.getD j false = true → ¬ Gn q Mu j, fun x s => ∃ g, Gn q Mu g ∧ x = pwl Mu g (q - 1), ?_, ?_, ?_, ?_⟩
 ·have h0 : ¬ Gn q Mu 0 := fun G => by
   have := G.one; rw [R.zero_pw (by omega)] at this; omega
  dsimp only; rw [show (0 : Int) = ((0 : Nat) : Int) from rfl, sb_nat]; refine ⟨by rw [List.length_set, List.length_replicate]; exact Int.toNat_natCast q, ?_, fun j hj => by omega, fun j hj hs => ?_⟩
  ·rw [getD_setb, if_pos ⟨rfl, by rw [List.length_replicate, Int.toNat_natCast]; omega⟩]
  ·rw [getD_setb] at hs; by_cases hj0 : 0 = j
   ·rw [← hj0]; exact h0
   ·rw [if_neg (fun h => hj0 h.1), List.getD_eq_getElem?_getD, List.getElem?_replicate] at hs; split at hs <;> exact absurd hs (by decide)
 ·rintro i hi x s ⟨hs, hs0, hno, hsn⟩; dsimp only at hi ⊢; rw [Int.toNat_natCast] at hi; rw [gb_nat]; refine ⟨⟨by omega, by rw [Int.toNat_natCast]; omega⟩, fun hb => ⟨hs, hs0, fun j hj => ?_, hsn⟩, fun hb => ?_⟩
  ·by_cases hji : j = i
   ·subst hji; exact hsn j hi hb
   ·exact hno j (by omega)
  ·have hi0 : 0 < i := by
    rcases Nat.eq_zero_or_pos i with h0 | h0
    ·subst h0; rw [hs0] at hb; exact absurd hb (by decide)
    ·exact h0
   refine v_powers F hi0 (by rw [hqq]; exact hi) fun n O hn => ?_; rw [hMM] at O ⊢; rw [hqq] at hn; rw [pwl_len]; refine ⟨small (by omega) (by omega), fun he => ?_, fun hne => ?_⟩
   ·have hnq : n = q - 1 := by omega
    subst hnq; exact ⟨i, ⟨hi, O.one, O.least⟩, rfl⟩
   ·have hnq : n < q - 1 := by omega
    have hnG : ∀ k, ¬ Gn q Mu (pw Mu i k) := fun k G => by
     have h1 : pw Mu (pw Mu i k) n = 1 := by rw [R.pw_pw hi, Nat.mul_comm, ← R.pw_pw hi, O.one, R.one_pw]
     exact G.no n O.pos hnq h1
    refine ⟨fun s' z => ∃ k : Nat, z = k ∧ k ≤ n ∧ s'.length = q ∧ s'.getD 0 false = true ∧ ∀ j, j < q → s'.getD j false = true → ¬ Gn q Mu j, fun s' z => (n - z).toNat, ⟨0, rfl, Nat.zero_le _, hs, hs0, hsn⟩, ?_⟩; rintro s' _ ⟨k, rfl, hk, hs', hs0', hsn'⟩; dsimp only; rw [gi_nat]; refine ⟨fun hlt => ?_, fun hge => ⟨hs', hs0', fun j hj => ?_, hsn'⟩⟩
    ·rw [pwl_at (by omega), sb_nat]; have hlt2 := R.pw_lt i k; refine ⟨⟨by omega, by omega⟩, ⟨by omega, by rw [Int.toNat_natCast]; omega⟩, small (by omega) (by omega), ⟨k + 1, by push_cast; rfl, by omega, by rw [List.length_set, hs'], ?_, fun j hj hj2 => ?_⟩, by omega⟩
     ·rw [getD_setb]; split
      ·rfl
      ·exact hs0'
     ·rw [getD_setb] at hj2; by_cases hjk : pw Mu i k = j
      ·rw [← hjk]; exact hnG k
      ·rw [if_neg (fun h => hjk h.1)] at hj2; exact hsn' j hj hj2
    ·by_cases hji : j = i
     ·subst hji; have := hnG 1
      rwa [R.pw_one hi] at this
     ·exact hno j (by omega)
 ·rintro x s ⟨hs, hs0, hno, hsn⟩; have := G0.lt; exact absurd G0 (hno g0 (by show g0 < ((q : Nat) : Int).toNat; rw [Int.toNat_natCast]; exact this))
 ·rintro x s ⟨g, G, rfl⟩; exact h g G
structure GFk (F : GFv) (p m v g : Nat) : Prop where
  fv : FV F.P F.M F.mod p m v
  q : F.q = ((p ^ m : Nat) : Int)
  G : Gn (p ^ m) (fmul p m (dv p v)) g
  el : F.exp.length = 2 * (p ^ m - 1)
  ev : ∀ k, k < 2 * (p ^ m - 1) → vo F.exp k = ((pw (fmul p m (dv p v)) g k : Nat) : Int)
  ll : F.log.length = p ^ m
  l0 : vo F.log 0 = -1
  lv : ∀ k, k < p ^ m - 1 → vo F.log (pw (fmul p m (dv p v)) g k) = (k : Int)
  al : F.above.length = p ^ m - 1
  av : ∀ k, k < p ^ m - 1 → vo F.above k = vo F.log (fadd p m (pw (fmul p m (dv p v)) g k) 1)
theorem succ_fadd {p m x : Nat} (hp : 2 ≤ p) (hm : 0 < m) (hx : x < p ^ m) : (if x % p = p - 1 then x - x % p else x + 1) = fadd p m x 1 := by
 have hmd := Nat.mod_add_div x p; have hlt := Nat.mod_lt x (show 0 < p by omega); obtain ⟨n, rfl⟩ : ∃ n, m = n + 1 := ⟨m - 1, by omega⟩
 have hxd : x / p < p ^ n := by rw [Nat.div_lt_iff_lt_mul (by omega), ← Nat.pow_succ]; exact hx
 generalize hA : x / p = a at *
 generalize hR : x % p = r at *
 have key : ∀ y s, y = s + p * a → s < p → s = (r + 1) % p → y = fadd p (n + 1) x 1 := fun y s hy hs hsr => by
  have hyd : y / p = a := by rw [hy, Nat.add_mul_div_left _ _ (by omega), Nat.div_eq_of_lt hs, Nat.zero_add]
  have hym : y % p = s := by rw [hy, Nat.add_mul_mod_self_left, Nat.mod_eq_of_lt hs]
  have hyl : y < p ^ (n + 1) := by
   have h1 : p * (a + 1) ≤ p * p ^ n := Nat.mul_le_mul_left p hxd; rw [Nat.pow_succ', hy]; rw [Nat.mul_add, Nat.mul_one] at h1; omega
  refine (nm_eq (by omega) hyl fun i hi => ?_).symm; cases i with
  | zero =>
   simp only [vadd]; rw [dv_zero, dv_zero, dv_zero, hym, hR, Nat.mod_eq_of_lt (show 1 < p by omega), hsr]; push_cast; rfl
  | succ i =>
   simp only [vadd]; rw [dv_succ, dv_succ, dv_succ, hyd, hA, Nat.div_eq_of_lt (show 1 < p by omega), dv_z]; simp only [vz]; rw [Int.add_zero, dv_mod]
 by_cases hc : r = p - 1
 ·rw [if_pos hc]; refine key (x - r) 0 (by omega) (by omega) ?_; rw [hc, show p - 1 + 1 = p by omega, Nat.mod_self]
 ·rw [if_neg hc]; exact key (x + 1) (r + 1) (by omega) (by omega) (Nat.mod_eq_of_lt (by omega)).symm
theorem vo_app {a b : List Int} {i : Nat} : vo (a ++ b) i = if i < a.length then vo a i else vo b (i - a.length) := by
 unfold vo; rw [List.getD_eq_getElem?_getD]; split
 ·rename_i h
  rw [List.getElem?_append_left h, List.getD_eq_getElem?_getD]
 ·rename_i h
  rw [List.getElem?_append_right (by omega), List.getD_eq_getElem?_getD]
theorem v_New {P M : Int} {mf : List Int} {Q : Option GFv × Int → Prop} (hno : ¬ Valid P M mf → Q (none, 1)) (h : ∀ (F : GFv) (p m v g : Nat), GFk F p m v g → F.P = P → F.M = M → F.mod = mf → Q (some F, 0)) : V_New P M mf Q := by
 refine v_check ?_; by_cases hV : Valid P M mf
 ·rw [ck_ok hV]; refine ⟨fun h1 => absurd rfl h1, fun _ => ?_⟩; obtain ⟨p, m, v, F⟩ := hV; obtain rfl := F.eP; obtain rfl := F.eM; have hp := F.p2; have hp2 := F.p256; have hm0 := F.m0; have hm8 := F.m8; have hq := F.q; have R := F.ring; have hq2 := R.q2; have hml : mf.length ≤ 1000000 := by
   by_cases hm1 : m = 1
   ·rw [(F.m1 hm1).1]; simp
   ·rw [F.m2 hm1, dgi_len]; omega
  have hJ : V_cloneF p m mf (fun q => match q with | (r27, r28, x29) => V_order p m mf (fun r34 => r27 = p ∧ r28 = m ∧ x29 = mf ∧ r34 = ((p ^ m : Nat) : Int))) := v_clone hml (v_order hp hp2 fun r hr _ => by
   rw [Int.toNat_natCast] at hr; exact ⟨rfl, rfl, rfl, hr hq⟩)
  refine ⟨fun a b c d => a = p ∧ b = m ∧ c = mf ∧ d = ((p ^ m : Nat) : Int), hJ, ?_⟩; rintro _ _ _ _ ⟨rfl, rfl, rfl, rfl⟩; refine v_units F fun g G => ?_; have hg := G.lt; generalize hqq : p ^ m = q at *
  generalize hMM : fmul p m (dv p v) = Mu at *
  rw [pwl_len]; have hql : (List.replicate ((q : Nat) : Int).toNat (0 : Int)).length = q := by rw [List.length_replicate, Int.toNat_natCast]
  rw [Int.toNat_natCast, Int.toNat_natCast]; rw [Int.toNat_natCast] at hql; refine ⟨⟨by omega, by omega, by omega⟩, ⟨by omega, by omega, by omega⟩, ⟨by omega, by omega⟩, ?_⟩; refine ⟨fun l z => ∃ k : Nat, z = k ∧ k ≤ q - 1 ∧ l.length = q ∧ vo l 0 = -1 ∧ ∀ t, t < k → vo l (pw Mu g t) = (t : Int), fun l z => (q - z).toNat, ⟨0, rfl, Nat.zero_le _, ?_, ?_, fun t ht => by omega⟩, ?_⟩
  ·rw [show (0 : Int) = ((0 : Nat) : Int) from rfl, si_nat, List.length_set]; exact hql
  ·rw [show si (List.replicate q (0 : Int)) 0 (-1) = (List.replicate q (0 : Int)).set 0 (-1) from rfl, vo_set, if_pos ⟨rfl, by rw [hql]; omega⟩]
  ·rintro l _ ⟨k, rfl, hk, hl, hl0, hlv⟩; dsimp only; rw [gi_nat]; refine ⟨fun hlt => ?_, fun hge => ?_⟩
   ·rw [pwl_at (by omega), si_nat]; have hlt2 := R.pw_lt g k; refine ⟨⟨by omega, by omega⟩, ⟨by omega, by omega⟩, small (by omega) (by omega), ⟨k + 1, by push_cast; rfl, by omega, by rw [List.length_set, hl], ?_, fun t ht => ?_⟩, by omega⟩
    ·rw [vo_set, if_neg (fun h => G.ne0 R k h.1)]; exact hl0
    ·rw [vo_set]; by_cases htk : t = k
     ·subst htk; rw [if_pos ⟨rfl, by rw [hl]; exact hlt2⟩]
     ·rw [if_neg (fun h => G.inj R (show t < k by omega) (by omega) h.1.symm)]; exact hlv t (by omega)
   ·have hkq : k = q - 1 := by omega
    subst hkq; refine ⟨⟨by omega, by omega, by omega⟩, fun a z => ∃ k : Nat, z = k ∧ k ≤ q - 1 ∧ a.length = q - 1 ∧ ∀ t, t < k → vo a t = vo l (fadd p m (pw Mu g t) 1), fun a z => (q - z).toNat, ⟨0, rfl, Nat.zero_le _, by simp, fun t ht => by omega⟩, ?_⟩; rintro a _ ⟨k, rfl, hk, hal, hav⟩; dsimp only; rw [gi_nat]; refine ⟨fun hlt => ?_, fun hge => ?_⟩
    ·rw [pwl_at (by omega)]; have hlt2 := R.pw_lt g k; have hsl := R.Al (pw Mu g k) 1; have hsf := succ_fadd hp hm0 (x := pw Mu g k) (by rw [hqq]; exact hlt2); refine ⟨⟨by omega, by omega⟩, _, v_successor hp hp2 (by omega) rfl, ?_⟩; rw [hsf, gi_nat, si_nat]; refine ⟨⟨by omega, by omega⟩, ⟨by omega, by omega⟩, small (by omega) (by omega), ⟨k + 1, by push_cast; rfl, by omega, by rw [List.length_set, hal], fun t ht => ?_⟩, by omega⟩; rw [vo_set]; by_cases htk : k = t
     ·subst htk; rw [if_pos ⟨rfl, by omega⟩]
     ·rw [if_neg (fun h => htk h.1)]; exact hav t (by omega)
    ·have hkq : k = q - 1 := by omega
     subst hkq; subst hMM; subst hqq; refine h _ p m v g ⟨F, rfl, G, ?_, fun k hk2 => ?_, hl, hl0, hlv, hal, hav⟩ rfl rfl rfl
     ·simp only [List.length_append, pwl_len]; omega
     ·show vo (pwl _ g _ ++ pwl _ g _) k = _; rw [vo_app, pwl_len]; by_cases hkl : k < p ^ m - 1
      ·rw [if_pos hkl, pwl_at hkl]
      ·rw [if_neg hkl, pwl_at (by omega)]; have := G.per R (k - (p ^ m - 1)) 1; rw [Nat.mul_one, show k - (p ^ m - 1) + (p ^ m - 1) = k by omega] at this; rw [this]
 ·rw [ck_no hV]; exact ⟨fun _ => hno hV, fun h1 => absurd (show (1 : Int) ≠ 0 by decide) h1⟩
end Go.Proofs.Ytcmfjjbbcfddpaa
set_option linter.unusedVariables false
set_option linter.unusedSimpArgs false
namespace Go.Proofs.Ytcmfjjbbcfddpaa
def inE (q : Nat) (x : Int) : Nat := if 0 ≤ x ∧ x < q then x.toNat else 0
theorem inE_lt {q : Nat} (hq : 0 < q) (x : Int) : inE q x < q := by unfold inE; split <;> omega
theorem inE_nat {q x : Nat} (h : x < q) : inE q (x : Int) = x := by unfold inE; rw [if_pos (by omega)]; rfl
section
variable {P M : Int} {mf : List Int} {p m v : Nat}
theorem FV.ord (F : FV P M mf p m v) : ordR P M = ((p ^ m : Nat) : Int) := by
 rw [F.eP, F.eM, ordR, if_pos]
 ·simp
 ·have := F.p2; have := F.m0; have := F.q; exact ⟨by omega, by omega, by simpa using this⟩
theorem FV.i64 (F : FV P M mf p m v) : I64 P := by
 have := F.p256; rw [F.eP]; exact small (by omega) (by omega)
theorem v_rIs (F : FV P M mf p m v) {x : Int} {Q : Bool → Prop} (h : Q (decide (0 ≤ x ∧ x < ((p ^ m : Nat) : Int)))) : V_rIs P M mf x Q := by
 refine ⟨fun h0 => v_rOrder ?_, fun h0 => ?_⟩
 ·rw [F.ord]; simpa [h0] using h
 ·simpa [h0] using h
theorem v_rIn (F : FV P M mf p m v) {x : Int} {Q : Int → Prop} (h : Q ((inE (p ^ m) x : Nat) : Int)) : V_rIn P M mf x Q := by
 refine v_rIs F ⟨fun hb => ?_, fun hb => ?_⟩
 ·have hb := of_decide_eq_true hb; unfold inE at h; rw [if_pos hb] at h
  rwa [Int.toNat_of_nonneg hb.1] at h
 ·have hb := of_decide_eq_false hb; unfold inE at h; rw [if_neg hb] at h; exact h
theorem v_rDigits (F : FV P M mf p m v) {x : Int} {Q : List Int → Prop} (h : Q (dgi p m (inE (p ^ m) x))) : V_rDigits P M mf x Q := by
 have hp := F.p2; have hq := F.q; have hm8 := F.m8; have hlt := inE_lt F.ring.pos x; refine ⟨_, v_rIn F rfl, _, ?_, h⟩; rw [F.eP, F.eM]; exact v_rdigits (by omega) (by omega) (by omega) rfl
theorem v_rVal (F : FV P M mf p m v) {l : List Int} {u : Vec} {Q : Int → Prop} (hl : l.length = m) (hv : ∀ i, i < m → vo l i = u i % (p : Int)) (h : Q ((nm p m u : Nat) : Int)) : V_rValue P M mf l Q := by
 have hp := F.p2; rw [can_list (by omega) hl hv, F.eP]; have hlt := nm_lt (p := p) (m := m) (by omega) u; refine v_rValue hp F.p256 (by rw [dgi_len]; have := F.m8; omega) (by rw [dgi_len]; exact dgi_cn (by omega) hlt _) (by rw [dgi_len]; exact F.q) ?_; rw [vl_dgi (by omega) hlt]; exact h
theorem v_rAdd (F : FV P M mf p m v) {x y : Int} {Q : Int → Prop} (h : Q ((fadd p m (inE (p ^ m) x) (inE (p ^ m) y) : Nat) : Int)) : V_rAdd P M mf x y Q := by
 have hp := F.p2; have hp2 := F.p256; have hm8 := F.m8; have hx := inE_lt F.ring.pos x; have hy := inE_lt F.ring.pos y; refine v_rDigits F (v_rDigits F ?_); generalize inE (p ^ m) x = a at *
 generalize inE (p ^ m) y = b at *
 have hla := dgi_len p m a; have hlb := dgi_len p m b; rw [hla]; refine ⟨fun l z => ∃ k : Nat, z = k ∧ k ≤ m ∧ l.length = m ∧ ∀ i, i < m → vo l i = if i < k then (vadd (dv p a) (dv p b)) i % (p : Int) else dv p a i, fun l z => (m - z).toNat, ⟨0, rfl, Nat.zero_le _, hla, fun i hi => by rw [if_neg (by omega), dgi_at hi]⟩, ?_⟩; rintro l _ ⟨k, rfl, hk, hl, hv⟩; dsimp only; rw [gi_nat, gi_nat, si_nat]; refine ⟨fun hlt => ?_, fun hge => v_rVal F hl (fun i hi => by rw [hv i hi, if_pos (by omega)]) h⟩; rw [hv k (by omega), if_neg (by omega), dgi_at (by omega)]; have c1 := dv_le (p := p) (by omega) a k; have c2 := dv_le (p := p) (by omega) b k; refine ⟨⟨by omega, by omega⟩, ⟨by omega, by omega⟩, small (by omega) (by omega), by rw [F.eP]; omega, ⟨by omega, by omega⟩, small (by omega) (by omega), ⟨k + 1, by push_cast; rfl, by omega, by rw [List.length_set, hl], fun i hi => ?_⟩, by omega⟩; rw [vo_set]; by_cases hki : k = i
 ·subst hki; rw [if_pos ⟨rfl, by omega⟩, if_pos (by omega), F.eP, Int.tmod_eq_emod_of_nonneg (by omega)]; rfl
 ·rw [if_neg (fun h => hki h.1), hv i hi]; by_cases hik : i < k
  ·rw [if_pos hik, if_pos (by omega)]
  ·rw [if_neg hik, if_neg (by omega)]
end
section
variable {P M : Int} {mf : List Int} {p m v : Nat}
end
end Go.Proofs.Ytcmfjjbbcfddpaa
set_option linter.unusedVariables false
set_option linter.unusedSimpArgs false
namespace Go.Proofs.Ytcmfjjbbcfddpaa
section
variable {F : GFv} {p m v g : Nat}
theorem v_Is {x : Int} {Q : Bool → Prop} (K : GFk F p m v g) (h : Q (decide (0 ≤ x ∧ x < ((p ^ m : Nat) : Int)))) : V_Is F x Q := by
 refine ⟨fun h0 => ?_, fun h0 => ?_⟩
 ·rw [K.q]; simpa [h0] using h
 ·simpa [h0] using h
theorem v_isUnit {x : Int} {Q : Bool → Prop} (K : GFk F p m v g) (h : Q (decide (inE (p ^ m) x ≠ 0))) : V_isUnit F x Q := by
 unfold inE at h; refine ⟨fun h0 => ?_, fun h0 => ?_⟩
 ·rw [K.q]; by_cases hx : x < ((p ^ m : Nat) : Int)
  ·rw [if_pos ⟨by omega, hx⟩] at h; rw [decide_eq_true hx]; rw [decide_eq_true (by omega)] at h; exact h
  ·rw [if_neg (by omega)] at h; rw [decide_eq_false hx]; exact h
 ·by_cases hx : 0 ≤ x ∧ x < ((p ^ m : Nat) : Int)
  ·rw [if_pos hx] at h; rw [decide_eq_false (by omega)] at h; exact h
  ·rw [if_neg hx] at h; exact h
theorem v_element {x : Int} {Q : Int → Prop} (K : GFk F p m v g) (h : Q ((inE (p ^ m) x : Nat) : Int)) : V_element F x Q := by
 refine v_Is K ⟨fun hb => ?_, fun hb => ?_⟩
 ·have hb := of_decide_eq_true hb; unfold inE at h; rw [if_pos hb, Int.toNat_of_nonneg hb.1] at h; exact h
 ·have hb := of_decide_eq_false hb; unfold inE at h; rw [if_neg hb] at h; exact h
theorem inE_cast {q : Nat} {x : Int} (h : inE q x ≠ 0) : x = ((inE q x : Nat) : Int) := by
 unfold inE at h ⊢; split
 ·rename_i hc; exact (Int.toNat_of_nonneg hc.1).symm
 ·rename_i hc; rw [if_neg hc] at h; exact absurd rfl h
theorem GFk.lg (K : GFk F p m v g) {x : Int} (h : inE (p ^ m) x ≠ 0) : ∃ a : Nat, a < p ^ m - 1 ∧ inE (p ^ m) x = pw (fmul p m (dv p v)) g a ∧ gi F.log x = (a : Int) ∧ (0 ≤ x ∧ x < (F.log.length : Nat)) := by
  have R := K.fv.ring
  have hlt := inE_lt R.pos x
  obtain ⟨a, ha, he⟩ := K.G.surj R (Nat.pos_of_ne_zero h) hlt
  have hx := inE_cast h
  refine ⟨a, ha, he.symm, ?_, ?_⟩
  · rw [hx, ← he, gi_nat, K.lv a ha]
  · rw [K.ll]; omega
theorem v_Mul {x y : Int} {Q : Int → Prop} (K : GFk F p m v g) (h : Q ((fmul p m (dv p v) (inE (p ^ m) x) (inE (p ^ m) y) : Nat) : Int)) : V_Mul F x y Q := by
 have R := K.fv.ring; have hq := K.fv.q; have hx := inE_lt R.pos x; have hy := inE_lt R.pos y; refine v_isUnit K ⟨fun hb => ?_, fun hb => v_isUnit K ⟨fun hb2 => ?_, fun hb2 => ?_⟩⟩
 ·have h0 : inE (p ^ m) x = 0 := by simpa using hb
  rw [h0, R.Z0 hy] at h; exact h
 ·have h0 : inE (p ^ m) y = 0 := by simpa using hb2
  rw [h0, R.M0 hx] at h; exact h
 ·obtain ⟨a, ha, ea, la, bx⟩ := K.lg (x := x) (by simpa using hb); obtain ⟨b, hb', eb, lb, by_⟩ := K.lg (x := y) (by simpa using hb2); rw [la, lb]; have hel := K.el; refine ⟨bx, by_, small (by omega) (by omega), ⟨by omega, by omega⟩, ?_⟩; rw [show (a : Int) + (b : Int) = ((a + b : Nat) : Int) by push_cast; rfl, gi_nat, K.ev _ (by omega), R.pw_add K.G.lt, ← ea, ← eb]; exact h
theorem mul_neg {p m : Nat} {c : Vec} {x : Nat} (hp : 2 ≤ p) (hm : 0 < m) (hx : x < p ^ m) : fmul p m c (p - 1) x = fneg p m x := by
 unfold fmul fneg; have hd : vcg p (dv p (p - 1)) (vsm (-1) e0) := fun i => by
  cases i with
  | zero =>
   rw [dv_zero, Nat.mod_eq_of_lt (by omega)]; show ((p - 1 : Nat) : Int) % p = (-1 * 1) % p; rw [show ((p - 1 : Nat) : Int) = -1 * 1 + p * 1 by omega, Int.add_mul_emod_self_left]
  | succ i =>
   rw [dv_succ, Nat.div_eq_of_lt (by omega), dv_z]; simp [vz, vsm, e0]
 rw [nm_vcg (vcg.mul (vcg.refl c) hd (vcg.refl _))]; have : vmul m c (vsm (-1) e0) (dv p x) = vsm (-1) (dv p x) := by
  show opr m c (dv p x) m (vsm (-1) e0) = _; rw [opr_sm, opr_self (dv_sup hx)]
 rw [this]
theorem v_Neg {x : Int} {Q : Int → Prop} (K : GFk F p m v g) (h : Q ((fneg p m (inE (p ^ m) x) : Nat) : Int)) : V_Neg F x Q := by
 have hp := K.fv.p2; have hpq := K.fv.pq; have h256 := K.fv.p256; have R := K.fv.ring; unfold V_Neg; rw [K.fv.eP]; refine ⟨small (by omega) (by omega), v_Mul K ?_⟩; rw [show (p : Int) - 1 = ((p - 1 : Nat) : Int) by omega, inE_nat (by omega), mul_neg hp K.fv.m0 (inE_lt R.pos x)]; exact h
theorem xor_fadd {m x y : Nat} (hx : x < 2 ^ m) (hy : y < 2 ^ m) : x ^^^ y = fadd 2 m x y := by
 refine (nm_eq (by decide) (Nat.xor_lt_two_pow hx hy) fun i hi => ?_).symm; have h := Nat.testBit_xor x y i; rw [Nat.testBit_eq_decide_div_mod_eq, Nat.testBit_eq_decide_div_mod_eq, Nat.testBit_eq_decide_div_mod_eq] at h; simp only [dv, vadd]; have h1 := Nat.mod_two_eq_zero_or_one (x / 2 ^ i); have h2 := Nat.mod_two_eq_zero_or_one (y / 2 ^ i); have h3 := Nat.mod_two_eq_zero_or_one ((x ^^^ y) / 2 ^ i); rcases h1 with h1 | h1 <;> rcases h2 with h2 | h2 <;> rcases h3 with h3 | h3 <;> rw [h1, h2, h3] at h <;> rw [h1, h2, h3] <;> first | rfl | exact absurd h (by decide)
theorem v_Add {x y : Int} {Q : Int → Prop} (K : GFk F p m v g) (h : Q ((fadd p m (inE (p ^ m) x) (inE (p ^ m) y) : Nat) : Int)) : V_Add F x y Q := by
 have R := K.fv.ring; have hq := K.fv.q; have hx := inE_lt R.pos x; have hy := inE_lt R.pos y; have hq2 := R.q2; refine v_element K (v_element K ⟨fun h2 => ⟨⟨by omega, by omega, by omega, by omega⟩, ?_⟩, fun h2 => ⟨fun h0 => ?_, fun h0 => ⟨fun h1 => ?_, fun h1 => ?_⟩⟩⟩)
 ·have hp2 : p = 2 := by have := K.fv.eP; omega
  subst hp2; rw [← xor_fadd hx hy] at h; exact h
 ·rw [show inE (p ^ m) x = 0 by omega, R.zA hy] at h; exact h
 ·rw [show inE (p ^ m) y = 0 by omega, R.Az hx] at h; exact h
 ·have hi : ∀ z : Nat, z < p ^ m → inE (p ^ m) (z : Int) = z := fun z hz => inE_nat hz; obtain ⟨a, ha, ea, la, bx⟩ := K.lg (x := ((inE (p ^ m) x : Nat) : Int)) (by rw [hi _ hx]; omega); obtain ⟨b, hb, eb, lb, by_⟩ := K.lg (x := ((inE (p ^ m) y : Nat) : Int)) (by rw [hi _ hy]; omega); rw [hi _ hx] at ea; rw [hi _ hy] at eb; rw [la, lb]; have hal := K.al; have hel := K.el; refine ⟨by_, bx, small (by omega) (by omega), fun z => ∃ d : Nat, z = d ∧ d < p ^ m - 1 ∧ pw (fmul p m (dv p v)) g (a + d) = pw (fmul p m (dv p v)) g b, ⟨fun hn => ?_, fun hn => ?_⟩, ?_⟩
  ·rw [K.q]; refine ⟨small (by omega) (by omega), small (by omega) (by omega), b + (p ^ m - 1) - a, by omega, by omega, ?_⟩; have := K.G.per R b 1; rw [Nat.mul_one] at this; rw [show a + (b + (p ^ m - 1) - a) = b + (p ^ m - 1) by omega]; exact this
  ·exact ⟨b - a, by omega, by omega, by rw [show a + (b - a) = b by omega]⟩
  ·rintro _ ⟨d, rfl, hd, hpd⟩; rw [gi_nat, K.av d hd]; have hgd := R.pw_lt g d; have hga := R.pw_lt g a
   -- x + y = x (g^d + 1)
   have hsum : fadd p m (inE (p ^ m) x) (inE (p ^ m) y) = fmul p m (dv p v) (pw (fmul p m (dv p v)) g a) (fadd p m (pw (fmul p m (dv p v)) g d) 1) := by
    rw [R.Md hga hgd R.one_lt, R.M1 hga, ← R.pw_add K.G.lt, hpd, ← ea, ← eb, R.Ac]
   rw [hsum] at h; have hsl := R.Al (pw (fmul p m (dv p v)) g d) 1; refine ⟨⟨by omega, by omega⟩, fun hm1 => ?_, fun hm1 => ?_⟩
   ·have hz : fadd p m (pw (fmul p m (dv p v)) g d) 1 = 0 := by
     rcases Nat.eq_zero_or_pos (fadd p m (pw (fmul p m (dv p v)) g d) 1) with h3 | h3
     ·exact h3
     ·obtain ⟨s, hs, hse⟩ := K.G.surj R h3 hsl; rw [← hse, K.lv s hs] at hm1; omega
    rw [hz, R.M0 hga] at h; exact h
   ·have hnz : 0 < fadd p m (pw (fmul p m (dv p v)) g d) 1 := by
     rcases Nat.eq_zero_or_pos (fadd p m (pw (fmul p m (dv p v)) g d) 1) with h3 | h3
     ·rw [h3, K.l0] at hm1; exact absurd rfl hm1
     ·exact h3
    obtain ⟨s, hs, hse⟩ := K.G.surj R hnz hsl; rw [← hse] at h ⊢; rw [K.lv s hs]; refine ⟨bx, small (by omega) (by omega), ⟨by omega, by omega⟩, ?_⟩; rw [show (a : Int) + (s : Int) = ((a + s : Nat) : Int) by push_cast; rfl, gi_nat, K.ev _ (by omega), R.pw_add K.G.lt]; exact h
theorem v_Sub {x y : Int} {Q : Int → Prop} (K : GFk F p m v g) (h : Q ((fadd p m (inE (p ^ m) x) (fneg p m (inE (p ^ m) y)) : Nat) : Int)) : V_Sub F x y Q := by
 refine v_Neg K (v_Add K ?_); rw [inE_nat (fneg_lt (by have := K.fv.p2; omega) _)]; exact h
theorem Od.uniq {M : Nat → Nat → Nat} {x n k : Nat} (h : Od M x n) (h' : Od M x k) : n = k := by
 rcases Nat.lt_trichotomy n k with h1 | h1 | h1
 ·exact absurd h.one (h'.least n h.pos h1)
 ·exact h1
 ·exact absurd h'.one (h.least k h'.pos h1)
end
end Go.Proofs.Ytcmfjjbbcfddpaa
set_option linter.unusedSimpArgs false
set_option linter.unusedVariables false
set_option maxRecDepth 4000
set_option maxHeartbeats 4000000
namespace Go.Proofs.Ytcmfjjbbcfddpaa
open Go.RowKit
end Go.Proofs.Ytcmfjjbbcfddpaa
set_option linter.unusedSimpArgs false
set_option linter.unusedVariables false
set_option maxRecDepth 4000
set_option maxHeartbeats 4000000
namespace Go.Proofs.Ytcmfjjbbcfddpaa
open Go.RowKit
def V_pairwise (op : Int → Int → (Int → Prop) → Prop) (a : List Int) (b : List Int) (Q : List Int × Int → Prop) : Prop :=
  ((((a.length : Nat) : Int) ≠ ((b.length : Nat) : Int)) → (Q (([] : List Int), (4 : Int)))) ∧ (¬ (((a.length : Nat) : Int) ≠ ((b.length : Nat) : Int)) → ((0 ≤ ((a.length : Nat) : Int) ∧ ((a.length : Nat) : Int) * 8 ≤ 281474976710656 ∧ ((a.length : Nat) : Int) ≤ 281474976710656) ∧ (∃ (I22 : List Int → Int → Prop) (μ23 : List Int → Int → Nat), I22 (List.replicate ((a.length : Nat) : Int).toNat (0 : Int)) (0 : Int) ∧ ∀ (x20 : List Int) (z21 : Int), (I22 x20 z21 → (((z21 < ((a.length : Nat) : Int)) → ((0 ≤ z21 ∧ z21 < (a.length : Nat)) ∧ ((0 ≤ z21 ∧ z21 < (b.length : Nat)) ∧ (op (gi a z21) (gi b z21) (fun z29 => (0 ≤ z21 ∧ z21 < (((a.length : Nat) : Int).toNat : Nat)) ∧ ((I64 (z21 + (1 : Int))) ∧ (I22 (si x20 z21 z29) (z21 + (1 : Int)) ∧ μ23 (si x20 z21 z29) (z21 + (1 : Int)) < μ23 x20 z21))))))) ∧ (¬ (z21 < ((a.length : Nat) : Int)) → (Q (x20, (0 : Int)))))))))
theorem ok_pairwise {w : World} {Q : List Int × Int → Prop} {op : Int → Int → (Int → Prop) → Prop} {a : List Int} {b : List Int} {cfop : Nat} {cgop : Func} {ccop : Code} {bsop csop : List Value} (hcfop : Try.prog.funcs[cfop]? = some cgop) (hcbop : cgop.body = some ccop) (hcnop : (cgop.name == "runtime.NumGoroutine") = false) (hclop : ∀ (wc : World) (xc yc : Int) (Qc : Int → Prop), w.grownBy wc none → op xc yc Qc → Calls Try.prog cfop (bsop ++ ([.int .i64 xc, .int .i64 yc] : List Value) ++ csop).toArray wc fun e w' => ∃ v Qr, e = .returned v ∧ wc.grownBy w' none ∧ Rows wc.heap.size none w' Qr ∧ News wc.heap.size Qr ∧ ∃ b : Int, v = .int .i64 b ∧ Qr = [] ∧ Qc b) {Ba : Nat} {Aa : Option Addr} {na ka : Nat} (ha : Rd Ba w 1 Aa na ka (is a)) {Bb : Nat} {Ab : Option Addr} {nb kb : Nat} (hb : Rd Bb w 1 Ab nb kb (is b)) (hv : V_pairwise op a b Q) :
   Calls Try.prog 57 #[.func (.func cfop) bsop.toArray csop.toArray, .slice Aa na ka, .slice Ab nb kb] w fun e w' => ∃ v Qr, e = .returned v ∧ w.grownBy w' none ∧ Rows w.heap.size none w' Qr ∧ News w.heap.size Qr ∧ ∃ (r0 : List Int) (r1 : Int) (Ar0 : Option Addr) (cr0 : Nat), v = .tuple #[.slice Ar0 r0.length cr0, .int .i64 r1] ∧ Qr = [.row 3 1 Ar0 r0.length cr0 (is r0)] ∧ Q (r0, r1) := by
 have hna := ha.ilen; subst hna; have hnb := hb.ilen; subst hnb; refine calls_swap <| calls_of_W (vs := [.func (.func cfop) bsop.toArray csop.toArray, .slice Aa a.length ka, .slice Ab b.length kb]) [6, 7] XF57 rfl rfl rfl rfl ?_; have hS := St.start w; unfold V_pairwise at hv; refine W.seq <| W.region <| WL.assign rfl rfl <| WL.assign rfl rfl <| WL.done <| W.seq <| W.seq <| W.region <| WL.move rfl rfl <| WL.len XU22 rfl rfl <| WL.move rfl rfl <| WL.len XU22 rfl rfl <| WL.neqD rfl rfl rfl <| WL.done <| W.cond2 rfl (fun c11 => ?_) (fun c11 => ?_)
 ·have hv := hv.1 (of_decide_eq_true c11); refine W.seq <| W.region <| WL.assign rfl rfl <| WL.assign rfl rfl <| WL.done <| W.ret ?_; have hS := hS.nil (e := 3) (z := 1); refine ⟨_, rfl, Fin.nil ?_⟩; exact ⟨_, hS.ext, (hS.pick [0] rfl).rows, News.of (hS.pick [0] rfl).rows rfl, ⟨([] : List Int), (4 : Int), none, 0, rfl, rfl, hv⟩⟩
 have hv := hv.2 (of_decide_eq_false c11); refine W.skip <| W.seq <| W.region <| WL.move rfl rfl <| WL.len XU22 rfl rfl ?_; obtain ⟨o12, hv⟩ := hv; refine SL.make (J := ((a.length : Nat) : Int)) hS XU22 XE3 rfl rfl o12 (made_is _) rfl ?_; intro A13 w14 hS; refine WL.assign rfl rfl <| WL.done <| W.seq <| W.seq <| W.region <| WL.move rfl rfl <| WL.len XU22 rfl rfl <| WL.move rfl rfl <| WL.done <| W.block ?_; obtain ⟨I22, μ23, hv, hk33⟩ := hv; refine W.loop (σ := List Int × Int) (fun q w1 => match q with | (x20, z21) => I22 x20 z21 ∧ St TT w none w1 [.row 3 1 A13 (((a.length : Nat) : Int).toNat) (((a.length : Nat) : Int).toNat) (is x20)]) (fun q => match q with | (x20, z21) => [(0, .func (.func cfop) bsop.toArray csop.toArray), (2, .slice Ab b.length kb), (6, .slice none 0 0), (7, .int .i64 (0 : Int)), (8, .slice A13 (((a.length : Nat) : Int).toNat) (((a.length : Nat) : Int).toNat)), (19, .slice Aa a.length ka), (20, .int .i64 ((a.length : Nat) : Int)), (21, .int .i64 z21)]) (fun q => match q with | (x20, z21) => μ23 x20 z21) (List.replicate ((a.length : Nat) : Int).toNat (0 : Int), (0 : Int)) ⟨hv, hS⟩ ⟨rfl, rfl, rfl, rfl, rfl, rfl, rfl, rfl, trivial⟩ ?_; rintro ⟨x20, z21⟩ w24 ⟨hv, hS⟩; have hv := hk33 x20 z21 hv; refine W.seq <| W.region <| WL.lssD rfl rfl rfl <| WL.done <| W.seq <| W.cond2 rfl (fun c25 => ?_) (fun c25 => ?_)
 ·have hv := hv.1 (of_decide_eq_true c25); refine W.skip <| W.seq <| W.block <| W.seq <| W.region <| WL.move rfl rfl ?_; obtain ⟨o26, hv⟩ := hv; refine SL.index XU22 XE3 (hS.ro ha) rfl rfl o26 rfl <| WL.load XU3 rfl rfl (Rd.gi (hS.ro ha) o26) rfl <| WL.assign rfl rfl <| WL.assign rfl rfl <| WL.done <| W.region <| WL.move rfl rfl <| WL.move rfl rfl <| WL.move rfl rfl <| WL.move rfl rfl <| WL.move rfl rfl <| WL.move rfl rfl ?_; obtain ⟨o27, hv⟩ := hv; refine SL.index XU22 XE3 (hS.ro hb) rfl rfl o27 rfl <| WL.load XU3 rfl rfl (Rd.gi (hS.ro hb) o27) rfl <| SL.callb (us := bsop) (vs := [.int .i64 (gi a z21), .int .i64 (gi b z21)]) (cs := csop) hS (hclop _ _ _ _ hS.ext hv) rfl hcfop hcbop hcnop rfl rfl ?_; rintro _ _ w28 ⟨z29, rfl, rfl, hv⟩ hGw28 hS
  change St _ _ _ _ [.row 3 1 A13 (((a.length : Nat) : Int).toNat) (((a.length : Nat) : Int).toNat) (is x20)] at hS
  obtain ⟨o30, hv⟩ := hv; refine SL.index XU22 XE3 (hS.rd (i := 0) rfl) rfl rfl o30 rfl <| SL.store (cs' := is (si x20 z21 z29)) 0 z21.toNat hS rfl XE3 rfl rfl rfl (is_lt (hS.rd (i := 0) rfl) o30) (is_set _ _ _) ?_; intro w31 hS; refine WL.done <| W.region ?_; obtain ⟨o32, hv⟩ := hv; refine WL.add (r := (z21 + (1 : Int))) rfl rfl (wr o32) rfl <| WL.move rfl rfl <| WL.done ?_; exact ⟨(si x20 z21 z29, (z21 + (1 : Int))), ⟨rfl, rfl, rfl, rfl, rfl, rfl, rfl, rfl, trivial⟩, hv.2, rfl, hv.1, hS⟩
 have hv := hv.2 (of_decide_eq_false c25); refine W.exit <| W.seq <| W.region <| WL.move rfl rfl <| WL.assign rfl rfl <| WL.assign rfl rfl <| WL.done <| W.ret ?_; have hm0 := (hS.rd (i := 0) rfl).ilen; have hS := hS.relen (i := 0) rfl hm0.symm; refine ⟨_, rfl, Fin.nil ?_⟩; exact ⟨_, hS.ext, (hS.pick [0] rfl).rows, News.of (hS.pick [0] rfl).rows rfl, ⟨x20, (0 : Int), A13, ((a.length : Nat) : Int).toNat, (by first | (rw [hm0]; done) | (rw [hm0]; rfl)), rfl, hv⟩⟩
def V_wAdd (Fg : GFv) (a : List Int) (b : List Int) (Q : List Int × Int → Prop) : Prop :=
  V_pairwise (fun xc yc Qc => V_Add Fg xc yc Qc) a b (fun q => match q with | (x12, r16) => Q (x12, r16))
theorem ok_wAdd {w : World} {Q : List Int × Int → Prop} {Fg : GFv} {a : List Int} {b : List Int} {ag : Addr} {Bg : Nat} (hgg : GFR Bg w ag Fg) {Ba : Nat} {Aa : Option Addr} {na ka : Nat} (ha : Rd Ba w 1 Aa na ka (is a)) {Bb : Nat} {Ab : Option Addr} {nb kb : Nat} (hb : Rd Bb w 1 Ab nb kb (is b)) (hv : V_wAdd Fg a b Q) :
  Calls Try.prog 27 #[.pointer (some ag), .slice Aa na ka, .slice Ab nb kb] w fun e w' => ∃ v Qr, e = .returned v ∧ w.grownBy w' none ∧ Rows w.heap.size none w' Qr ∧ News w.heap.size Qr ∧ ∃ (r0 : List Int) (r1 : Int) (Ar0 : Option Addr) (cr0 : Nat), v = .tuple #[.slice Ar0 r0.length cr0, .int .i64 r1] ∧ Qr = [.row 3 1 Ar0 r0.length cr0 (is r0)] ∧ Q (r0, r1) := by
 have hgg_ := hgg; obtain ⟨Ag_mod, kg_mod, Ag_exp, kg_exp, Ag_log, kg_log, Ag_above, kg_above, hg_c, hg_mod, hg_exp, hg_log, hg_above⟩ := hgg_; have hna := ha.ilen; subst hna; have hnb := hb.ilen; subst hnb; refine calls_swap <| calls_of_W (vs := [.pointer (some ag), .slice Aa a.length ka, .slice Ab b.length kb]) [6, 7] XF27 rfl rfl rfl rfl ?_; have hS := St.start w; unfold V_wAdd at hv; refine W.seq <| W.region <| WL.assign rfl rfl <| WL.assign rfl rfl <| WL.done <| W.seq <| W.region <| WL.move rfl rfl <| WL.makeFuncB (us := [.pointer (some ag)]) (vs := []) rfl rfl rfl <| WL.move rfl rfl <| WL.move rfl rfl <| SL.call hS (ok_pairwise (bsop := [.pointer (some ag)]) (csop := []) XF59 rfl XN59 (fun wc xc yc Qc hg hv => (show Calls Try.prog 59 #[.pointer (some ag), .int .i64 xc, .int .i64 yc] wc _ from ok_Add (GFR.ext (GFR.ext (GFR.norm hgg) hS.ext) hg) hv)) (hS.ro ha) (hS.ro hb) hv) XF57 rfl XN57 rfl rfl ?_; rintro _ _ w11 ⟨x12, r16, A13, k14, rfl, rfl, hv⟩ hGw11 hS; have hS := hS.n1; refine WL.extract rfl rfl rfl <| WL.extract rfl rfl rfl <| WL.assign rfl rfl <| WL.assign rfl rfl <| WL.done <| W.ret <| ⟨_, rfl, Fin.nil ?_⟩
 exact ⟨_, hS.ext, (hS.pick [0] rfl).rows, News.of (hS.pick [0] rfl).rows rfl, ⟨x12, r16, A13, k14, rfl, rfl, hv⟩⟩
def V_wSub (Fg : GFv) (a : List Int) (b : List Int) (Q : List Int × Int → Prop) : Prop :=
  V_pairwise (fun xc yc Qc => V_Sub Fg xc yc Qc) a b (fun q => match q with | (x12, r16) => Q (x12, r16))
theorem ok_wSub {w : World} {Q : List Int × Int → Prop} {Fg : GFv} {a : List Int} {b : List Int} {ag : Addr} {Bg : Nat} (hgg : GFR Bg w ag Fg) {Ba : Nat} {Aa : Option Addr} {na ka : Nat} (ha : Rd Ba w 1 Aa na ka (is a)) {Bb : Nat} {Ab : Option Addr} {nb kb : Nat} (hb : Rd Bb w 1 Ab nb kb (is b)) (hv : V_wSub Fg a b Q) :
  Calls Try.prog 26 #[.pointer (some ag), .slice Aa na ka, .slice Ab nb kb] w fun e w' => ∃ v Qr, e = .returned v ∧ w.grownBy w' none ∧ Rows w.heap.size none w' Qr ∧ News w.heap.size Qr ∧ ∃ (r0 : List Int) (r1 : Int) (Ar0 : Option Addr) (cr0 : Nat), v = .tuple #[.slice Ar0 r0.length cr0, .int .i64 r1] ∧ Qr = [.row 3 1 Ar0 r0.length cr0 (is r0)] ∧ Q (r0, r1) := by
 have hgg_ := hgg; obtain ⟨Ag_mod, kg_mod, Ag_exp, kg_exp, Ag_log, kg_log, Ag_above, kg_above, hg_c, hg_mod, hg_exp, hg_log, hg_above⟩ := hgg_; have hna := ha.ilen; subst hna; have hnb := hb.ilen; subst hnb; refine calls_swap <| calls_of_W (vs := [.pointer (some ag), .slice Aa a.length ka, .slice Ab b.length kb]) [6, 7] XF26 rfl rfl rfl rfl ?_; have hS := St.start w; unfold V_wSub at hv; refine W.seq <| W.region <| WL.assign rfl rfl <| WL.assign rfl rfl <| WL.done <| W.seq <| W.region <| WL.move rfl rfl <| WL.makeFuncB (us := [.pointer (some ag)]) (vs := []) rfl rfl rfl <| WL.move rfl rfl <| WL.move rfl rfl <| SL.call hS (ok_pairwise (bsop := [.pointer (some ag)]) (csop := []) XF58 rfl XN58 (fun wc xc yc Qc hg hv => (show Calls Try.prog 58 #[.pointer (some ag), .int .i64 xc, .int .i64 yc] wc _ from ok_Sub (GFR.ext (GFR.ext (GFR.norm hgg) hS.ext) hg) hv)) (hS.ro ha) (hS.ro hb) hv) XF57 rfl XN57 rfl rfl ?_; rintro _ _ w11 ⟨x12, r16, A13, k14, rfl, rfl, hv⟩ hGw11 hS; have hS := hS.n1; refine WL.extract rfl rfl rfl <| WL.extract rfl rfl rfl <| WL.assign rfl rfl <| WL.assign rfl rfl <| WL.done <| W.ret <| ⟨_, rfl, Fin.nil ?_⟩
 exact ⟨_, hS.ext, (hS.pick [0] rfl).rows, News.of (hS.pick [0] rfl).rows rfl, ⟨x12, r16, A13, k14, rfl, rfl, hv⟩⟩
end Go.Proofs.Ytcmfjjbbcfddpaa
set_option linter.unusedSimpArgs false
set_option linter.unusedVariables false
set_option maxRecDepth 4000
set_option maxHeartbeats 4000000
namespace Go.Proofs.Ytcmfjjbbcfddpaa
open Go.RowKit
end Go.Proofs.Ytcmfjjbbcfddpaa
set_option linter.unusedSimpArgs false
set_option linter.unusedVariables false
set_option maxRecDepth 4000
set_option maxHeartbeats 4000000
namespace Go.Proofs.Ytcmfjjbbcfddpaa
open Go.RowKit
def V_rClean (Pf : Int) (Mf : Int) (mf : List Int) (l : List Int) (Q : List Int → Prop) : Prop :=
  V_rOrder Pf Mf mf (fun r14 => (0 ≤ ((l.length : Nat) : Int) ∧ ((l.length : Nat) : Int) * 8 ≤ 281474976710656 ∧ ((l.length : Nat) : Int) ≤ 281474976710656) ∧ (∃ (I25 : List Int → Int → Prop) (μ26 : List Int → Int → Nat), I25 (List.replicate ((l.length : Nat) : Int).toNat (0 : Int)) (0 : Int) ∧ ∀ (x23 : List Int) (z24 : Int), (I25 x23 z24 → (((z24 < ((l.length : Nat) : Int)) → (∃ J31 : List Int → Bool → Prop, ((0 ≤ z24 ∧ z24 < (l.length : Nat)) ∧ ((((0 : Int) ≤ (gi l z24)) → ((0 ≤ z24 ∧ z24 < (l.length : Nat)) ∧ ((((gi l z24) < r14) → ((0 ≤ z24 ∧ z24 < (l.length : Nat)) ∧ ((0 ≤ z24 ∧ z24 < (((l.length : Nat) : Int).toNat : Nat)) ∧ (J31 (si x23 z24 (gi l z24)) (decide ((gi l z24) < r14)))))) ∧ (¬ ((gi l z24) < r14) → (J31 x23 (decide ((gi l z24) < r14))))))) ∧ (¬ ((0 : Int) ≤ (gi l z24)) → J31 x23 false))) ∧ ∀ (x29 : List Int) (b30 : Bool), (J31 x29 b30 → ((I64 (z24 + (1 : Int))) ∧ (I25 x29 (z24 + (1 : Int)) ∧ μ26 x29 (z24 + (1 : Int)) < μ26 x23 z24))))) ∧ (¬ (z24 < ((l.length : Nat) : Int)) → Q x23)))))
theorem ok_rClean {w : World} {Q : List Int → Prop} {Pf : Int} {Mf : Int} {mf : List Int} {l : List Int} {Bf : Nat} {Af : Option Addr} {nf kf : Nat} (hf : Rd Bf w 1 Af nf kf (is mf)) {Bl : Nat} {Al : Option Addr} {nl kl : Nat} (hl : Rd Bl w 1 Al nl kl (is l)) (hv : V_rClean Pf Mf mf l Q) :
   Calls Try.prog 20 #[.agg #[.int .i64 Pf, .int .i64 Mf, .slice Af nf kf], .slice Al nl kl] w fun e w' => ∃ v Qr, e = .returned v ∧ w.grownBy w' none ∧ Rows w.heap.size none w' Qr ∧ News w.heap.size Qr ∧ ∃ (r0 : List Int) (Ar0 : Option Addr) (cr0 : Nat), v = .slice Ar0 r0.length cr0 ∧ Qr = [.row 3 1 Ar0 r0.length cr0 (is r0)] ∧ Q r0 := by
 have hnf := hf.ilen; subst hnf; have hnl := hl.ilen; subst hnl; refine calls_swap <| calls_of_W (vs := [.agg #[.int .i64 Pf, .int .i64 Mf, .slice Af mf.length kf], .slice Al l.length kl]) [4] XF20 rfl rfl rfl rfl ?_; have hS := St.start w; unfold V_rClean at hv; refine W.seq <| W.region <| SL.box (z := 3) (cs := [.int .i64 Pf, .int .i64 Mf, .slice Af mf.length kf]) hS rfl rfl rfl rfl ?_; intro g11 w12 hS; refine WL.assign rfl rfl <| WL.done <| W.seq <| W.region <| WL.loadV (cs := [.int .i64 Pf, .int .i64 Mf, .slice Af mf.length kf]) XE24 XG24 rfl rfl (Own.vcells (hS.own (i := 0) rfl)) rfl <| SL.call hS (ok_rOrder (hS.ro hf) hv) XF42 rfl XN42 rfl rfl ?_; rintro _ _ w13 ⟨r14, rfl, rfl, hv⟩ hGw13 hS; have hS := hS.n0; refine WL.assign rfl rfl <| WL.done <| W.seq <| W.region <| WL.move rfl rfl <| WL.len XU22 rfl rfl ?_; obtain ⟨o15, hv⟩ := hv; refine SL.make (J := ((l.length : Nat) : Int)) hS XU22 XE3 rfl rfl o15 (made_is _) rfl ?_; intro A16 w17 hS; refine WL.assign rfl rfl <| WL.done <| W.seq <| W.seq <| W.region <| WL.assign rfl rfl <| WL.done <| W.block ?_; obtain ⟨I25, μ26, hv, hk42⟩ := hv; refine W.loop (σ := List Int × Int) (fun q w1 => match q with | (x23, z24) => I25 x23 z24 ∧ St TT w none w1 [.row 3 1 A16 (((l.length : Nat) : Int).toNat) (((l.length : Nat) : Int).toNat) (is x23), .row 24 3 (some ⟨g11, 0, none⟩) 1 1 [.int .i64 Pf, .int .i64 Mf, .slice Af mf.length kf]]) (fun q => match q with | (x23, z24) => [(1, .slice Al l.length kl), (4, .slice none 0 0), (5, .int .i64 r14), (6, .slice A16 (((l.length : Nat) : Int).toNat) (((l.length : Nat) : Int).toNat)), (7, .int .i64 z24)]) (fun q => match q with | (x23, z24) => μ26 x23 z24) (List.replicate ((l.length : Nat) : Int).toNat (0 : Int), (0 : Int)) ⟨hv, hS⟩ ⟨rfl, rfl, rfl, rfl, rfl, trivial⟩ ?_; rintro ⟨x23, z24⟩ w27 ⟨hv, hS⟩; have hv := hk42 x23 z24 hv; refine W.seq <| W.seq <| W.region <| WL.move rfl rfl <| WL.move rfl rfl <| WL.len XU22 rfl rfl <| WL.lssD rfl rfl rfl <| WL.done <| W.cond2 rfl (fun c28 => ?_) (fun c28 => ?_)
 ·have hv := hv.1 (of_decide_eq_true c28); refine W.skip <| W.seq ?_; obtain ⟨J31, hv, hk41⟩ := hv; refine W.cutN (σ := List Int × Bool) (fun q w1 => match q with | (x29, b30) => J31 x29 b30 ∧ St TT w none w1 [.row 3 1 A16 (((l.length : Nat) : Int).toNat) (((l.length : Nat) : Int).toNat) (is x29), .row 24 3 (some ⟨g11, 0, none⟩) 1 1 [.int .i64 Pf, .int .i64 Mf, .slice Af mf.length kf]]) (fun q => match q with | (x29, b30) => [(1, .slice Al l.length kl), (4, .slice none 0 0), (5, .int .i64 r14), (6, .slice A16 (((l.length : Nat) : Int).toNat) (((l.length : Nat) : Int).toNat)), (7, .int .i64 z24), (16, .bool (decide (z24 < ((l.length : Nat) : Int)))), (31, .bool b30)]) ?_ ?_
  ·refine W.block ?_; refine W.seq <| W.region <| WL.move rfl rfl <| WL.move rfl rfl ?_; obtain ⟨o32, hv⟩ := hv; refine SL.index XU22 XE3 (hS.ro hl) rfl rfl o32 rfl <| WL.load XU3 rfl rfl (Rd.gi (hS.ro hl) o32) rfl <| WL.geqD rfl rfl rfl <| WL.move rfl rfl ?_; by_cases g33 : (0 : Int) ≤ (gi l z24)
   ·have hv := hv.1 g33; rw [decide_eq_true g33]; refine WL.take rfl <| WL.move rfl rfl <| WL.take rfl <| WL.move rfl rfl <| WL.take rfl ?_; obtain ⟨o34, hv⟩ := hv; refine SL.index XU22 XE3 (hS.ro hl) rfl rfl o34 rfl <| WL.take rfl <| WL.load XU3 rfl rfl (Rd.gi (hS.ro hl) o34) rfl <| WL.take rfl <| WL.move rfl rfl <| WL.take rfl <| WL.lssD rfl rfl rfl <| WL.pick rfl rfl rfl <| WL.done <| W.cond2 rfl (fun c35 => ?_) (fun c35 => ?_)
    ·have hv := hv.1 (of_decide_eq_true c35); refine W.region <| WL.move rfl rfl <| WL.move rfl rfl <| WL.move rfl rfl <| WL.move rfl rfl ?_; obtain ⟨o36, hv⟩ := hv; refine SL.index XU22 XE3 (hS.ro hl) rfl rfl o36 rfl <| WL.load XU3 rfl rfl (Rd.gi (hS.ro hl) o36) rfl ?_; obtain ⟨o37, hv⟩ := hv; refine SL.index XU22 XE3 (hS.rd (i := 0) rfl) rfl rfl o37 rfl <| SL.store (cs' := is (si x23 z24 (gi l z24))) 0 z24.toNat hS rfl XE3 rfl rfl rfl (is_lt (hS.rd (i := 0) rfl) o37) (is_set _ _ _) ?_; intro w38 hS; refine WL.done ?_; exact ⟨(si x23 z24 (gi l z24), (decide ((gi l z24) < r14))), ⟨rfl, rfl, rfl, rfl, rfl, rfl, rfl, trivial⟩, rfl, hv, hS⟩
    have hv := hv.2 (of_decide_eq_false c35); refine W.skip ?_; exact ⟨(x23, (decide ((gi l z24) < r14))), ⟨rfl, rfl, rfl, rfl, rfl, rfl, rfl, trivial⟩, rfl, hv, hS⟩
   have hv := hv.2 g33; rw [decide_eq_false g33]; refine WL.pass rfl rfl rfl <| WL.pass rfl rfl rfl <| WL.pass rfl rfl rfl <| WL.pass rfl rfl rfl <| WL.pass rfl rfl rfl <| WL.pass rfl rfl rfl <| WL.pick rfl rfl rfl <| WL.done <| W.condF rfl <| W.skip ?_; exact ⟨(x23, false), ⟨rfl, rfl, rfl, rfl, rfl, rfl, rfl, trivial⟩, rfl, hv, hS⟩
  rintro ⟨x29, b30⟩ w39 ⟨hv, hS⟩; have hv := hk41 x29 b30 hv; refine W.region <| WL.move rfl rfl ?_; obtain ⟨o40, hv⟩ := hv; refine WL.add (r := (z24 + (1 : Int))) rfl rfl (wr o40) rfl <| WL.assign rfl rfl <| WL.done ?_; exact ⟨(x29, (z24 + (1 : Int))), ⟨rfl, rfl, rfl, rfl, rfl, trivial⟩, hv.2, rfl, hv.1, hS⟩
 have hv := hv.2 (of_decide_eq_false c28); refine W.exit <| W.seq <| W.region <| WL.move rfl rfl <| WL.assign rfl rfl <| WL.done <| W.ret ?_; have hm0 := (hS.rd (i := 0) rfl).ilen; have hS := hS.relen (i := 0) rfl hm0.symm; refine ⟨_, rfl, Fin.nil ?_⟩; exact ⟨_, hS.ext, (hS.pick [0] rfl).rows, News.of (hS.pick [0] rfl).rows rfl, ⟨x23, A16, ((l.length : Nat) : Int).toNat, (by first | (rw [hm0]; done) | (rw [hm0]; rfl)), rfl, hv⟩⟩
def V_rCompare (a : List Int) (b : List Int) (Q : Int → Prop) : Prop :=
  ∃ J11 : Prop, (∃ (I15 : Int → Prop) (μ16 : Int → Nat), I15 (0 : Int) ∧ ∀ (z14 : Int), (I15 z14 → (((z14 < ((a.length : Nat) : Int)) → (((z14 < ((b.length : Nat) : Int)) → ((0 ≤ z14 ∧ z14 < (a.length : Nat)) ∧ ((0 ≤ z14 ∧ z14 < (b.length : Nat)) ∧ ((((gi a z14) < (gi b z14)) → (Q (-1 : Int))) ∧ (¬ ((gi a z14) < (gi b z14)) → ((0 ≤ z14 ∧ z14 < (a.length : Nat)) ∧ ((0 ≤ z14 ∧ z14 < (b.length : Nat)) ∧ ((((gi b z14) < (gi a z14)) → (Q (1 : Int))) ∧ (¬ ((gi b z14) < (gi a z14)) → ((I64 (z14 + (1 : Int))) ∧ (I15 (z14 + (1 : Int)) ∧ μ16 (z14 + (1 : Int)) < μ16 z14))))))))))) ∧ (¬ (z14 < ((b.length : Nat) : Int)) → J11))) ∧ (¬ (z14 < ((a.length : Nat) : Int)) → J11)))) ∧ (J11 → (((((a.length : Nat) : Int) < ((b.length : Nat) : Int)) → (Q (-1 : Int))) ∧ (¬ (((a.length : Nat) : Int) < ((b.length : Nat) : Int)) → (((((b.length : Nat) : Int) < ((a.length : Nat) : Int)) → (Q (1 : Int))) ∧ (¬ (((b.length : Nat) : Int) < ((a.length : Nat) : Int)) → (Q (0 : Int)))))))
theorem ok_rCompare {w : World} {Q : Int → Prop} {a : List Int} {b : List Int} {Ba : Nat} {Aa : Option Addr} {na ka : Nat} (ha : Rd Ba w 1 Aa na ka (is a)) {Bb : Nat} {Ab : Option Addr} {nb kb : Nat} (hb : Rd Bb w 1 Ab nb kb (is b)) (hv : V_rCompare a b Q) :
   Calls Try.prog 34 #[.slice Aa na ka, .slice Ab nb kb] w fun e w' => ∃ v Qr, e = .returned v ∧ w.grownBy w' none ∧ Rows w.heap.size none w' Qr ∧ News w.heap.size Qr ∧ ∃ (r0 : Int), v = .int .i64 r0 ∧ Qr = [] ∧ Q r0 := by
 have hna := ha.ilen; subst hna; have hnb := hb.ilen; subst hnb; refine calls_swap <| calls_of_W (vs := [.slice Aa a.length ka, .slice Ab b.length kb]) [4] XF34 rfl rfl rfl rfl ?_; have hS := St.start w; unfold V_rCompare at hv; refine W.seq <| W.region <| WL.assign rfl rfl <| WL.done <| W.seq <| W.seq <| W.region <| WL.assign rfl rfl <| WL.done ?_; obtain ⟨J11, hv, hk51⟩ := hv; refine W.cutN (σ := Unit) (fun _ w1 => J11 ∧ St TT w none w1 []) (fun _ => [(0, .slice Aa a.length ka), (1, .slice Ab b.length kb), (4, .int .i64 (0 : Int))]) ?_ ?_
 ·refine W.block ?_; obtain ⟨I15, μ16, hv, hk47⟩ := hv; refine W.loop (σ := Int) (fun z14 w1 => I15 z14 ∧ St TT w none w1 []) (fun z14 => [(0, .slice Aa a.length ka), (1, .slice Ab b.length kb), (4, .int .i64 (0 : Int)), (5, .int .i64 z14)]) (fun z14 => μ16 z14) (0 : Int) ⟨hv, hS⟩ ⟨rfl, rfl, rfl, rfl, trivial⟩ ?_; rintro z14 w17 ⟨hv, hS⟩; have hv := hk47 z14 hv; refine W.seq <| W.seq <| W.region <| WL.move rfl rfl <| WL.move rfl rfl <| WL.len XU22 rfl rfl <| WL.lssD rfl rfl rfl <| WL.move rfl rfl ?_; by_cases g18 : z14 < ((a.length : Nat) : Int)
  ·have hv := hv.1 g18; rw [decide_eq_true g18]; refine WL.take rfl <| WL.move rfl rfl <| WL.take rfl <| WL.move rfl rfl <| WL.take rfl <| WL.len XU22 rfl rfl <| WL.take rfl <| WL.lssD rfl rfl rfl <| WL.pick rfl rfl rfl <| WL.done <| W.cond2 rfl (fun c19 => ?_) (fun c19 => ?_)
   ·have hv := hv.1 (of_decide_eq_true c19); refine W.skip <| W.seq <| W.block <| W.seq <| W.seq ?_; obtain ⟨o23, hv⟩ := hv; obtain ⟨o28, hv⟩ := hv; refine W.drawV 9 [⟨[], [0], true⟩, ⟨[], [5], true⟩, ⟨[0, 1], [], true⟩, ⟨[2], [], false⟩, ⟨[], [1], true⟩, ⟨[], [5], true⟩, ⟨[4, 5], [], true⟩, ⟨[6], [], false⟩, ⟨[3, 7], [], true⟩] [[(0, .slice Aa a.length ka)], [(5, .int .i64 z14)], [], [], [(1, .slice Ab b.length kb)], [(5, .int .i64 z14)], [], [], []] [(18, .slice Aa a.length ka), (19, .int .i64 z14), (20, .pointer (some ((adOf Aa).add z14.toNat))), (21, .int .i64 (gi a z14)), (22, .slice Ab b.length kb), (23, .int .i64 z14), (24, .pointer (some ((adOf Ab).add z14.toNat))), (25, .int .i64 (gi b z14)), (26, .bool (decide ((gi a z14) < (gi b z14))))] Try.mixed (by kernel_rfl) rfl rfl ?_ ?_
    ·refine ⟨⟨rfl, ⟨rfl, trivial⟩, fun _ _ _ => WL.move rfl rfl <| WL.done ⟨rfl, rfl⟩⟩, ⟨rfl, ⟨rfl, trivial⟩, fun _ _ _ => WL.move rfl rfl <| WL.done ⟨rfl, rfl⟩⟩, ⟨rfl, trivial, fun _ _ _ => SL.index XU22 XE3 (hS.ro ha) rfl rfl o23 rfl <| WL.done ⟨rfl, rfl⟩⟩, ⟨rfl, trivial, fun _ hE _ => have hS := hS.grow (hE rfl); WL.load XU3 rfl rfl (Rd.gi (hS.ro ha) o23) rfl <| WL.done ⟨rfl, ext_refl _⟩⟩, ⟨rfl, ⟨rfl, trivial⟩, fun _ _ _ => WL.move rfl rfl <| WL.done ⟨rfl, rfl⟩⟩, ⟨rfl, ⟨rfl, trivial⟩, fun _ _ _ => WL.move rfl rfl <| WL.done ⟨rfl, rfl⟩⟩, ⟨rfl, trivial, fun _ _ _ => SL.index XU22 XE3 (hS.ro hb) rfl rfl o28 rfl <| WL.done ⟨rfl, rfl⟩⟩, ⟨rfl, trivial, fun _ hE _ => have hS := hS.grow (hE rfl); WL.load XU3 rfl rfl (Rd.gi (hS.ro hb) o28) rfl <| WL.done ⟨rfl, ext_refl _⟩⟩, ⟨rfl, trivial, fun _ _ _ => WL.lssD rfl rfl rfl <| WL.done ⟨rfl, rfl⟩⟩, trivial⟩
    intro w31 hT; have hS := hS.grow hT; refine WA.done (by decide +kernel) <| W.cond2 rfl (fun c32 => ?_) (fun c32 => ?_)
    ·have hv := hv.1 (of_decide_eq_true c32); refine W.seq <| W.region <| WL.assign rfl rfl <| WL.done <| W.ret <| ⟨_, rfl, Fin.nil ?_⟩
     exact ⟨_, hS.ext, (hS.pick [] rfl).rows, News.of (hS.pick [] rfl).rows rfl, ⟨(-1 : Int), rfl, rfl, hv⟩⟩
    have hv := hv.2 (of_decide_eq_false c32); refine W.skip <| W.seq ?_; obtain ⟨o36, hv⟩ := hv; obtain ⟨o41, hv⟩ := hv; refine W.drawV 9 [⟨[], [0], true⟩, ⟨[], [5], true⟩, ⟨[0, 1], [], true⟩, ⟨[2], [], false⟩, ⟨[], [1], true⟩, ⟨[], [5], true⟩, ⟨[4, 5], [], true⟩, ⟨[6], [], false⟩, ⟨[3, 7], [], true⟩] [[(0, .slice Aa a.length ka)], [(5, .int .i64 z14)], [], [], [(1, .slice Ab b.length kb)], [(5, .int .i64 z14)], [], [], []] [(27, .slice Aa a.length ka), (28, .int .i64 z14), (29, .pointer (some ((adOf Aa).add z14.toNat))), (30, .int .i64 (gi a z14)), (31, .slice Ab b.length kb), (32, .int .i64 z14), (33, .pointer (some ((adOf Ab).add z14.toNat))), (34, .int .i64 (gi b z14)), (35, .bool (decide ((gi b z14) < (gi a z14))))] Try.mixed (by kernel_rfl) rfl rfl ?_ ?_
    ·refine ⟨⟨rfl, ⟨rfl, trivial⟩, fun _ _ _ => WL.move rfl rfl <| WL.done ⟨rfl, rfl⟩⟩, ⟨rfl, ⟨rfl, trivial⟩, fun _ _ _ => WL.move rfl rfl <| WL.done ⟨rfl, rfl⟩⟩, ⟨rfl, trivial, fun _ _ _ => SL.index XU22 XE3 (hS.ro ha) rfl rfl o36 rfl <| WL.done ⟨rfl, rfl⟩⟩, ⟨rfl, trivial, fun _ hE _ => have hS := hS.grow (hE rfl); WL.load XU3 rfl rfl (Rd.gi (hS.ro ha) o36) rfl <| WL.done ⟨rfl, ext_refl _⟩⟩, ⟨rfl, ⟨rfl, trivial⟩, fun _ _ _ => WL.move rfl rfl <| WL.done ⟨rfl, rfl⟩⟩, ⟨rfl, ⟨rfl, trivial⟩, fun _ _ _ => WL.move rfl rfl <| WL.done ⟨rfl, rfl⟩⟩, ⟨rfl, trivial, fun _ _ _ => SL.index XU22 XE3 (hS.ro hb) rfl rfl o41 rfl <| WL.done ⟨rfl, rfl⟩⟩, ⟨rfl, trivial, fun _ hE _ => have hS := hS.grow (hE rfl); WL.load XU3 rfl rfl (Rd.gi (hS.ro hb) o41) rfl <| WL.done ⟨rfl, ext_refl _⟩⟩, ⟨rfl, trivial, fun _ _ _ => WL.gtrD rfl rfl rfl <| WL.done ⟨rfl, rfl⟩⟩, trivial⟩
    intro w44 hT; have hS := hS.grow hT; refine WA.done (by decide +kernel) <| W.cond2 rfl (fun c45 => ?_) (fun c45 => ?_)
    ·have hv := hv.1 (of_decide_eq_true c45); refine W.seq <| W.region <| WL.assign rfl rfl <| WL.done <| W.ret <| ⟨_, rfl, Fin.nil ?_⟩
     exact ⟨_, hS.ext, (hS.pick [] rfl).rows, News.of (hS.pick [] rfl).rows rfl, ⟨(1 : Int), rfl, rfl, hv⟩⟩
    have hv := hv.2 (of_decide_eq_false c45); refine W.skip <| W.region <| WL.move rfl rfl ?_; obtain ⟨o46, hv⟩ := hv; refine WL.add (r := (z14 + (1 : Int))) rfl rfl (wr o46) rfl <| WL.assign rfl rfl <| WL.done ?_; exact ⟨(z14 + (1 : Int)), ⟨rfl, rfl, rfl, rfl, trivial⟩, hv.2, rfl, hv.1, hS⟩
   have hv := hv.2 (of_decide_eq_false c19); refine W.exit ?_; exact ⟨(), ⟨rfl, rfl, rfl, trivial⟩, rfl, hv, hS⟩
  have hv := hv.2 g18; rw [decide_eq_false g18]; refine WL.pass rfl rfl rfl <| WL.pass rfl rfl rfl <| WL.pass rfl rfl rfl <| WL.pass rfl rfl rfl <| WL.pick rfl rfl rfl <| WL.done <| W.condF rfl <| W.exit ?_; exact ⟨(), ⟨rfl, rfl, rfl, trivial⟩, rfl, hv, hS⟩
 rintro _ w48 ⟨hv, hS⟩; have hv := hk51  hv; refine W.seq <| W.seq <| W.region <| WL.move rfl rfl <| WL.len XU22 rfl rfl <| WL.move rfl rfl <| WL.len XU22 rfl rfl <| WL.lssD rfl rfl rfl <| WL.done <| W.cond2 rfl (fun c49 => ?_) (fun c49 => ?_)
 ·have hv := hv.1 (of_decide_eq_true c49); refine W.seq <| W.region <| WL.assign rfl rfl <| WL.done <| W.ret <| ⟨_, rfl, Fin.nil ?_⟩
  exact ⟨_, hS.ext, (hS.pick [] rfl).rows, News.of (hS.pick [] rfl).rows rfl, ⟨(-1 : Int), rfl, rfl, hv⟩⟩
 have hv := hv.2 (of_decide_eq_false c49); refine W.skip <| W.seq <| W.seq <| W.region <| WL.move rfl rfl <| WL.len XU22 rfl rfl <| WL.move rfl rfl <| WL.len XU22 rfl rfl <| WL.gtrD rfl rfl rfl <| WL.done <| W.cond2 rfl (fun c50 => ?_) (fun c50 => ?_)
 ·have hv := hv.1 (of_decide_eq_true c50); refine W.seq <| W.region <| WL.assign rfl rfl <| WL.done <| W.ret <| ⟨_, rfl, Fin.nil ?_⟩
  exact ⟨_, hS.ext, (hS.pick [] rfl).rows, News.of (hS.pick [] rfl).rows rfl, ⟨(1 : Int), rfl, rfl, hv⟩⟩
 have hv := hv.2 (of_decide_eq_false c50); refine W.skip <| W.seq <| W.region <| WL.assign rfl rfl <| WL.done <| W.ret <| ⟨_, rfl, Fin.nil ?_⟩
 exact ⟨_, hS.ext, (hS.pick [] rfl).rows, News.of (hS.pick [] rfl).rows rfl, ⟨(0 : Int), rfl, rfl, hv⟩⟩
def V_rwSame (a : List Int) (b : List Int) (Q : Bool → Prop) : Prop :=
  V_rCompare a b (fun r12 => Q (decide (r12 = (0 : Int))))
theorem ok_rwSame {w : World} {Q : Bool → Prop} {a : List Int} {b : List Int} {Ba : Nat} {Aa : Option Addr} {na ka : Nat} (ha : Rd Ba w 1 Aa na ka (is a)) {Bb : Nat} {Ab : Option Addr} {nb kb : Nat} (hb : Rd Bb w 1 Ab nb kb (is b)) (hv : V_rwSame a b Q) :
  Calls Try.prog 18 #[.slice Aa na ka, .slice Ab nb kb] w fun e w' => ∃ v Qr, e = .returned v ∧ w.grownBy w' none ∧ Rows w.heap.size none w' Qr ∧ News w.heap.size Qr ∧ ∃ (r0 : Bool), v = .bool r0 ∧ Qr = [] ∧ Q r0 := by
 have hna := ha.ilen; subst hna; have hnb := hb.ilen; subst hnb; refine calls_swap <| calls_of_W (vs := [.slice Aa a.length ka, .slice Ab b.length kb]) [4] XF18 rfl rfl rfl rfl ?_; have hS := St.start w; unfold V_rwSame at hv; refine W.seq <| W.region <| WL.assign rfl rfl <| WL.done <| W.seq <| W.region <| WL.move rfl rfl <| WL.move rfl rfl <| SL.call hS (ok_rCompare (hS.ro ha) (hS.ro hb) hv) XF34 rfl XN34 rfl rfl ?_; rintro _ _ w11 ⟨r12, rfl, rfl, hv⟩ hGw11 hS; have hS := hS.n0; refine WL.eqlD rfl rfl rfl <| WL.assign rfl rfl <| WL.done <| W.ret <| ⟨_, rfl, Fin.nil ?_⟩
 exact ⟨_, hS.ext, (hS.pick [] rfl).rows, News.of (hS.pick [] rfl).rows rfl, ⟨(decide (r12 = (0 : Int))), rfl, rfl, hv⟩⟩
end Go.Proofs.Ytcmfjjbbcfddpaa
set_option linter.unusedVariables false
set_option linter.unusedSimpArgs false
namespace Go.Proofs.Ytcmfjjbbcfddpaa
def LB : Nat := 17592186044416
def cl (q : Nat) (l : List Int) : List Int := l.map fun x => ((inE q x : Nat) : Int)
theorem cl_len (q : Nat) (l : List Int) : (cl q l).length = l.length := by simp [cl]
theorem vo_map {f : Int → Int} {l : List Int} {i : Nat} (h : i < l.length) : vo (l.map f) i = f (vo l i) := by
 unfold vo; rw [List.getD_eq_getElem?_getD, List.getD_eq_getElem?_getD, List.getElem?_map, List.getElem?_eq_getElem h]; rfl
theorem cl_at {q : Nat} {l : List Int} {i : Nat} (h : i < l.length) : vo (cl q l) i = ((inE q (vo l i) : Nat) : Int) := vo_map h
theorem inE_is {q : Nat} {x : Int} (h : 0 ≤ x ∧ x < (q : Int)) : ((inE q x : Nat) : Int) = x := by unfold inE; rw [if_pos h, Int.toNat_of_nonneg h.1]
theorem inE_not {q : Nat} {x : Int} (h : ¬ (0 ≤ x ∧ x < (q : Int))) : inE q x = 0 := by unfold inE; rw [if_neg h]
section
variable {P M : Int} {mf : List Int} {p m v : Nat}
theorem cl_step {q : Nat} {l x y : List Int} {k : Nat} (hk : k < l.length) (hx : x.length = l.length) (h : ∀ j, vo x j = if j < k then ((inE q (vo l j) : Nat) : Int) else 0)
    (hy : (0 ≤ vo l k ∧ vo l k < (q : Int) ∧ y = x.set k (vo l k)) ∨ (¬ (0 ≤ vo l k ∧ vo l k < (q : Int)) ∧ y = x)) : y.length = l.length ∧ ∀ j, vo y j = if j < k + 1 then ((inE q (vo l j) : Nat) : Int) else 0 := by
  rcases hy with ⟨h1, h2, rfl⟩ | ⟨h1, rfl⟩
  · refine ⟨by simp [hx], fun j => ?_⟩
    rw [vo_set]
    by_cases hj : k = j
    · subst hj; rw [if_pos ⟨rfl, by omega⟩, if_pos (by omega), inE_is ⟨h1, h2⟩]
    · rw [if_neg (fun e => hj e.1), h j]
      by_cases hj2 : j < k
      · rw [if_pos hj2, if_pos (by omega)]
      · rw [if_neg hj2, if_neg (by omega)]
  · refine ⟨hx, fun j => ?_⟩
    rw [h j]
    by_cases hj : j = k
    · subst hj; rw [if_neg (by omega), if_pos (by omega), inE_not h1]; rfl
    · by_cases hj2 : j < k
      · rw [if_pos hj2, if_pos (by omega)]
      · rw [if_neg hj2, if_neg (by omega)]
theorem cl_end {q : Nat} {l x : List Int} {k : Nat} (hk : l.length ≤ k) (hx : x.length = l.length) (h : ∀ j, vo x j = if j < k then ((inE q (vo l j) : Nat) : Int) else 0) : x = cl q l :=
 vo_ext (by rw [hx, cl_len]) fun i hi => by rw [h i, if_pos (by omega), cl_at (by omega)]
theorem v_rClean (F : FV P M mf p m v) {l : List Int} {Q : List Int → Prop} (hl : l.length ≤ LB) (h : Q (cl (p ^ m) l)) : V_rClean P M mf l Q := by
 have hq := F.q; unfold LB at hl; refine v_rOrder ?_; rw [F.ord]; refine ⟨⟨by omega, by omega, by omega⟩, fun x z => ∃ k : Nat, z = k ∧ k ≤ l.length ∧ x.length = l.length ∧ ∀ j, vo x j = if j < k then ((inE (p ^ m) (vo l j) : Nat) : Int) else 0, fun x z => (l.length - z).toNat, ⟨0, rfl, Nat.zero_le _, by simp, fun j => ?_⟩, ?_⟩
 ·rw [if_neg (by omega)]; exact vo_rep _ _
 rintro x _ ⟨k, rfl, hk, hx, hv⟩; dsimp only; rw [gi_nat, si_nat]; refine ⟨fun hlt => ?_, fun hge => by rw [cl_end (by omega) hx hv]; exact h⟩; have hlt' : k < l.length := by omega
 refine ⟨fun y b => y.length = l.length ∧ ∀ j, vo y j = if j < k + 1 then ((inE (p ^ m) (vo l j) : Nat) : Int) else 0, ⟨⟨by omega, by omega⟩, fun h0 => ⟨⟨by omega, by omega⟩, fun h1 => ⟨⟨by omega, by omega⟩, ⟨by omega, by omega⟩, cl_step hlt' hx hv (.inl ⟨h0, h1, rfl⟩)⟩, fun h1 => cl_step hlt' hx hv (.inr ⟨fun e => h1 e.2, rfl⟩)⟩, fun h0 => cl_step hlt' hx hv (.inr ⟨fun e => h0 e.1, rfl⟩)⟩, ?_⟩; rintro y b ⟨hy, hyv⟩; exact ⟨⟨by omega, by omega⟩, ⟨k + 1, by push_cast; rfl, by omega, hy, hyv⟩, by omega⟩
end
section
variable {F : GFv} {p m v g : Nat}
end
def lex : List Int → List Int → Int
  | [], [] => 0
  | [], _ :: _ => -1
  | _ :: _, [] => 1
  | a :: us, b :: bs => if a < b then -1 else if b < a then 1 else lex us bs
theorem lex_cons (a b : Int) (us bs : List Int) : lex (a :: us) (b :: bs) = if a < b then -1 else if b < a then 1 else lex us bs := rfl
theorem lex_self : ∀ a, lex a a = 0
 | [] => rfl
 | a :: us => by unfold lex; rw [if_neg (by omega), if_neg (by omega)]; exact lex_self us
theorem lex_eq : ∀ {a b}, lex a b = 0 → a = b
 | [], [], _ => rfl
 | [], _ :: _, h => by cases h
 | _ :: _, [], h => by cases h
 | a :: us, b :: bs, h => by
  unfold lex at h; split at h
  ·cases h
  ·split at h
   ·cases h
   ·rw [lex_eq h, show a = b by omega]
theorem lex_iff {a b : List Int} : lex a b = 0 ↔ a = b := ⟨lex_eq, fun h => by rw [h]; exact lex_self b⟩
theorem drop_vo {l : List Int} {k : Nat} (h : k < l.length) : l.drop k = vo l k :: l.drop (k + 1) := by
 rw [List.drop_eq_getElem_cons h]; congr 1; unfold vo; rw [List.getD_eq_getElem?_getD, List.getElem?_eq_getElem h]; rfl
theorem v_rCompare {a b : List Int} {Q : Int → Prop} (ha : a.length ≤ 4611686018427387904) (h : Q (lex a b)) : V_rCompare a b Q := by
 refine ⟨∃ k : Nat, k ≤ a.length ∧ k ≤ b.length ∧ (k = a.length ∨ k = b.length) ∧ lex a b = lex (a.drop k) (b.drop k), ⟨fun z => ∃ k : Nat, z = k ∧ k ≤ a.length ∧ k ≤ b.length ∧ lex a b = lex (a.drop k) (b.drop k), fun z => (a.length - z).toNat, ⟨0, rfl, Nat.zero_le _, Nat.zero_le _, rfl⟩, ?_⟩, ?_⟩
 ·rintro _ ⟨k, rfl, hk, hkb, hx⟩; rw [gi_nat, gi_nat]; refine ⟨fun hlt => ⟨fun hlb => ?_, fun hb => ⟨k, hk, hkb, .inr (by omega), hx⟩⟩, fun hge => ⟨k, hk, hkb, .inl (by omega), hx⟩⟩; dsimp only; rw [drop_vo (l := a) (by omega), drop_vo (l := b) (by omega), lex_cons] at hx; refine ⟨⟨by omega, by omega⟩, ⟨by omega, by omega⟩, fun c => ?_, fun c => ⟨⟨by omega, by omega⟩, ⟨by omega, by omega⟩, fun d => ?_, fun d => ?_⟩⟩
  ·rw [if_pos c] at hx; rw [hx] at h; exact h
  ·rw [if_neg c, if_pos d] at hx; rw [hx] at h; exact h
  ·rw [if_neg c, if_neg d] at hx; exact ⟨⟨by omega, by omega⟩, ⟨k + 1, by push_cast; rfl, by omega, by omega, hx⟩, by omega⟩
 ·rintro ⟨k, hk, hkb, ho, hx⟩; refine ⟨fun c => ?_, fun c => ⟨fun d => ?_, fun d => ?_⟩⟩
  ·rw [List.drop_of_length_le (l := a) (by omega), drop_vo (l := b) (by omega)] at hx; rw [hx] at h; exact h
  ·rw [drop_vo (l := a) (by omega), List.drop_of_length_le (l := b) (by omega)] at hx; rw [hx] at h; exact h
  ·rw [List.drop_of_length_le (l := a) (by omega), List.drop_of_length_le (l := b) (by omega)] at hx; rw [hx] at h; exact h
theorem v_rwSame {a b : List Int} {Q : Bool → Prop} (ha : a.length ≤ 4611686018427387904) (h : Q (decide (a = b))) : V_rwSame a b Q := by
 refine v_rCompare ha ?_
 rwa [decide_eq_decide.2 lex_iff]
end Go.Proofs.Ytcmfjjbbcfddpaa
set_option linter.unusedVariables false
set_option linter.unusedSimpArgs false
namespace Go.Proofs.Ytcmfjjbbcfddpaa
def pos (f : Nat → Bool) (k : Nat) : List Int := ((List.range k).filter f).map fun (i : Nat) => (i : Int)
section
variable {F : GFv} {p m v g : Nat}
end
def zwf (f : Int → Int → Int) (a b : List Int) : List Int := (List.range a.length).map fun i => f (vo a i) (vo b i)
theorem zwf_len (f : Int → Int → Int) (a b : List Int) : (zwf f a b).length = a.length := by simp [zwf]
theorem zwf_at {f : Int → Int → Int} {a b : List Int} {i : Nat} (h : i < a.length) : vo (zwf f a b) i = f (vo a i) (vo b i) := by
 unfold zwf; show List.getD _ _ _ = _; rw [List.getD_eq_getElem?_getD, List.getElem?_map, List.getElem?_range h]; rfl
theorem zw_step {f : Int → Int → Int} {a b x : List Int} {k : Nat} (hk : k < a.length) (hx : x.length = a.length) (h : ∀ j, j < k → vo x j = f (vo a j) (vo b j)) : (x.set k (f (vo a k) (vo b k))).length = a.length ∧ ∀ j, j < k + 1 → vo (x.set k (f (vo a k) (vo b k))) j = f (vo a j) (vo b j) := by
 refine ⟨by simp [hx], fun j hj => ?_⟩; rw [vo_set]; by_cases e : k = j
 ·subst e; rw [if_pos ⟨rfl, by omega⟩]
 ·rw [if_neg (fun c => e c.1)]; exact h j (by omega)
theorem zw_end {f : Int → Int → Int} {a b x : List Int} {k : Nat} (hk : a.length ≤ k) (hx : x.length = a.length) (h : ∀ j, j < k → vo x j = f (vo a j) (vo b j)) : x = zwf f a b :=
 vo_ext (by rw [hx, zwf_len]) fun i hi => by rw [h i (by omega), zwf_at (by omega)]
theorem v_pairwise {op : Int → Int → (Int → Prop) → Prop} {f : Int → Int → Int} {a b : List Int} {Q : List Int × Int → Prop} (hop : ∀ x y R, R (f x y) → op x y R) (hl : a.length ≤ LB)
  (h0 : a.length ≠ b.length → Q ([], 4)) (h1 : a.length = b.length → Q (zwf f a b, 0)) : V_pairwise op a b Q := by
 unfold LB at hl; refine ⟨fun e => h0 (by omega), fun e => ⟨⟨by omega, by omega, by omega⟩, fun x z => ∃ k : Nat, z = k ∧ k ≤ a.length ∧ x.length = a.length ∧ ∀ j, j < k → vo x j = f (vo a j) (vo b j), fun x z => (a.length - z).toNat, ⟨0, rfl, Nat.zero_le _, by simp, fun j hj => absurd hj (Nat.not_lt_zero _)⟩, ?_⟩⟩; rintro x _ ⟨k, rfl, hk, hx, hv⟩; dsimp only; rw [gi_nat, gi_nat]; refine ⟨fun hlt => ⟨⟨by omega, by omega⟩, ⟨by omega, by omega⟩, hop _ _ _ ?_⟩, fun hge => by rw [zw_end (by omega) hx hv]; exact h1 (by omega)⟩; obtain ⟨s1, s2⟩ := zw_step (f := f) (a := a) (b := b) (k := k) (by omega) hx hv; exact ⟨⟨by omega, by omega⟩, ⟨by omega, by omega⟩, ⟨k + 1, by push_cast; rfl, by omega, s1, s2⟩, by omega⟩
def eadd (p m : Nat) (x y : Int) : Int := ((fadd p m (inE (p ^ m) x) (inE (p ^ m) y) : Nat) : Int)
def esub (p m : Nat) (x y : Int) : Int := ((fadd p m (inE (p ^ m) x) (fneg p m (inE (p ^ m) y)) : Nat) : Int)
section
variable {F : GFv} {p m v g : Nat}
theorem v_wAdd (K : GFk F p m v g) {a b : List Int} {Q : List Int × Int → Prop} (hl : a.length ≤ LB) (h0 : a.length ≠ b.length → Q ([], 4)) (h1 : a.length = b.length → Q (zwf (eadd p m) a b, 0)) : V_wAdd F a b Q :=
 v_pairwise (fun x y R hR => v_Add K hR) hl h0 h1
theorem v_wSub (K : GFk F p m v g) {a b : List Int} {Q : List Int × Int → Prop} (hl : a.length ≤ LB) (h0 : a.length ≠ b.length → Q ([], 4)) (h1 : a.length = b.length → Q (zwf (esub p m) a b, 0)) : V_wSub F a b Q :=
 v_pairwise (fun x y R hR => v_Sub K hR) hl h0 h1
end
theorem inE_eadd {p m : Nat} (hp : 0 < p) (x y : Int) : inE (p ^ m) (eadd p m x y) = fadd p m (inE (p ^ m) x) (inE (p ^ m) y) := inE_nat (fadd_lt hp _ _)
section
variable {F : GFv} {p m v g : Nat}
end
section
variable {P M : Int} {mf : List Int} {p m v : Nat}
end
end Go.Proofs.Ytcmfjjbbcfddpaa
set_option linter.unusedVariables false
set_option linter.unusedSimpArgs false
namespace Go.Proofs.Ytcmfjjbbcfddpaa
section
variable {P M : Int} {mf : List Int} {p m v : Nat}
end
section
variable {F : GFv} {p m v g : Nat}
end
def hv (q : Nat) : List Int → Int
  | [] => 0
  | x :: l => x * ((q ^ l.length : Nat) : Int) + hv q l
end Go.Proofs.Ytcmfjjbbcfddpaa
set_option linter.unusedSimpArgs false
set_option linter.unusedVariables false
set_option maxRecDepth 4000
set_option maxHeartbeats 4000000
namespace Go.Proofs.Ytcmfjjbbcfddpaa
open Go.RowKit
end Go.Proofs.Ytcmfjjbbcfddpaa
set_option linter.unusedVariables false
set_option linter.unusedSimpArgs false
namespace Go.Proofs.Ytcmfjjbbcfddpaa
end Go.Proofs.Ytcmfjjbbcfddpaa
set_option linter.unusedVariables false
set_option linter.unusedSimpArgs false
namespace Go.Proofs.Ytcmfjjbbcfddpaa
end Go.Proofs.Ytcmfjjbbcfddpaa
set_option linter.unusedVariables false
set_option linter.unusedSimpArgs false
namespace Go.Proofs.Ytcmfjjbbcfddpaa
def asd (s : List Int) (i : Nat) (x : Int) : List Int := (List.range s.length).map fun (t : Nat) => if t < i then vo s t else x + ((t - i : Nat) : Int)
def ad (n : Int) (s : List Int) : Nat → List Int
  | 0 => s
  | i + 1 => if vo s i < n - (s.length : Int) + (i : Int) then asd s i (vo s i + 1) else ad n s i
end Go.Proofs.Ytcmfjjbbcfddpaa
set_option linter.unusedSimpArgs false
set_option linter.unusedVariables false
set_option maxRecDepth 4000
set_option maxHeartbeats 4000000
namespace Go.Proofs.Ytcmfjjbbcfddpaa
open Go.RowKit
def V_open (Pf : Int) (Mf : Int) (mf : List Int) (Q : Option GFv × Bool → Prop) : Prop :=
  V_New Pf Mf mf (fun q => match q with | (none, r15) => V_rCheck Pf Mf mf (fun r23 => ((r23 ≠ (0 : Int)) → (Q (none, (decide (r15 ≠ (0 : Int)))))) ∧ (¬ (r23 ≠ (0 : Int)) → (((r15 ≠ (0 : Int)) → (Q (none, false))) ∧ (¬ (r15 ≠ (0 : Int)) → (Q (none, false)))))) | (some F16, r15) => V_rCheck Pf Mf mf (fun r27 => ((r27 ≠ (0 : Int)) → (Q (none, (decide (r15 ≠ (0 : Int)))))) ∧ (¬ (r27 ≠ (0 : Int)) → (((r15 ≠ (0 : Int)) → (Q (none, false))) ∧ (¬ (r15 ≠ (0 : Int)) → (Q (some F16, true)))))))
theorem ok_open {w : World} {Q : Option GFv × Bool → Prop} {Pf : Int} {Mf : Int} {mf : List Int} {Bf : Nat} {Af : Option Addr} {nf kf : Nat} (hf : Rd Bf w 1 Af nf kf (is mf)) (hv : V_open Pf Mf mf Q) :
  Calls Try.prog 17 #[.agg #[.int .i64 Pf, .int .i64 Mf, .slice Af nf kf]] w fun e w' => ∃ v Qr, e = .returned v ∧ w.grownBy w' none ∧ Rows w.heap.size none w' Qr ∧ News w.heap.size Qr ∧ ∃ (o : Option GFv) (b2 : Bool), Q (o, b2) ∧ match o with | none => v = .tuple #[.pointer none, .bool true, .bool b2] ∧ Qr = [] | some F => ∃ (ad : Addr) (lo hi : Nat), v = .tuple #[.pointer (some ad), .bool false, .bool true] ∧ Qr = [.ch lo hi (fun wz => GFX lo hi wz ad F)] := by
 have hnf := hf.ilen; subst hnf; refine calls_swap <| calls_of_W (vs := [.agg #[.int .i64 Pf, .int .i64 Mf, .slice Af mf.length kf]]) [2, 3, 4] XF17 rfl rfl rfl rfl ?_; have hS := St.start w; unfold V_open at hv; refine W.seq <| W.region <| SL.box (z := 3) (cs := [.int .i64 Pf, .int .i64 Mf, .slice Af mf.length kf]) hS rfl rfl rfl rfl ?_; intro g11 w12 hS; refine WL.assign rfl rfl <| WL.assign rfl rfl <| WL.assign rfl rfl <| WL.done <| W.seq <| W.region <| WL.loadV (cs := [.int .i64 Pf, .int .i64 Mf, .slice Af mf.length kf]) XE24 XG24 rfl rfl (Own.vcells (hS.own (i := 0) rfl)) rfl <| SL.call hS (ok_New (hS.ro hf) hv) XF54 rfl XN54 rfl rfl ?_; rintro _ _ w14 ⟨o, r15, hv, hK⟩ hGw14 hS; cases o with
 | none =>
  obtain ⟨rfl, rfl⟩ := hK
  change St _ _ _ _ [.row 24 3 (some ⟨g11, 0, none⟩) 1 1 [.int .i64 Pf, .int .i64 Mf, .slice Af mf.length kf]] at hS
  refine WL.move rfl rfl <| WL.extract rfl rfl rfl <| WL.extract rfl rfl rfl <| WL.assign rfl rfl <| WL.assign rfl rfl <| WL.done <| W.seq <| W.seq <| W.region <| WL.loadV (cs := [.int .i64 Pf, .int .i64 Mf, .slice Af mf.length kf]) XE24 XG24 rfl rfl (Own.vcells (hS.own (i := 0) rfl)) rfl <| SL.call hS (ok_rCheck (hS.ro hf) hv) XF55 rfl XN55 rfl rfl ?_; rintro _ _ w22 ⟨r23, rfl, rfl, hv⟩ hGw22 hS; have hS := hS.n0; refine WL.neqD rfl rfl rfl <| WL.done <| W.cond2 rfl (fun c24 => ?_) (fun c24 => ?_)
  ·have hv := hv.1 (of_decide_eq_true c24); refine W.seq <| W.region <| WL.move rfl rfl <| WL.neqD rfl rfl rfl <| WL.assign rfl rfl <| WL.assign rfl rfl <| WL.assign rfl rfl <| WL.done <| W.ret <| ⟨_, rfl, Fin.nil ?_⟩
   exact ⟨_, hS.ext, (hS.pick [] rfl).rows, News.of (hS.pick [] rfl).rows rfl, ⟨none, (decide (r15 ≠ (0 : Int))), hv, rfl, rfl⟩⟩
  have hv := hv.2 (of_decide_eq_false c24); refine W.skip <| W.seq <| W.seq <| W.region <| WL.move rfl rfl <| WL.neqD rfl rfl rfl <| WL.move rfl rfl ?_; by_cases g25 : r15 ≠ (0 : Int)
  ·have hv := hv.1 g25; rw [decide_eq_true g25]; refine WL.pass rfl rfl rfl <| WL.pass rfl rfl rfl <| WL.pick rfl rfl rfl <| WL.done <| W.condT rfl <| W.seq <| W.region <| WL.assign rfl rfl <| WL.assign rfl rfl <| WL.assign rfl rfl <| WL.done <| W.ret <| ⟨_, rfl, Fin.nil ?_⟩
   exact ⟨_, hS.ext, (hS.pick [] rfl).rows, News.of (hS.pick [] rfl).rows rfl, ⟨none, false, hv, rfl, rfl⟩⟩
  have hv := hv.2 g25; rw [decide_eq_false g25]; refine WL.take rfl <| WL.move rfl rfl <| WL.take rfl <| WL.eqlPn XU25 rfl rfl rfl rfl <| WL.pick rfl rfl rfl <| WL.done <| W.condT rfl <| W.seq <| W.region <| WL.assign rfl rfl <| WL.assign rfl rfl <| WL.assign rfl rfl <| WL.done <| W.ret <| ⟨_, rfl, Fin.nil ?_⟩
  exact ⟨_, hS.ext, (hS.pick [] rfl).rows, News.of (hS.pick [] rfl).rows rfl, ⟨none, false, hv, rfl, rfl⟩⟩
 | some F16 =>
  obtain ⟨ad17, lo18, hi19, rfl, rfl⟩ := hK
  change St _ _ _ _ [.ch lo18 hi19 (fun wz => GFX lo18 hi19 wz ad17 F16), .row 24 3 (some ⟨g11, 0, none⟩) 1 1 [.int .i64 Pf, .int .i64 Mf, .slice Af mf.length kf]] at hS
  refine WL.move rfl rfl <| WL.extract rfl rfl rfl <| WL.extract rfl rfl rfl <| WL.assign rfl rfl <| WL.assign rfl rfl <| WL.done <| W.seq <| W.seq <| W.region <| WL.loadV (cs := [.int .i64 Pf, .int .i64 Mf, .slice Af mf.length kf]) XE24 XG24 rfl rfl (Own.vcells (hS.own (i := 1) rfl)) rfl <| SL.call hS (ok_rCheck (hS.ro hf) hv) XF55 rfl XN55 rfl rfl ?_; rintro _ _ w26 ⟨r27, rfl, rfl, hv⟩ hGw26 hS; have hS := hS.n0; refine WL.neqD rfl rfl rfl <| WL.done <| W.cond2 rfl (fun c28 => ?_) (fun c28 => ?_)
  ·have hv := hv.1 (of_decide_eq_true c28); refine W.seq <| W.region <| WL.move rfl rfl <| WL.neqD rfl rfl rfl <| WL.assign rfl rfl <| WL.assign rfl rfl <| WL.assign rfl rfl <| WL.done <| W.ret <| ⟨_, rfl, Fin.nil ?_⟩
   exact ⟨_, hS.ext, (hS.pick [] rfl).rows, News.of (hS.pick [] rfl).rows rfl, ⟨none, (decide (r15 ≠ (0 : Int))), hv, rfl, rfl⟩⟩
  have hv := hv.2 (of_decide_eq_false c28); refine W.skip <| W.seq <| W.seq <| W.region <| WL.move rfl rfl <| WL.neqD rfl rfl rfl <| WL.move rfl rfl ?_; by_cases g29 : r15 ≠ (0 : Int)
  ·have hv := hv.1 g29; rw [decide_eq_true g29]; refine WL.pass rfl rfl rfl <| WL.pass rfl rfl rfl <| WL.pick rfl rfl rfl <| WL.done <| W.condT rfl <| W.seq <| W.region <| WL.assign rfl rfl <| WL.assign rfl rfl <| WL.assign rfl rfl <| WL.done <| W.ret <| ⟨_, rfl, Fin.nil ?_⟩
   exact ⟨_, hS.ext, (hS.pick [] rfl).rows, News.of (hS.pick [] rfl).rows rfl, ⟨none, false, hv, rfl, rfl⟩⟩
  have hv := hv.2 g29; rw [decide_eq_false g29]; refine WL.take rfl <| WL.move rfl rfl <| WL.take rfl <| WL.eqlPn XU25 rfl rfl rfl rfl <| WL.pick rfl rfl rfl <| WL.done <| W.condF rfl <| W.skip <| W.seq <| W.region <| WL.move rfl rfl <| WL.assign rfl rfl <| WL.assign rfl rfl <| WL.assign rfl rfl <| WL.done <| W.ret <| ⟨_, rfl, Fin.nil ?_⟩
  exact ⟨_, hS.ext, (hS.pick [0] rfl).rows, News.of (hS.pick [0] rfl).rows rfl, ⟨some F16, true, hv, _, _, _, rfl, rfl⟩⟩
end Go.Proofs.Ytcmfjjbbcfddpaa
set_option linter.unusedSimpArgs false
set_option linter.unusedVariables false
set_option maxRecDepth 4000
set_option maxHeartbeats 4000000
namespace Go.Proofs.Ytcmfjjbbcfddpaa
open Go.RowKit
end Go.Proofs.Ytcmfjjbbcfddpaa
set_option linter.unusedVariables false
set_option linter.unusedSimpArgs false
namespace Go.Proofs.Ytcmfjjbbcfddpaa
section
variable {P M : Int} {mf : List Int}
theorem w_open {Q : Option GFv × Bool → Prop} (h0 : ¬ Valid P M mf → Q (none, true)) (h1 : ∀ (F : GFv) (p m v g : Nat), GFk F p m v g → FV P M mf p m v → Q (some F, true)) : V_open P M mf Q := by
 refine v_New (fun hV => v_rCheck ⟨fun _ => h0 hV, fun hn => absurd (ck_no hV) (by intro e; rw [e] at hn; exact hn (by decide))⟩) fun F p m v g K eP eM em => ?_; have hF : FV P M mf p m v := by have := K.fv; rwa [eP, eM, em] at this
 refine v_rCheck ⟨fun hn => ?_, fun hn => ⟨fun h => absurd rfl h, fun _ => h1 F p m v g K hF⟩⟩; exact absurd (ck_ok ⟨_, _, _, hF⟩) hn
theorem LB62 {n : Nat} (h : n ≤ LB) : n ≤ 4611686018427387904 := Nat.le_trans h (by unfold LB; decide)
theorem inE_0 {q : Nat} (hq : 2 ≤ q) : inE q 0 = 0 := inE_nat (x := 0) (by omega)
theorem inE_1 {q : Nat} (hq : 2 ≤ q) : inE q 1 = 1 := inE_nat (x := 1) (by omega)
end
end Go.Proofs.Ytcmfjjbbcfddpaa
