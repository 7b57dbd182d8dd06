/- Contracts of functions of the program, and what they lean on: V5, V6, V7. -/
import Derived.Test.YtinibbfpdbddpaaFieldChecksG9
set_option linter.unusedVariables false
set_option linter.unusedSimpArgs false
namespace Go.Proofs.Ytinibbfpdbddpaa
/-! ### the reference's arithmetic -/
/-- the element that x stands for -/
def inE (q : Nat) (x : Int) : Nat := if 0 ≤ x ∧ x < q then x.toNat else 0
theorem inE_lt {q : Nat} (hq : 0 < q) (x : Int) : inE q x < q := by unfold inE; split <;> omega
theorem inE_nat {q x : Nat} (h : x < q) : inE q (x : Int) = x := by unfold inE; rw [if_pos (by omega)]; rfl
section
variable {P M : Int} {mf : List Int} {p m v : Nat}
theorem FV.ord (F : FV P M mf p m v) : ordR P M = ((p ^ m : Nat) : Int) := by
  rw [F.eP, F.eM, ordR, if_pos]
  · simp
  · have := F.p2; have := F.m0; have := F.q
    exact ⟨by omega, by omega, by simpa using this⟩
theorem FV.i64 (F : FV P M mf p m v) : I64 P := by
  have := F.p256; rw [F.eP]; exact small (by omega) (by omega)
theorem v_rIs (F : FV P M mf p m v) {x : Int} {Q : Bool → Prop} (h : Q (decide (0 ≤ x ∧ x < ((p ^ m : Nat) : Int)))) : V_rIs P M mf x Q := by
  refine ⟨fun h0 => v_rOrder ?_, fun h0 => ?_⟩
  · rw [F.ord]; simpa [h0] using h
  · simpa [h0] using h
theorem v_rIn (F : FV P M mf p m v) {x : Int} {Q : Int → Prop} (h : Q ((inE (p ^ m) x : Nat) : Int)) : V_rIn P M mf x Q := by
  refine v_rIs F ⟨fun hb => ?_, fun hb => ?_⟩
  · have hb := of_decide_eq_true hb
    unfold inE at h
    rw [if_pos hb] at h
    rwa [Int.toNat_of_nonneg hb.1] at h
  · have hb := of_decide_eq_false hb
    unfold inE at h
    rw [if_neg hb] at h
    exact h
theorem v_rDigits (F : FV P M mf p m v) {x : Int} {Q : List Int → Prop} (h : Q (dgi p m (inE (p ^ m) x))) : V_rDigits P M mf x Q := by
  have hp := F.p2
  have hq := F.q
  have hm8 := F.m8
  have hlt := inE_lt F.ring.pos x
  refine ⟨_, v_rIn F rfl, _, ?_, h⟩
  rw [F.eP, F.eM]
  exact v_rdigits (by omega) (by omega) (by omega) rfl
theorem v_rVal (F : FV P M mf p m v) {l : List Int} {u : Vec} {Q : Int → Prop} (hl : l.length = m) (hv : ∀ i, i < m → vo l i = u i % (p : Int)) (h : Q ((nm p m u : Nat) : Int)) : V_rValue P M mf l Q := by
  have hp := F.p2
  rw [can_list (by omega) hl hv, F.eP]
  have hlt := nm_lt (p := p) (m := m) (by omega) u
  refine v_rValue hp F.p256 (by rw [dgi_len]; have := F.m8; omega) (by rw [dgi_len]; exact dgi_cn (by omega) hlt _) (by rw [dgi_len]; exact F.q) ?_
  rw [vl_dgi (by omega) hlt]; exact h
end
/-! the product by convolution -/
theorem opr_upd {p m : Nat} {c w w' u : Vec} {s : Int} {k : Nat} (hk : w' k % (p : Int) = (w k + s) % (p : Int)) (ho : ∀ i, i ≠ k → w' i = w i) : ∀ n, vcg p (opr m c w' n u) (vadd (opr m c w n u) (if k < n then vsm s (tXn m c k u) else vz))
  | 0 => fun i => by simp [opr, vadd, vz]
  | n + 1 => fun i => by
    have ih := opr_upd hk ho (m := m) (c := c) (u := u) n i
    show (opr m c w' n u i + w' n * tXn m c n u i) % (p : Int) = ((opr m c w n u i + w n * tXn m c n u i) + (if k < n + 1 then vsm s (tXn m c k u) else vz) i) % (p : Int)
    rcases Nat.lt_trichotomy k n with h | h | h
    · rw [if_pos (by omega)]
      rw [if_pos h] at ih
      rw [ho n (by omega)]
      have := add_cg ih (rfl : (w n * tXn m c n u i) % (p : Int) = _)
      rw [this]
      congr 1
      show opr m c w n u i + (vsm s (tXn m c k u)) i + _ = _
      omega
    · subst h
      rw [if_pos (by omega)]
      rw [if_neg (by omega)] at ih
      have := add_cg ih (mul_cg hk (rfl : (tXn m c k u i) % (p : Int) = _))
      rw [this]
      congr 1
      show opr m c w k u i + 0 + (w k + s) * tXn m c k u i = _ + s * tXn m c k u i
      rw [Int.add_mul]; omega
    · rw [if_neg (by omega)]
      rw [if_neg (by omega)] at ih
      rw [ho n (by omega)]
      have := add_cg ih (rfl : (w n * tXn m c n u i) % (p : Int) = _)
      rw [this]
      congr 1
      show opr m c w n u i + 0 + _ = _ + 0
      omega
theorem Xm {m : Nat} {c : Vec} (hm : 0 < m) : tXn m c m e0 = vsm (-1) (opr m c c m e0) := by
  obtain ⟨n, rfl⟩ : ∃ n, m = n + 1 := ⟨m - 1, by omega⟩
  show tX (n + 1) c (tXn (n + 1) c n e0) = _
  rw [tXn_e0 (by omega)]
  funext i
  simp only [vsm]
  rw [opr_e0 (Nat.le_refl _)]
  simp only [tX, vei]
  by_cases hi : i < n + 1
  · rw [if_pos hi, if_pos hi]
    have e1 : (if i = 0 then (0 : Int) else if i - 1 = n then 1 else 0) = 0 := by
      split
      · rfl
      · rw [if_neg (by omega)]
    rw [e1, show n + 1 - 1 = n by omega, if_pos rfl]; omega
  · rw [if_neg hi, if_neg hi]; rfl
section
variable {P M : Int} {mf : List Int} {p m v : Nat}
theorem v_rMul (F : FV P M mf p m v) {x y : Int} {Q : Int → Prop} (h : Q ((fmul p m (dv p v) (inE (p ^ m) x) (inE (p ^ m) y) : Nat) : Int)) : V_rMul P M mf x y Q := by
  have hp := F.p2
  have hp2 := F.p256
  have hm0 := F.m0
  have hm8 := F.m8
  have hx := inE_lt F.ring.pos x
  have hy := inE_lt F.ring.pos y
  refine v_rDigits F (v_rDigits F ?_)
  obtain rfl := F.eP
  obtain rfl := F.eM
  generalize inE (p ^ m) x = a at *
  generalize inE (p ^ m) y = b at *
  rw [fmul_comm hx hy] at h
  have hla := dgi_len p m a
  have hlb := dgi_len p m b
  have hva := dgi_vo hx
  have hvb := dgi_vo hy
  have hsa := dv_sup hx
  have hsb := dv_sup hy
  have hN : (2 * (m : Int) - 1).toNat = 2 * m - 1 := by omega
  have e2 : (2 * (m : Int) - 1) = ((2 * m - 1 : Nat) : Int) := by omega
  rw [e2]
  generalize hNN : 2 * m - 1 = N at *
  rw [Int.toNat_natCast]
  have hself := opr_self (c := dv p v) hsb
  refine ⟨small (by omega) (by omega), smallN (by omega), ⟨by omega, by omega, by omega⟩, ?_⟩
  refine ⟨fun l z => ∃ k : Nat, z = k ∧ k ≤ m ∧ l.length = N ∧ Cn p N (vo l) ∧ vcg p (opr m (dv p v) (vo l) N e0) (opr m (dv p v) (dv p a) k (dv p b)), fun l z => (m - z).toNat, ⟨0, rfl, Nat.zero_le _, by simp, fun i hi => by rw [vo_rep]; omega, ?_⟩, ?_⟩
  · have : vo (List.replicate N (0 : Int)) = vz := by funext i; rw [vo_rep]; rfl
    rw [this]
    have h0 : ∀ n, opr m (dv p v) vz n e0 = vz := fun n => by
      induction n with
      | zero => rfl
      | succ n ih => show vadd (opr m (dv p v) vz n e0) (vsm (vz n) _) = vz; rw [ih]; funext i; simp [vadd, vsm, vz]
    rw [h0]; exact vcg.refl _
  rintro l _ ⟨i, rfl, hi, hl, hcn, hE⟩
  dsimp only
  refine ⟨fun hlt => ?_, fun hge => ?_⟩
  · refine ⟨fun r z => ∃ j : Nat, z = j ∧ j ≤ m ∧ r.length = N ∧ Cn p N (vo r) ∧ vcg p (opr m (dv p v) (vo r) N e0) (vadd (opr m (dv p v) (dv p a) i (dv p b)) (vsm (dv p a i) (tXn m (dv p v) i (opr m (dv p v) (dv p b) j e0)))), fun r z => (m - z).toNat, ⟨0, rfl, Nat.zero_le _, hl, hcn, ?_⟩, ?_⟩
    · show vcg p _ (vadd _ (vsm _ (tXn m (dv p v) i vz)))
      rw [tXn_z, vsm_z, vadd_z]; exact hE
    rintro r _ ⟨j, rfl, hj, hr, hcr, hEr⟩
    dsimp only
    rw [show (i : Int) + (j : Int) = ((i + j : Nat) : Int) by push_cast; rfl, gi_nat, gi_nat, gi_nat, si_nat, hva, hvb]
    refine ⟨fun hltj => ?_, fun hgej => ?_⟩
    · have c1 := dv_le (p := p) (by omega) a i
      have c2 := dv_le (p := p) (by omega) b j
      have c3 := hcr (i + j) (by omega)
      have c4 := bd_mul (a := dv p a i) (b := dv p b j) hp2 ⟨c1.1, by omega⟩ ⟨c2.1, by omega⟩
      refine ⟨smallN (by omega), smallN (by omega), ⟨by omega, by omega⟩, ⟨by omega, by omega⟩, ⟨by omega, by omega⟩, small (by omega) (by omega), small (by omega) (by omega), by omega, ⟨by omega, by omega⟩, small (by omega) (by omega), ⟨j + 1, by push_cast; rfl, by omega, by rw [List.length_set, hr], fun t ht => ?_, ?_⟩, by omega⟩
      · rw [vo_set]; split
        · rw [Int.tmod_eq_emod_of_nonneg (by omega)]
          exact ⟨Int.emod_nonneg _ (by omega), Int.emod_lt_of_pos _ (by omega)⟩
        · exact hcr t ht
      · have hup := opr_upd (p := p) (m := m) (c := dv p v) (w := vo r) (w' := vo (r.set (i + j) ((vo r (i + j) + dv p a i * dv p b j).tmod p))) (u := e0) (s := dv p a i * dv p b j) (k := i + j) (by
          rw [vo_set, if_pos ⟨rfl, by omega⟩, Int.tmod_eq_emod_of_nonneg (by omega), Int.emod_emod]) (fun t ht => by rw [vo_set, if_neg (fun h => ht h.1.symm)]) N
        rw [if_pos (by omega)] at hup
        refine hup.trans ((hEr.add (vcg.refl _)).trans ?_)
        show vcg p _ (vadd _ (vsm _ (tXn m (dv p v) i (vadd (opr m (dv p v) (dv p b) j e0) (vsm (dv p b j) (tXn m (dv p v) j e0))))))
        rw [tXn_add, tXn_sm, tXn_tXn, vsm_add, vsm_sm, ← vadd_assoc]
        exact vcg.refl _
    · have hjm : j = m := by omega
      subst hjm
      rw [hself] at hEr
      exact ⟨small (by omega) (by omega), ⟨i + 1, by push_cast; rfl, by omega, hr, hcr, hEr⟩, by omega⟩
  · have him : i = m := by omega
    subst him
    have hE2 : vcg p (opr i (dv p v) (vo l) N e0) (vmul i (dv p v) (dv p b) (dv p a)) := hE
    refine ⟨small (by omega) (by omega), small (by omega) (by omega), ?_⟩
    refine ⟨fun r z => ∃ t : Nat, z = (t : Int) - 1 ∧ i ≤ t ∧ t ≤ N ∧ r.length = N ∧ Cn p N (vo r) ∧ vcg p (opr i (dv p v) (vo r) t e0) (vmul i (dv p v) (dv p b) (dv p a)), fun r z => (z + 1).toNat, ⟨N, by omega, by omega, by omega, hl, hcn, hE2⟩, ?_⟩
    rintro r _ ⟨t, rfl, hit, htN, hr, hcr, hEr⟩
    dsimp only
    refine ⟨fun hle => ?_, fun hgt => ?_⟩
    · obtain ⟨k, rfl⟩ : ∃ k, t = k + 1 := ⟨t - 1, by omega⟩
      have ek : ((k + 1 : Nat) : Int) - 1 = (k : Int) := by omega
      rw [ek] at hle ⊢
      have hm1 : i ≠ 1 := by omega
      have hmf : vo mf = dv p v := F.vo
      have hml : mf.length = i := (F.cn hm1).1
      have hwk := hcr k (by omega)
      refine ⟨fun s z => ∃ j : Nat, z = j ∧ j ≤ i ∧ s.length = N ∧ Cn p N (vo s) ∧ vo s k = vo r k ∧ vcg p (opr i (dv p v) (vo s) k e0) (vadd (opr i (dv p v) (vo r) k e0) (vsm (-(vo r k)) (tXn i (dv p v) (k - i) (opr i (dv p v) (dv p v) j e0)))), fun s z => (i - z).toNat, ⟨0, rfl, Nat.zero_le _, hr, hcr, rfl, ?_⟩, ?_⟩
      · show vcg p _ (vadd _ (vsm _ (tXn i (dv p v) (k - i) vz)))
        rw [tXn_z, vsm_z, vadd_z]; exact vcg.refl _
      rintro s _ ⟨j, rfl, hj, hs, hcs, hsk, hEs⟩
      dsimp only
      rw [show (k : Int) - (i : Int) + (j : Int) = ((k - i + j : Nat) : Int) by omega, gi_nat, gi_nat, gi_nat, si_nat, hmf, hsk]
      refine ⟨fun hltj => ?_, fun hgej => ?_⟩
      · have c1 := dv_le (p := p) (by omega) v j
        have c3 := hcs (k - i + j) (by omega)
        have c4 := bd_mul (a := (p : Int) - vo r k) (b := dv p v j) hp2 ⟨by omega, by omega⟩ ⟨c1.1, by omega⟩
        refine ⟨small (by omega) (by omega), smallN (by omega), small (by omega) (by omega), smallN (by omega), ⟨by omega, by omega⟩, ⟨by omega, by omega⟩, small (by omega) (by omega), ⟨by omega, by omega⟩, small (by omega) (by omega), small (by omega) (by omega), by omega, ⟨by omega, by omega⟩, small (by omega) (by omega), ⟨j + 1, by push_cast; rfl, by omega, by rw [List.length_set, hs], fun u hu => ?_, ?_, ?_⟩, by omega⟩
        · rw [vo_set]; split
          · rw [Int.tmod_eq_emod_of_nonneg (by omega)]
            exact ⟨Int.emod_nonneg _ (by omega), Int.emod_lt_of_pos _ (by omega)⟩
          · exact hcs u hu
        · rw [vo_set, if_neg (by omega)]; exact hsk
        · have hup := opr_upd (p := p) (m := i) (c := dv p v) (w := vo s) (w' := vo (s.set (k - i + j) ((vo s (k - i + j) + ((p : Int) - vo r k) * dv p v j).tmod p))) (u := e0) (s := -(vo r k) * dv p v j) (k := k - i + j) (by
            rw [vo_set, if_pos ⟨rfl, by omega⟩, red_eq (by omega) c3.1 (by omega) c1.1, Int.emod_emod, Int.neg_mul]; rfl) (fun t ht => by rw [vo_set, if_neg (fun h => ht h.1.symm)]) k
          rw [if_pos (by omega)] at hup
          refine hup.trans ((hEs.add (vcg.refl _)).trans ?_)
          show vcg p _ (vadd _ (vsm _ (tXn i (dv p v) (k - i) (vadd (opr i (dv p v) (dv p v) j e0) (vsm (dv p v j) (tXn i (dv p v) j e0))))))
          rw [tXn_add, tXn_sm, tXn_tXn, vsm_add, vsm_sm, ← vadd_assoc]
          exact vcg.refl _
      · have hji : j = i := by omega
        subst hji
        refine ⟨small (by omega) (by omega), ⟨k, by omega, by omega, by omega, hs, hcs, ?_⟩, by omega⟩
        refine hEs.trans (vcg.trans ?_ hEr)
        show vcg p _ (vadd (opr j (dv p v) (vo r) k e0) (vsm (vo r k) (tXn j (dv p v) k e0)))
        have e1 : tXn j (dv p v) k e0 = tXn j (dv p v) (k - j) (tXn j (dv p v) j e0) := by rw [tXn_tXn, show k - j + j = k by omega]
        rw [e1, Xm hm0, tXn_sm, vsm_sm, show vo r k * -1 = -(vo r k) by omega]
        exact vcg.refl _
    · have hti : t = i := by omega
      subst hti
      refine ⟨⟨by omega, by omega⟩, _, v_rVal F (u := opr t (dv p v) (vo r) t e0) ?_ (fun j hj => ?_) rfl, ?_⟩
      · rw [List.length_take, Int.toNat_natCast, hr]; omega
      · rw [Int.toNat_natCast, take_vo hj, opr_e0 (Nat.le_refl _), if_pos hj]
        have := hcr j (by omega)
        exact (Int.emod_eq_of_lt this.1 this.2).symm
      · rw [nm_vcg hEr]
        exact h
theorem modk {n k : Int} (hk : 0 < k) : (n.tmod k + k).tmod k = n % k := by
  have h1 := Int.tmod_lt_of_pos n hk
  have h2 : -k < n.tmod k := by
    have := Int.lt_tmod_of_pos n hk
    omega
  rw [Int.tmod_eq_emod_of_nonneg (by omega)]
  have h3 := Int.mul_tdiv_add_tmod n k
  have : n = n.tmod k + k * (n.tdiv k) := by omega
  rw [show n.tmod k + k = n.tmod k + k * 1 by omega, Int.add_mul_emod_self_left]
  conv => rhs; rw [this, Int.add_mul_emod_self_left]
theorem v_rPow (F : FV P M mf p m v) {x n : Int} {Q : Int × Int → Prop} (h0 : inE (p ^ m) x = 0 → Q (if n = 0 then (1, 0) else if n < 0 then (0, 7) else (0, 0)))
    (h1 : inE (p ^ m) x ≠ 0 → Q (((pw (fmul p m (dv p v)) (inE (p ^ m) x) (n % (((p ^ m : Nat) : Int) - 1)).toNat : Nat) : Int), 0)) (hn : I64 n) : V_rPow P M mf x n Q := by
  have hq := F.q
  have R := F.ring
  have hq2 := R.q2
  have hlt := inE_lt R.pos x
  refine v_rIn F ⟨fun hn0 => ?_, fun hn0 => ⟨fun hz => ⟨fun hneg => ?_, fun hpos => ?_⟩, fun hz => v_rOrder ?_⟩⟩
  · by_cases hz : inE (p ^ m) x = 0
    · have := h0 hz; rwa [if_pos hn0] at this
    · have := h1 hz
      rw [hn0, Int.zero_emod] at this
      exact this
  · have := h0 (by omega); rwa [if_neg hn0, if_pos hneg] at this
  · have := h0 (by omega); rwa [if_neg hn0, if_neg hpos] at this
  · rw [F.ord]
    have h1 := h1 (by omega)
    generalize inE (p ^ m) x = a at *
    generalize hqq : p ^ m = q at *
    have hk : (0 : Int) < (q : Int) - 1 := by omega
    have t1 := Int.tmod_lt_of_pos n hk
    have t2 := Int.lt_tmod_of_pos n hk
    have e1 := Int.emod_nonneg n (show (q : Int) - 1 ≠ 0 by omega)
    have e2 := Int.emod_lt_of_pos n hk
    rw [modk hk]
    refine ⟨small (by omega) (by omega), by omega, small (by omega) (by omega), by omega, ?_⟩
    obtain ⟨e, he⟩ := Int.eq_ofNat_of_zero_le e1
    rw [he] at h1 ⊢
    rw [Int.toNat_natCast] at h1
    refine ⟨fun z i => ∃ k : Nat, i = k ∧ k ≤ e ∧ z = ((pw (fmul p m (dv p v)) a k : Nat) : Int), fun z i => (e - i).toNat, ⟨0, rfl, Nat.zero_le _, rfl⟩, ?_⟩
    rintro _ _ ⟨k, rfl, hk2, rfl⟩
    dsimp only
    refine ⟨fun hltk => v_rMul F ?_, fun hge => ?_⟩
    · rw [hqq, inE_nat (R.pw_lt a k), inE_nat hlt]
      exact ⟨small (by omega) (by omega), ⟨k + 1, by push_cast; rfl, by omega, rfl⟩, by omega⟩
    · rw [show k = e by omega]; exact h1
/-- sums of products -/
def fdot (p m : Nat) (c : Vec) (l o : List Int) : Nat → Nat
  | 0 => 0
  | k + 1 => fadd p m (fdot p m c l o k) (fmul p m c (inE (p ^ m) (vo l k)) (inE (p ^ m) (vo o k)))
theorem v_rMulOrder (F : FV P M mf p m v) {x : Int} {Q : Int → Prop} (h0 : inE (p ^ m) x = 0 → Q 0) (h1 : ∀ n : Nat, inE (p ^ m) x ≠ 0 → Od (fmul p m (dv p v)) (inE (p ^ m) x) n → n ≤ p ^ m - 1 → Q n) : V_rMulOrder P M mf x Q := by
  have hq := F.q
  have R := F.ring
  have hq2 := R.q2
  have hlt := inE_lt R.pos x
  obtain ⟨g, G⟩ := F.gen
  refine v_rIn F ⟨fun hz => h0 (by omega), fun hz => ?_⟩
  have hz' : inE (p ^ m) x ≠ 0 := by omega
  have hone := G.xone R (Nat.pos_of_ne_zero hz') hlt
  replace h1 := fun n => h1 n hz'
  generalize inE (p ^ m) x = a at *
  generalize hqq : p ^ m = q at *
  refine ⟨fun i z => ∃ k : Nat, i = k ∧ 0 < k ∧ k ≤ q - 1 ∧ z = ((pw (fmul p m (dv p v)) a k : Nat) : Int) ∧ ∀ j, 0 < j → j < k → pw (fmul p m (dv p v)) a j ≠ 1, fun i z => (q - i).toNat, ⟨1, rfl, by omega, by omega, by rw [R.pw_one hlt], fun j h1 h2 => by omega⟩, ?_⟩
  rintro _ _ ⟨k, rfl, hk0, hk, rfl, hno⟩
  dsimp only
  refine ⟨fun hne => ?_, fun heq => h1 k ⟨hk0, ?_, hno⟩ hk⟩
  · have hkq : k < q - 1 := by
      rcases Nat.lt_or_ge k (q - 1) with hc | hc
      · exact hc
      · rw [show k = q - 1 by omega, hone] at hne; exact absurd rfl hne
    refine ⟨small (by omega) (by omega), v_rMul F ?_⟩
    rw [hqq, inE_nat (R.pw_lt a k), inE_nat hlt]
    refine ⟨⟨k + 1, by push_cast; rfl, by omega, by omega, rfl, fun j h3 h4 => ?_⟩, by omega⟩
    by_cases hjk : j = k
    · subst hjk; intro e; rw [e] at hne; exact hne rfl
    · exact hno j h3 (by omega)
  · by_cases hc : ((pw (fmul p m (dv p v)) a k : Nat) : Int) = 1
    · omega
    · exact absurd hc heq
end
end Go.Proofs.Ytinibbfpdbddpaa
set_option linter.unusedVariables false
set_option linter.unusedSimpArgs false
namespace Go.Proofs.Ytinibbfpdbddpaa
/-! ### the methods -/
section
variable {F : GFv} {p m v g : Nat}
theorem v_Is {x : Int} {Q : Bool → Prop} (K : GFk F p m v g) (h : Q (decide (0 ≤ x ∧ x < ((p ^ m : Nat) : Int)))) : V_Is F x Q := by
  refine ⟨fun h0 => ?_, fun h0 => ?_⟩
  · rw [K.q]; simpa [h0] using h
  · simpa [h0] using h
theorem v_isUnit {x : Int} {Q : Bool → Prop} (K : GFk F p m v g) (h : Q (decide (inE (p ^ m) x ≠ 0))) : V_isUnit F x Q := by
  unfold inE at h
  refine ⟨fun h0 => ?_, fun h0 => ?_⟩
  · rw [K.q]
    by_cases hx : x < ((p ^ m : Nat) : Int)
    · rw [if_pos ⟨by omega, hx⟩] at h
      rw [decide_eq_true hx]
      rw [decide_eq_true (by omega)] at h; exact h
    · rw [if_neg (by omega)] at h
      rw [decide_eq_false hx]; exact h
  · by_cases hx : 0 ≤ x ∧ x < ((p ^ m : Nat) : Int)
    · rw [if_pos hx] at h
      rw [decide_eq_false (by omega)] at h; exact h
    · rw [if_neg hx] at h; exact h
theorem v_element {x : Int} {Q : Int → Prop} (K : GFk F p m v g) (h : Q ((inE (p ^ m) x : Nat) : Int)) : V_element F x Q := by
  refine v_Is K ⟨fun hb => ?_, fun hb => ?_⟩
  · have hb := of_decide_eq_true hb
    unfold inE at h
    rw [if_pos hb, Int.toNat_of_nonneg hb.1] at h; exact h
  · have hb := of_decide_eq_false hb
    unfold inE at h
    rw [if_neg hb] at h; exact h
theorem inE_cast {q : Nat} {x : Int} (h : inE q x ≠ 0) : x = ((inE q x : Nat) : Int) := by
  unfold inE at h ⊢
  split
  · rename_i hc; exact (Int.toNat_of_nonneg hc.1).symm
  · rename_i hc; rw [if_neg hc] at h; exact absurd rfl h
/-- an element but 0 is a power, and its logarithm stands in the table -/
theorem GFk.lg (K : GFk F p m v g) {x : Int} (h : inE (p ^ m) x ≠ 0) : ∃ a : Nat, a < p ^ m - 1 ∧ inE (p ^ m) x = pw (fmul p m (dv p v)) g a ∧ gi F.log x = (a : Int) ∧ (0 ≤ x ∧ x < (F.log.length : Nat)) := by
  have R := K.fv.ring
  have hlt := inE_lt R.pos x
  obtain ⟨a, ha, he⟩ := K.G.surj R (Nat.pos_of_ne_zero h) hlt
  have hx := inE_cast h
  refine ⟨a, ha, he.symm, ?_, ?_⟩
  · rw [hx, ← he, gi_nat, K.lv a ha]
  · rw [K.ll]; omega
theorem v_Mul {x y : Int} {Q : Int → Prop} (K : GFk F p m v g) (h : Q ((fmul p m (dv p v) (inE (p ^ m) x) (inE (p ^ m) y) : Nat) : Int)) : V_Mul F x y Q := by
  have R := K.fv.ring
  have hq := K.fv.q
  have hx := inE_lt R.pos x
  have hy := inE_lt R.pos y
  refine v_isUnit K ⟨fun hb => ?_, fun hb => v_isUnit K ⟨fun hb2 => ?_, fun hb2 => ?_⟩⟩
  · have h0 : inE (p ^ m) x = 0 := by simpa using hb
    rw [h0, R.Z0 hy] at h; exact h
  · have h0 : inE (p ^ m) y = 0 := by simpa using hb2
    rw [h0, R.M0 hx] at h; exact h
  · obtain ⟨a, ha, ea, la, bx⟩ := K.lg (x := x) (by simpa using hb)
    obtain ⟨b, hb', eb, lb, by_⟩ := K.lg (x := y) (by simpa using hb2)
    rw [la, lb]
    have hel := K.el
    refine ⟨bx, by_, small (by omega) (by omega), ⟨by omega, by omega⟩, ?_⟩
    rw [show (a : Int) + (b : Int) = ((a + b : Nat) : Int) by push_cast; rfl, gi_nat, K.ev _ (by omega), R.pw_add K.G.lt, ← ea, ← eb]; exact h
theorem xor_fadd {m x y : Nat} (hx : x < 2 ^ m) (hy : y < 2 ^ m) : x ^^^ y = fadd 2 m x y := by
  refine (nm_eq (by decide) (Nat.xor_lt_two_pow hx hy) fun i hi => ?_).symm
  have h := Nat.testBit_xor x y i
  rw [Nat.testBit_eq_decide_div_mod_eq, Nat.testBit_eq_decide_div_mod_eq, Nat.testBit_eq_decide_div_mod_eq] at h
  simp only [dv, vadd]
  have h1 := Nat.mod_two_eq_zero_or_one (x / 2 ^ i)
  have h2 := Nat.mod_two_eq_zero_or_one (y / 2 ^ i)
  have h3 := Nat.mod_two_eq_zero_or_one ((x ^^^ y) / 2 ^ i)
  rcases h1 with h1 | h1 <;> rcases h2 with h2 | h2 <;> rcases h3 with h3 | h3 <;> rw [h1, h2, h3] at h <;> rw [h1, h2, h3] <;> first | rfl | exact absurd h (by decide)
theorem v_Add {x y : Int} {Q : Int → Prop} (K : GFk F p m v g) (h : Q ((fadd p m (inE (p ^ m) x) (inE (p ^ m) y) : Nat) : Int)) : V_Add F x y Q := by
  have R := K.fv.ring
  have hq := K.fv.q
  have hx := inE_lt R.pos x
  have hy := inE_lt R.pos y
  have hq2 := R.q2
  refine v_element K (v_element K ⟨fun h2 => ⟨⟨by omega, by omega, by omega, by omega⟩, ?_⟩, fun h2 => ⟨fun h0 => ?_, fun h0 => ⟨fun h1 => ?_, fun h1 => ?_⟩⟩⟩)
  · have hp2 : p = 2 := by have := K.fv.eP; omega
    subst hp2
    rw [← xor_fadd hx hy] at h
    exact h
  · rw [show inE (p ^ m) x = 0 by omega, R.zA hy] at h; exact h
  · rw [show inE (p ^ m) y = 0 by omega, R.Az hx] at h; exact h
  · have hi : ∀ z : Nat, z < p ^ m → inE (p ^ m) (z : Int) = z := fun z hz => inE_nat hz
    obtain ⟨a, ha, ea, la, bx⟩ := K.lg (x := ((inE (p ^ m) x : Nat) : Int)) (by rw [hi _ hx]; omega)
    obtain ⟨b, hb, eb, lb, by_⟩ := K.lg (x := ((inE (p ^ m) y : Nat) : Int)) (by rw [hi _ hy]; omega)
    rw [hi _ hx] at ea
    rw [hi _ hy] at eb
    rw [la, lb]
    have hal := K.al
    have hel := K.el
    refine ⟨by_, bx, small (by omega) (by omega), fun z => ∃ d : Nat, z = d ∧ d < p ^ m - 1 ∧ pw (fmul p m (dv p v)) g (a + d) = pw (fmul p m (dv p v)) g b, ⟨fun hn => ?_, fun hn => ?_⟩, ?_⟩
    · rw [K.q]
      refine ⟨small (by omega) (by omega), small (by omega) (by omega), b + (p ^ m - 1) - a, by omega, by omega, ?_⟩
      have := K.G.per R b 1
      rw [Nat.mul_one] at this
      rw [show a + (b + (p ^ m - 1) - a) = b + (p ^ m - 1) by omega]; exact this
    · exact ⟨b - a, by omega, by omega, by rw [show a + (b - a) = b by omega]⟩
    · rintro _ ⟨d, rfl, hd, hpd⟩
      rw [gi_nat, K.av d hd]
      have hgd := R.pw_lt g d
      have hga := R.pw_lt g a
      -- x + y = x (g^d + 1)
      have hsum : fadd p m (inE (p ^ m) x) (inE (p ^ m) y) = fmul p m (dv p v) (pw (fmul p m (dv p v)) g a) (fadd p m (pw (fmul p m (dv p v)) g d) 1) := by
        rw [R.Md hga hgd R.one_lt, R.M1 hga, ← R.pw_add K.G.lt, hpd, ← ea, ← eb, R.Ac]
      rw [hsum] at h
      have hsl := R.Al (pw (fmul p m (dv p v)) g d) 1
      refine ⟨⟨by omega, by omega⟩, fun hm1 => ?_, fun hm1 => ?_⟩
      · have hz : fadd p m (pw (fmul p m (dv p v)) g d) 1 = 0 := by
          rcases Nat.eq_zero_or_pos (fadd p m (pw (fmul p m (dv p v)) g d) 1) with h3 | h3
          · exact h3
          · obtain ⟨s, hs, hse⟩ := K.G.surj R h3 hsl
            rw [← hse, K.lv s hs] at hm1; omega
        rw [hz, R.M0 hga] at h; exact h
      · have hnz : 0 < fadd p m (pw (fmul p m (dv p v)) g d) 1 := by
          rcases Nat.eq_zero_or_pos (fadd p m (pw (fmul p m (dv p v)) g d) 1) with h3 | h3
          · rw [h3, K.l0] at hm1; exact absurd rfl hm1
          · exact h3
        obtain ⟨s, hs, hse⟩ := K.G.surj R hnz hsl
        rw [← hse] at h ⊢
        rw [K.lv s hs]
        refine ⟨bx, small (by omega) (by omega), ⟨by omega, by omega⟩, ?_⟩
        rw [show (a : Int) + (s : Int) = ((a + s : Nat) : Int) by push_cast; rfl, gi_nat, K.ev _ (by omega), R.pw_add K.G.lt]; exact h
theorem v_Inv {x : Int} {Q : Int × Int → Prop} (K : GFk F p m v g) (h0 : inE (p ^ m) x = 0 → Q (0, 7)) (h1 : ∀ z : Nat, inE (p ^ m) x ≠ 0 → z < p ^ m → fmul p m (dv p v) z (inE (p ^ m) x) = 1 → Q ((z : Int), 0)) : V_Inv F x Q := by
  have R := K.fv.ring
  have hq := K.fv.q
  refine v_isUnit K ⟨fun hb => h0 (by simpa using hb), fun hb => ?_⟩
  have hne : inE (p ^ m) x ≠ 0 := by simpa using hb
  obtain ⟨a, ha, ea, la, bx⟩ := K.lg hne
  have hel := K.el
  rw [la, K.q]
  refine ⟨small (by omega) (by omega), bx, small (by omega) (by omega), ⟨by omega, by omega⟩, ?_⟩
  rw [show ((p ^ m : Nat) : Int) - 1 - (a : Int) = ((p ^ m - 1 - a : Nat) : Int) by omega, gi_nat, K.ev _ (by omega)]
  refine h1 _ hne (R.pw_lt g _) ?_
  rw [ea, ← R.pw_add K.G.lt, show p ^ m - 1 - a + a = p ^ m - 1 by omega, K.G.one]
theorem v_Div {x y : Int} {Q : Int × Int → Prop} (K : GFk F p m v g) (h0 : inE (p ^ m) y = 0 → Q (0, 7)) (h1 : ∀ z : Nat, inE (p ^ m) y ≠ 0 → z < p ^ m → fmul p m (dv p v) z (inE (p ^ m) y) = 1 → Q ((fmul p m (dv p v) (inE (p ^ m) x) z : Nat), 0)) : V_Div F x y Q := by
  have R := K.fv.ring
  refine v_Inv K (fun h => ?_) fun z hne hz h => ?_
  · refine v_Mul K ?_
    rw [show inE (p ^ m) 0 = 0 from inE_nat (x := 0) R.pos, R.M0 (inE_lt R.pos x)]
    exact h0 h
  · refine v_Mul K ?_
    rw [inE_nat hz]
    exact h1 z hne hz h
theorem v_exponent {n : Int} {Q : Int → Prop} (K : GFk F p m v g) (hn : I64 n) (h : Q (n % (((p ^ m : Nat) : Int) - 1))) : V_exponent F n Q := by
  have hq := K.fv.q
  have hq2 := K.fv.ring.q2
  unfold V_exponent
  rw [K.q]
  have hk : (0 : Int) < ((p ^ m : Nat) : Int) - 1 := by omega
  have t1 := Int.tmod_lt_of_pos n hk
  have t2 := Int.lt_tmod_of_pos n hk
  have hm := modk (n := n) hk
  refine ⟨small (by omega) (by omega), by omega, fun z => z = n % (((p ^ m : Nat) : Int) - 1), ⟨fun hneg => ⟨small (by omega) (by omega), small (by omega) (by omega), ?_⟩, fun hpos => ?_⟩, fun z hz => by rw [hz]; exact h⟩
  · rw [← hm, Int.tmod_eq_emod_of_nonneg (by omega), Int.emod_eq_of_lt (by omega) (by omega)]
  · rw [← hm, Int.tmod_eq_emod_of_nonneg (by omega), show n.tmod (((p ^ m : Nat) : Int) - 1) + (((p ^ m : Nat) : Int) - 1) = n.tmod (((p ^ m : Nat) : Int) - 1) + (((p ^ m : Nat) : Int) - 1) * 1 by omega, Int.add_mul_emod_self_left, Int.emod_eq_of_lt (by omega) (by omega)]
theorem v_Pow {x n : Int} {Q : Int × Int → Prop} (K : GFk F p m v g) (hn : I64 n) (h0 : inE (p ^ m) x = 0 → Q (if n = 0 then (1, 0) else if n < 0 then (0, 7) else (0, 0)))
    (h1 : inE (p ^ m) x ≠ 0 → Q (((pw (fmul p m (dv p v)) (inE (p ^ m) x) (n % (((p ^ m : Nat) : Int) - 1)).toNat : Nat) : Int), 0)) : V_Pow F x n Q := by
  have R := K.fv.ring
  have hq := K.fv.q
  have hq2 := R.q2
  refine v_isUnit K ⟨fun hb => ?_, fun hb => ?_⟩
  · have hne : inE (p ^ m) x ≠ 0 := by simpa using hb
    obtain ⟨a, ha, ea, la, bx⟩ := K.lg hne
    have hel := K.el
    have hk : (0 : Int) < ((p ^ m : Nat) : Int) - 1 := by omega
    have e1 := Int.emod_nonneg n (show ((p ^ m : Nat) : Int) - 1 ≠ 0 by omega)
    have e2 := Int.emod_lt_of_pos n hk
    have h1 := h1 hne
    refine ⟨bx, _, v_exponent K hn rfl, ?_⟩
    rw [la]
    obtain ⟨e, he⟩ := Int.eq_ofNat_of_zero_le e1
    rw [he] at h1 ⊢
    rw [Int.toNat_natCast] at h1
    have hae : a * e ≤ 256 * 256 := Nat.mul_le_mul (by omega) (by omega)
    have hcast : (a : Int) * (e : Int) = ((a * e : Nat) : Int) := by push_cast; rfl
    have hmod : ((a * e : Nat) : Int) % (((p ^ m : Nat) : Int) - 1) = ((a * e % (p ^ m - 1) : Nat) : Int) := by
      rw [show ((p ^ m : Nat) : Int) - 1 = ((p ^ m - 1 : Nat) : Int) by omega]; rfl
    have hlt := Nat.mod_lt (a * e) (show 0 < p ^ m - 1 by omega)
    rw [hcast]
    refine ⟨smallN (by omega), _, v_exponent K (smallN (by omega)) rfl, ?_⟩
    rw [hmod]
    refine ⟨⟨by omega, by omega⟩, ?_⟩
    rw [gi_nat, K.ev _ (by omega), K.G.modp R, ← R.pw_pw K.G.lt, ← ea]
    exact h1
  · have hz : inE (p ^ m) x = 0 := by simpa using hb
    have h0 := h0 hz
    refine ⟨fun hneg => ?_, fun hpos => ⟨fun hz0 => ?_, fun hz0 => ?_⟩⟩
    · rwa [if_neg (by omega), if_pos hneg] at h0
    · rwa [if_pos hz0] at h0
    · rwa [if_neg hz0, if_neg hpos] at h0
theorem od_gcd {q : Nat} {A M : Nat → Nat → Nat} {g : Nat} (G : Gn q M g) (R : CR q A M) (e : Nat) : Od M (pw M g e) ((q - 1) / Nat.gcd (q - 1) e) := by
  have hq := R.q2
  have hg : 0 < Nat.gcd (q - 1) e := Nat.gcd_pos_of_pos_left _ (by omega)
  have hle : Nat.gcd (q - 1) e ≤ q - 1 := Nat.le_of_dvd (by omega) (Nat.gcd_dvd_left _ _)
  have hpos : 0 < (q - 1) / Nat.gcd (q - 1) e := Nat.div_pos hle hg
  refine ⟨hpos, (G.ord_iff R e _).2 (Nat.dvd_refl _), fun k h0 hk h1 => ?_⟩
  have := Nat.le_of_dvd h0 ((G.ord_iff R e k).1 h1)
  omega
theorem Od.uniq {M : Nat → Nat → Nat} {x n k : Nat} (h : Od M x n) (h' : Od M x k) : n = k := by
  rcases Nat.lt_trichotomy n k with h1 | h1 | h1
  · exact absurd h.one (h'.least n h.pos h1)
  · exact h1
  · exact absurd h'.one (h.least k h'.pos h1)
theorem v_MulOrder {x : Int} {Q : Int × Int → Prop} (K : GFk F p m v g) (h0 : inE (p ^ m) x = 0 → Q (0, 7)) (h1 : ∀ a : Nat, a < p ^ m - 1 → inE (p ^ m) x = pw (fmul p m (dv p v)) g a → Q ((((p ^ m - 1) / Nat.gcd (p ^ m - 1) a : Nat) : Int), 0)) : V_MulOrder F x Q := by
  have R := K.fv.ring
  have hq := K.fv.q
  have hq2 := R.q2
  refine v_isUnit K ⟨fun hb => h0 (by simpa using hb), fun hb => ?_⟩
  have hne : inE (p ^ m) x ≠ 0 := by simpa using hb
  obtain ⟨a, ha, ea, la, bx⟩ := K.lg hne
  have h1 := h1 a ha ea
  rw [K.q, la]
  have e1 : ((p ^ m : Nat) : Int) - 1 = ((p ^ m - 1 : Nat) : Int) := by omega
  rw [e1]
  have hg : 0 < Nat.gcd (p ^ m - 1) a := Nat.gcd_pos_of_pos_left _ (by omega)
  have hd : (p ^ m - 1) / Nat.gcd (p ^ m - 1) a ≤ p ^ m - 1 := Nat.div_le_self _ _
  refine ⟨smallN (by omega), smallN (by omega), bx, _, v_gcd rfl, ⟨by omega, ?_⟩, h1⟩
  rw [tdivN]; exact smallN (by omega)
/-- sums -/
def fsum (p m : Nat) (l : List Int) : Nat → Nat
  | 0 => 0
  | k + 1 => fadd p m (fsum p m l k) (inE (p ^ m) (vo l k))
end
end Go.Proofs.Ytinibbfpdbddpaa
set_option linter.unusedVariables false
set_option linter.unusedSimpArgs false
namespace Go.Proofs.Ytinibbfpdbddpaa
/-! ### the laws -/
theorem prime2 : IsLf 2 2 := ⟨by decide, rfl, fun e he _ => he⟩
theorem prime3 : IsLf 3 3 := ⟨by decide, rfl, fun e he h => by
  rcases Nat.lt_or_ge e 3 with hc | hc
  · have : e = 2 := by omega
    subst this; exact absurd h (by decide)
  · exact hc⟩
theorem fv22 : FV 2 2 [1, 1] 2 2 3 := ⟨rfl, rfl, prime2, by decide, by decide, by decide, fun h => absurd h (by decide), fun _ => rfl, (irrB_iff (by decide) (by decide)).1 (by decide +kernel)⟩
theorem fv32 : FV 3 2 [1, 0] 3 2 1 := ⟨rfl, rfl, prime3, by decide, by decide, by decide, fun h => absurd h (by decide), fun _ => rfl, (irrB_iff (by decide) (by decide)).1 (by decide +kernel)⟩
theorem FV.same {P M : Int} {mf : List Int} {p m v p' m' v' : Nat} (F : FV P M mf p m v) (F' : FV P M mf p' m' v') : p = p' ∧ m = m' ∧ v = v' := by
  have h1 := F.eP; have h2 := F'.eP; have h3 := F.eM; have h4 := F'.eM
  have e1 : p = p' := by omega
  have e2 : m = m' := by omega
  subst e1; subst e2
  refine ⟨rfl, rfl, ?_⟩
  have hp := F.p2
  rw [← nm_dv (p := p) (m := m) (by omega) F.vlt, ← nm_dv (p := p) (m := m) (by omega) F'.vlt, ← F.vo, ← F'.vo]
theorem v_alive {Q : Bool → Prop} (h : Q true) : V_alive Q := by
  refine v_New (fun hn => absurd ⟨_, _, _, fv22⟩ hn) fun F p m v g K eP eM em => v_New (fun hn => absurd ⟨_, _, _, fv32⟩ hn) fun F' p' m' v' g' K' eP' eM' em' => ⟨fun h0 => absurd rfl h0, fun _ => ⟨fun h0 => absurd rfl h0, fun _ => ?_⟩⟩
  have hF : FV 2 2 [1, 1] p m v := by have := K.fv; rwa [eP, eM, em] at this
  have hF' : FV 3 2 [1, 0] p' m' v' := by have := K'.fv; rwa [eP', eM', em'] at this
  obtain ⟨rfl, rfl, rfl⟩ := fv22.same hF
  obtain ⟨rfl, rfl, rfl⟩ := fv32.same hF'
  refine v_Add K ⟨fun _ => v_Mul K ⟨fun _ => v_Mul K ⟨fun _ => v_Mul K' ?_, fun hn => absurd ?_ hn⟩, fun hn => absurd ?_ hn⟩, fun hn => absurd ?_ hn⟩
  · have : decide (((fmul 3 2 (dv 3 1) (inE (3 ^ 2) 3) (inE (3 ^ 2) 3) : Nat) : Int) = 2) = true := by decide +kernel
    rw [this]; exact h
  · decide +kernel
  · decide +kernel
  · decide +kernel
theorem v_made {P M : Int} {mf : List Int} {Q : Option GFv → Prop} (h0 : ¬ Valid P M mf → Q none) (h1 : ∀ (F : GFv) (p m v g : Nat), GFk F p m v g → FV P M mf p m v → Q (some F)) : V_made P M mf Q := by
  refine v_New (fun hn => ⟨fun e => absurd e (by decide), fun _ => h0 hn⟩) fun F p m v g K eP eM em => ⟨fun _ => v_rCheck ?_, fun hn => absurd rfl hn⟩
  have hF : FV P M mf p m v := by have := K.fv; rwa [eP, eM, em] at this
  exact ⟨ck_ok ⟨_, _, _, hF⟩, h1 F p m v g K hF⟩
theorem v_none {P M : Int} {mf : List Int} {Q : Bool → Prop} (hn : ¬ Valid P M mf) (h : Q true) : V_none P M mf Q := by
  refine v_New (fun _ => v_rCheck ?_) fun F p m v g K eP eM em => absurd ⟨p, m, v, by have := K.fv; rwa [eP, eM, em] at this⟩ hn
  rw [ck_no hn]
  exact ⟨fun _ => h, fun hc => absurd rfl hc⟩
theorem v_field {F : GFv} {Q : Int × Int × List Int → Prop} (hl : F.mod.length ≤ 1000000) (h : Q (F.P, F.M, F.mod)) : V_field F Q := by
  unfold V_field V_cloneF
  exact v_clone hl h
theorem FV.len {P M : Int} {mf : List Int} {p m v : Nat} (F : FV P M mf p m v) : mf.length ≤ 1000000 := by
  have := F.m8
  by_cases hm1 : m = 1
  · rw [(F.m1 hm1).1]; simp
  · rw [F.m2 hm1, dgi_len]; omega
theorem same_refl (P M : Int) (mf : List Int) : sameR P M mf P M mf = true := by simp [sameR]
theorem law_FieldChecks (P M : Int) (mf : List Int) (x : Int) : V_FieldChecks P M mf x (fun b => b = true) := by
  refine v_alive ⟨fun h => absurd h (by decide), fun _ => v_rCheck (v_New (fun hn => ?_) fun F p m v g K eP eM em => ?_)⟩
  · rw [ck_no hn]
    refine v_check ?_
    rw [ck_no hn]
    exact ⟨fun h => absurd rfl h, fun _ => ⟨fun h => absurd rfl h, fun _ => ⟨fun _ => rfl, fun h => absurd (show (1 : Int) ≠ 0 by decide) h⟩⟩⟩
  · have hF : FV P M mf p m v := by have := K.fv; rwa [eP, eM, em] at this
    rw [ck_ok ⟨_, _, _, hF⟩]
    refine v_check ?_
    rw [ck_ok ⟨_, _, _, hF⟩]
    have hl := hF.len
    refine ⟨fun h => absurd rfl h, fun _ => ⟨fun h => absurd rfl h, fun _ => ⟨fun h => absurd rfl h, fun _ => ?_⟩⟩⟩
    refine ⟨P, M, mf, v_field (by rw [em]; exact hl) (by rw [eP, eM, em]), v_same (by omega) (same_refl P M mf), P, M, mf, v_field (by rw [em]; exact hl) (by rw [eP, eM, em]), v_rSame (by omega) (same_refl P M mf), F.q, rfl, _, v_rOrder rfl, ?_, _, v_Is K rfl, _, v_rIs hF rfl, ?_⟩
    · rw [K.q, hF.ord]
    · simp
theorem law_FieldSame (P M : Int) (mf : List Int) (P' M' : Int) (mh : List Int) (h1 : mf.length ≤ 9223372036854775807) (h2 : mh.length ≤ 9223372036854775807) : V_FieldSame P M mf P' M' mh (fun b => b = true) := by
  refine v_alive ⟨fun h => absurd h (by decide), fun _ => ⟨_, v_same h1 rfl, _, v_rSame h1 rfl, by simp, v_same h1 (same_refl P M mf), _, v_same h2 rfl, _, v_same h1 rfl, ?_⟩⟩
  have : sameR P' M' mh P M mf = sameR P M mf P' M' mh := by
    unfold sameR
    refine decide_eq_decide.2 ⟨fun ⟨a, b, c⟩ => ⟨a.symm, b.symm, c.symm⟩, fun ⟨a, b, c⟩ => ⟨a.symm, b.symm, c.symm⟩⟩
  rw [this]; simp
theorem law_FieldMultiplies (P M : Int) (mf : List Int) (x y : Int) : V_FieldMultiplies P M mf x y (fun b => b = true) := by
  refine v_alive ⟨fun h => absurd h (by decide), fun _ => v_made (fun hn => v_none hn rfl) fun F p m v g K hF => ?_⟩
  exact ⟨_, v_Mul K rfl, _, v_rMul hF rfl, rfl, rfl⟩
theorem law_FieldDivides (P M : Int) (mf : List Int) (x y : Int) : V_FieldDivides P M mf x y (fun b => b = true) := by
  refine v_alive ⟨fun h => absurd h (by decide), fun _ => v_made (fun hn => v_none hn rfl) fun F p m v g K hF => ?_⟩
  have R := hF.ring
  have hx := inE_lt R.pos x
  have hy := inE_lt R.pos y
  refine ⟨_, v_rIn hF rfl, _, v_rIn hF rfl, v_Inv K (fun h0 => v_Div K (fun _ => ?_) fun z hne _ _ => absurd h0 hne) fun z hne hz hzi => v_Div K (fun h0 => absurd h0 hne) fun z2 _ hz2 hzi2 => ?_⟩
  · exact ⟨fun _ => ⟨fun _ => ⟨fun _ => ⟨fun _ => rfl, fun h => absurd rfl h⟩, fun h => absurd rfl h⟩, fun h => absurd rfl h⟩, fun h => absurd (by rw [h0]; rfl) h⟩
  · refine ⟨fun h => absurd h (by omega), fun _ => ⟨fun _ => ⟨fun _ => v_Is K ⟨fun _ => v_Is K ⟨fun _ => v_rMul hF ⟨fun _ => v_rMul hF ?_, fun h => absurd ?_ h⟩, fun h => absurd h ?_⟩, fun h => absurd h ?_⟩, fun h => absurd rfl h⟩, fun h => absurd rfl h⟩⟩
    · rw [inE_nat (R.Ml _ _), inE_nat hy, R.Ma hx hz2 hy, hzi2, R.M1 hx]
      exact decide_eq_true rfl
    · rw [inE_nat hz, inE_nat hy, hzi]; rfl
    · have := R.Ml (inE (p ^ m) x) z2
      rw [decide_eq_true (by omega)]; decide
    · rw [decide_eq_true (by omega)]; decide
theorem law_FieldPowers (P M : Int) (mf : List Int) (x n : Int) (hn : I64 n) : V_FieldPowers P M mf x n (fun b => b = true) := by
  refine v_alive ⟨fun h => absurd h (by decide), fun _ => v_made (fun hn => v_none hn rfl) fun F p m v g K hF => ?_⟩
  refine v_Pow K hn (fun h0 => ?_) (fun h1 => v_rPow hF (fun h0 => absurd h0 h1) (fun _ => ⟨fun _ => decide_eq_true rfl, fun h => absurd rfl h⟩) hn)
  by_cases c1 : n = 0
  · rw [if_pos c1]
    refine v_rPow hF (fun _ => ?_) (fun h1 => absurd h0 h1) hn
    rw [if_pos c1]; exact ⟨fun _ => rfl, fun h => absurd rfl h⟩
  · rw [if_neg c1]
    by_cases c2 : n < 0
    · rw [if_pos c2]
      refine v_rPow hF (fun _ => ?_) (fun h1 => absurd h0 h1) hn
      rw [if_neg c1, if_pos c2]; exact ⟨fun _ => rfl, fun h => absurd rfl h⟩
    · rw [if_neg c2]
      refine v_rPow hF (fun _ => ?_) (fun h1 => absurd h0 h1) hn
      rw [if_neg c1, if_neg c2]; exact ⟨fun _ => rfl, fun h => absurd rfl h⟩
theorem law_FieldAxioms (P M : Int) (mf : List Int) (x y z : Int) : V_FieldAxioms P M mf x y z (fun b => b = true) := by
  refine v_alive ⟨fun h => absurd h (by decide), fun _ => v_made (fun hn => v_none hn rfl) fun F p m v g K hF => ?_⟩
  have R := hF.ring
  have hx := inE_lt R.pos x
  have hy := inE_lt R.pos y
  have hz := inE_lt R.pos z
  have h0 : inE (p ^ m) 0 = 0 := inE_nat (x := 0) R.pos
  have h1 : inE (p ^ m) 1 = 1 := inE_nat (x := 1) R.one_lt
  refine v_Add K (v_rIn hF ⟨fun h => absurd ?_ h, fun _ => v_Mul K ⟨fun h => absurd ?_ h, fun _ => v_Add K (v_Add K ⟨fun h => absurd ?_ h, fun _ => v_Mul K (v_Mul K ⟨fun h => absurd ?_ h, fun _ => v_Add K (v_Add K (v_Add K (v_Add K ⟨fun _ => v_Mul K (v_Mul K (v_Mul K (v_Mul K ⟨fun _ => v_Add K (v_Mul K (v_Mul K (v_Mul K (v_Add K ?_)))), fun h => absurd ?_ h⟩))), fun h => absurd ?_ h⟩)))⟩)⟩)⟩⟩)
  · rw [h0, R.Az hx]
  · rw [h0, h1, R.Az hx, R.M1 hx]
  · rw [R.Ac]
  · rw [R.Mc hx hy]
  · rw [inE_nat (R.Al _ _), inE_nat (R.Ml _ _), inE_nat (R.Ml _ _), R.Md hx hy hz]; exact decide_eq_true rfl
  · rw [inE_nat (R.Ml _ _), inE_nat (R.Ml _ _), R.Ma hx hy hz]
  · rw [inE_nat (R.Al _ _), inE_nat (R.Al _ _), R.Aa hx hy hz]
theorem law_FieldOrders (P M : Int) (mf : List Int) (x : Int) : V_FieldOrders P M mf x (fun b => b = true) := by
  refine v_alive ⟨fun h => absurd h (by decide), fun _ => v_made (fun hn => v_none hn rfl) fun F p m v g K hF => ?_⟩
  have R := hF.ring
  have hq := hF.q
  have hq2 := R.q2
  refine v_MulOrder K (fun h0 => v_rMulOrder hF (fun _ => ?_) fun n h1 => absurd h0 h1) fun a ha ea => v_rMulOrder hF (fun h0 => absurd (ea.symm.trans h0) (K.G.ne0 R a)) fun n h1 O hn => ?_
  · exact ⟨fun _ => ⟨fun _ => rfl, fun h => absurd rfl h⟩, fun h => absurd rfl h⟩
  · rw [ea] at O
    have e := O.uniq (od_gcd K.G R a)
    have hpos := O.pos
    rw [← e]
    refine ⟨fun h => absurd h (by omega), fun _ => ⟨fun _ => ⟨fun _ => ?_, fun h => absurd rfl h⟩, fun h => absurd rfl h⟩⟩
    show I64 (F.q - 1) ∧ _
    rw [K.q]
    refine ⟨small (by omega) (by omega), by omega, ?_⟩
    rw [show ((p ^ m : Nat) : Int) - 1 = ((p ^ m - 1 : Nat) : Int) by omega, tmodN]
    refine decide_eq_true ?_
    have hd : n ∣ p ^ m - 1 := by rw [e]; exact Nat.div_dvd_of_dvd (Nat.gcd_dvd_left _ _)
    rw [Nat.mod_eq_zero_of_dvd hd]; rfl
theorem law_FieldElements (P M : Int) (mf : List Int) (x : Int) : V_FieldElements P M mf x (fun b => b = true) := by
  refine v_alive ⟨fun h => absurd h (by decide), fun _ => v_made (fun hn => v_none hn rfl) fun F p m v g K hF => ?_⟩
  have hq := hF.q
  have hq2 := hF.ring.q2
  show I64 F.q ∧ _
  rw [K.q]
  refine ⟨smallN (by omega), fun i z => z = (i : Int) ∧ ¬ (1 ≤ x ∧ x ≤ (i : Int)), fun z => z = x ∧ 1 ≤ x ∧ x ≤ ((p ^ m : Nat) : Int), fun _ => False, ⟨rfl, by omega⟩, ?_, ?_, ?_, fun _ h => h.elim⟩
  · rintro i hi _ ⟨rfl, hx⟩
    rw [Int.toNat_natCast] at hi
    exact ⟨fun h => absurd rfl h, fun _ => ⟨small (by omega) (by omega), fun he => ⟨he, by omega, by omega⟩, fun hne => ⟨by push_cast; rfl, by omega⟩⟩⟩
  · rintro _ ⟨rfl, hx⟩
    rw [Int.toNat_natCast] at hx ⊢
    refine v_rOrder ?_
    rw [hF.ord]
    exact ⟨fun _ => decide_eq_true rfl, fun h1 => ⟨fun _ => decide_eq_true rfl, fun h2 => absurd (show 1 ≤ x ∧ x ≤ ((p ^ m : Nat) : Int) by omega) hx⟩⟩
  · rintro _ ⟨rfl, h1, h2⟩
    refine v_rOrder ?_
    rw [hF.ord]
    exact ⟨fun h => absurd h (by omega), fun _ => ⟨fun h => absurd h (by omega), fun _ => decide_eq_true rfl⟩⟩
end Go.Proofs.Ytinibbfpdbddpaa
