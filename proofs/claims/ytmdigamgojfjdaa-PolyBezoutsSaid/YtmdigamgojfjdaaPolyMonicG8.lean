/- Contracts of functions of the program, and what they lean on: V5, V6, Pa, Pb, P1. -/
import Derived.Test.YtmdigamgojfjdaaPolyMonicG7
set_option linter.unusedVariables false
set_option linter.unusedSimpArgs false
namespace Go.Proofs.Ytmdigamgojfjdaa
/-! ### the reference's arithmetic -/
/-- the element that x stands for -/
def inE (q : Nat) (x : Int) : Nat := if 0 ≤ x ∧ x < q then x.toNat else 0
theorem inE_lt {q : Nat} (hq : 0 < q) (x : Int) : inE q x < q := by unfold inE; split <;> omega
theorem inE_nat {q x : Nat} (h : x < q) : inE q (x : Int) = x := by unfold inE; rw [if_pos (by omega)]; rfl
section
variable {P M : Int} {mf : List Int} {p m v : Nat}
theorem FV.ord (F : FV P M mf p m v) : ordR P M = ((p ^ m : Nat) : Int) := by
  rw [F.eP, F.eM, ordR, if_pos]
  · simp
  · have := F.p2; have := F.m0; have := F.q
    exact ⟨by omega, by omega, by simpa using this⟩
theorem FV.i64 (F : FV P M mf p m v) : I64 P := by
  have := F.p256; rw [F.eP]; exact small (by omega) (by omega)
theorem v_rIs (F : FV P M mf p m v) {x : Int} {Q : Bool → Prop} (h : Q (decide (0 ≤ x ∧ x < ((p ^ m : Nat) : Int)))) : V_rIs P M mf x Q := by
  refine ⟨fun h0 => v_rOrder ?_, fun h0 => ?_⟩
  · rw [F.ord]; simpa [h0] using h
  · simpa [h0] using h
theorem v_rIn (F : FV P M mf p m v) {x : Int} {Q : Int → Prop} (h : Q ((inE (p ^ m) x : Nat) : Int)) : V_rIn P M mf x Q := by
  refine v_rIs F ⟨fun hb => ?_, fun hb => ?_⟩
  · have hb := of_decide_eq_true hb
    unfold inE at h
    rw [if_pos hb] at h
    rwa [Int.toNat_of_nonneg hb.1] at h
  · have hb := of_decide_eq_false hb
    unfold inE at h
    rw [if_neg hb] at h
    exact h
theorem v_rDigits (F : FV P M mf p m v) {x : Int} {Q : List Int → Prop} (h : Q (dgi p m (inE (p ^ m) x))) : V_rDigits P M mf x Q := by
  have hp := F.p2
  have hq := F.q
  have hm8 := F.m8
  have hlt := inE_lt F.ring.pos x
  refine ⟨_, v_rIn F rfl, _, ?_, h⟩
  rw [F.eP, F.eM]
  exact v_rdigits (by omega) (by omega) (by omega) rfl
theorem v_rVal (F : FV P M mf p m v) {l : List Int} {u : Vec} {Q : Int → Prop} (hl : l.length = m) (hv : ∀ i, i < m → vo l i = u i % (p : Int)) (h : Q ((nm p m u : Nat) : Int)) : V_rValue P M mf l Q := by
  have hp := F.p2
  rw [can_list (by omega) hl hv, F.eP]
  have hlt := nm_lt (p := p) (m := m) (by omega) u
  refine v_rValue hp F.p256 (by rw [dgi_len]; have := F.m8; omega) (by rw [dgi_len]; exact dgi_cn (by omega) hlt _) (by rw [dgi_len]; exact F.q) ?_
  rw [vl_dgi (by omega) hlt]; exact h
theorem v_rAdd (F : FV P M mf p m v) {x y : Int} {Q : Int → Prop} (h : Q ((fadd p m (inE (p ^ m) x) (inE (p ^ m) y) : Nat) : Int)) : V_rAdd P M mf x y Q := by
  have hp := F.p2
  have hp2 := F.p256
  have hm8 := F.m8
  have hx := inE_lt F.ring.pos x
  have hy := inE_lt F.ring.pos y
  refine v_rDigits F (v_rDigits F ?_)
  generalize inE (p ^ m) x = a at *
  generalize inE (p ^ m) y = b at *
  have hla := dgi_len p m a
  have hlb := dgi_len p m b
  rw [hla]
  refine ⟨fun l z => ∃ k : Nat, z = k ∧ k ≤ m ∧ l.length = m ∧ ∀ i, i < m → vo l i = if i < k then (vadd (dv p a) (dv p b)) i % (p : Int) else dv p a i, fun l z => (m - z).toNat, ⟨0, rfl, Nat.zero_le _, hla, fun i hi => by rw [if_neg (by omega), dgi_at hi]⟩, ?_⟩
  rintro l _ ⟨k, rfl, hk, hl, hv⟩
  dsimp only
  rw [gi_nat, gi_nat, si_nat]
  refine ⟨fun hlt => ?_, fun hge => v_rVal F hl (fun i hi => by rw [hv i hi, if_pos (by omega)]) h⟩
  rw [hv k (by omega), if_neg (by omega), dgi_at (by omega)]
  have c1 := dv_le (p := p) (by omega) a k
  have c2 := dv_le (p := p) (by omega) b k
  refine ⟨⟨by omega, by omega⟩, ⟨by omega, by omega⟩, small (by omega) (by omega), by rw [F.eP]; omega, ⟨by omega, by omega⟩, small (by omega) (by omega), ⟨k + 1, by push_cast; rfl, by omega, by rw [List.length_set, hl], fun i hi => ?_⟩, by omega⟩
  rw [vo_set]
  by_cases hki : k = i
  · subst hki
    rw [if_pos ⟨rfl, by omega⟩, if_pos (by omega), F.eP, Int.tmod_eq_emod_of_nonneg (by omega)]; rfl
  · rw [if_neg (fun h => hki h.1), hv i hi]
    by_cases hik : i < k
    · rw [if_pos hik, if_pos (by omega)]
    · rw [if_neg hik, if_neg (by omega)]
theorem v_rNeg (F : FV P M mf p m v) {x : Int} {Q : Int → Prop} (h : Q ((fneg p m (inE (p ^ m) x) : Nat) : Int)) : V_rNeg P M mf x Q := by
  have hp := F.p2
  have hp2 := F.p256
  have hm8 := F.m8
  have hx := inE_lt F.ring.pos x
  refine v_rDigits F ?_
  generalize inE (p ^ m) x = a at *
  have hla := dgi_len p m a
  rw [hla]
  refine ⟨fun l z => ∃ k : Nat, z = k ∧ k ≤ m ∧ l.length = m ∧ ∀ i, i < m → vo l i = if i < k then (vsm (-1) (dv p a)) i % (p : Int) else dv p a i, fun l z => (m - z).toNat, ⟨0, rfl, Nat.zero_le _, hla, fun i hi => by rw [if_neg (by omega), dgi_at hi]⟩, ?_⟩
  rintro l _ ⟨k, rfl, hk, hl, hv⟩
  dsimp only
  rw [gi_nat, si_nat]
  refine ⟨fun hlt => ?_, fun hge => v_rVal F hl (fun i hi => by rw [hv i hi, if_pos (by omega)]) h⟩
  rw [hv k (by omega), if_neg (by omega)]
  have c1 := dv_le (p := p) (by omega) a k
  rw [F.eP]
  refine ⟨⟨by omega, by omega⟩, small (by omega) (by omega), by omega, ⟨by omega, by omega⟩, small (by omega) (by omega), ⟨k + 1, by push_cast; rfl, by omega, by rw [List.length_set, hl], fun i hi => ?_⟩, by omega⟩
  rw [vo_set]
  by_cases hki : k = i
  · subst hki
    rw [if_pos ⟨rfl, by omega⟩, if_pos (by omega), Int.tmod_eq_emod_of_nonneg (by omega)]
    show _ = (-1 * dv p a k) % (p : Int)
    rw [show (p : Int) - dv p a k = -1 * dv p a k + p * 1 by omega, Int.add_mul_emod_self_left]
  · rw [if_neg (fun h => hki h.1), hv i hi]
    by_cases hik : i < k
    · rw [if_pos hik, if_pos (by omega)]
    · rw [if_neg hik, if_neg (by omega)]
end
/-! the product by convolution -/
theorem opr_upd {p m : Nat} {c w w' u : Vec} {s : Int} {k : Nat} (hk : w' k % (p : Int) = (w k + s) % (p : Int)) (ho : ∀ i, i ≠ k → w' i = w i) : ∀ n, vcg p (opr m c w' n u) (vadd (opr m c w n u) (if k < n then vsm s (tXn m c k u) else vz))
  | 0 => fun i => by simp [opr, vadd, vz]
  | n + 1 => fun i => by
    have ih := opr_upd hk ho (m := m) (c := c) (u := u) n i
    show (opr m c w' n u i + w' n * tXn m c n u i) % (p : Int) = ((opr m c w n u i + w n * tXn m c n u i) + (if k < n + 1 then vsm s (tXn m c k u) else vz) i) % (p : Int)
    rcases Nat.lt_trichotomy k n with h | h | h
    · rw [if_pos (by omega)]
      rw [if_pos h] at ih
      rw [ho n (by omega)]
      have := add_cg ih (rfl : (w n * tXn m c n u i) % (p : Int) = _)
      rw [this]
      congr 1
      show opr m c w n u i + (vsm s (tXn m c k u)) i + _ = _
      omega
    · subst h
      rw [if_pos (by omega)]
      rw [if_neg (by omega)] at ih
      have := add_cg ih (mul_cg hk (rfl : (tXn m c k u i) % (p : Int) = _))
      rw [this]
      congr 1
      show opr m c w k u i + 0 + (w k + s) * tXn m c k u i = _ + s * tXn m c k u i
      rw [Int.add_mul]; omega
    · rw [if_neg (by omega)]
      rw [if_neg (by omega)] at ih
      rw [ho n (by omega)]
      have := add_cg ih (rfl : (w n * tXn m c n u i) % (p : Int) = _)
      rw [this]
      congr 1
      show opr m c w n u i + 0 + _ = _ + 0
      omega
theorem Xm {m : Nat} {c : Vec} (hm : 0 < m) : tXn m c m e0 = vsm (-1) (opr m c c m e0) := by
  obtain ⟨n, rfl⟩ : ∃ n, m = n + 1 := ⟨m - 1, by omega⟩
  show tX (n + 1) c (tXn (n + 1) c n e0) = _
  rw [tXn_e0 (by omega)]
  funext i
  simp only [vsm]
  rw [opr_e0 (Nat.le_refl _)]
  simp only [tX, vei]
  by_cases hi : i < n + 1
  · rw [if_pos hi, if_pos hi]
    have e1 : (if i = 0 then (0 : Int) else if i - 1 = n then 1 else 0) = 0 := by
      split
      · rfl
      · rw [if_neg (by omega)]
    rw [e1, show n + 1 - 1 = n by omega, if_pos rfl]; omega
  · rw [if_neg hi, if_neg hi]; rfl
section
variable {P M : Int} {mf : List Int} {p m v : Nat}
theorem v_rMul (F : FV P M mf p m v) {x y : Int} {Q : Int → Prop} (h : Q ((fmul p m (dv p v) (inE (p ^ m) x) (inE (p ^ m) y) : Nat) : Int)) : V_rMul P M mf x y Q := by
  have hp := F.p2
  have hp2 := F.p256
  have hm0 := F.m0
  have hm8 := F.m8
  have hx := inE_lt F.ring.pos x
  have hy := inE_lt F.ring.pos y
  refine v_rDigits F (v_rDigits F ?_)
  obtain rfl := F.eP
  obtain rfl := F.eM
  generalize inE (p ^ m) x = a at *
  generalize inE (p ^ m) y = b at *
  rw [fmul_comm hx hy] at h
  have hla := dgi_len p m a
  have hlb := dgi_len p m b
  have hva := dgi_vo hx
  have hvb := dgi_vo hy
  have hsa := dv_sup hx
  have hsb := dv_sup hy
  have hN : (2 * (m : Int) - 1).toNat = 2 * m - 1 := by omega
  have e2 : (2 * (m : Int) - 1) = ((2 * m - 1 : Nat) : Int) := by omega
  rw [e2]
  generalize hNN : 2 * m - 1 = N at *
  rw [Int.toNat_natCast]
  have hself := opr_self (c := dv p v) hsb
  refine ⟨small (by omega) (by omega), smallN (by omega), ⟨by omega, by omega, by omega⟩, ?_⟩
  refine ⟨fun l z => ∃ k : Nat, z = k ∧ k ≤ m ∧ l.length = N ∧ Cn p N (vo l) ∧ vcg p (opr m (dv p v) (vo l) N e0) (opr m (dv p v) (dv p a) k (dv p b)), fun l z => (m - z).toNat, ⟨0, rfl, Nat.zero_le _, by simp, fun i hi => by rw [vo_rep]; omega, ?_⟩, ?_⟩
  · have : vo (List.replicate N (0 : Int)) = vz := by funext i; rw [vo_rep]; rfl
    rw [this]
    have h0 : ∀ n, opr m (dv p v) vz n e0 = vz := fun n => by
      induction n with
      | zero => rfl
      | succ n ih => show vadd (opr m (dv p v) vz n e0) (vsm (vz n) _) = vz; rw [ih]; funext i; simp [vadd, vsm, vz]
    rw [h0]; exact vcg.refl _
  rintro l _ ⟨i, rfl, hi, hl, hcn, hE⟩
  dsimp only
  refine ⟨fun hlt => ?_, fun hge => ?_⟩
  · refine ⟨fun r z => ∃ j : Nat, z = j ∧ j ≤ m ∧ r.length = N ∧ Cn p N (vo r) ∧ vcg p (opr m (dv p v) (vo r) N e0) (vadd (opr m (dv p v) (dv p a) i (dv p b)) (vsm (dv p a i) (tXn m (dv p v) i (opr m (dv p v) (dv p b) j e0)))), fun r z => (m - z).toNat, ⟨0, rfl, Nat.zero_le _, hl, hcn, ?_⟩, ?_⟩
    · show vcg p _ (vadd _ (vsm _ (tXn m (dv p v) i vz)))
      rw [tXn_z, vsm_z, vadd_z]; exact hE
    rintro r _ ⟨j, rfl, hj, hr, hcr, hEr⟩
    dsimp only
    rw [show (i : Int) + (j : Int) = ((i + j : Nat) : Int) by push_cast; rfl, gi_nat, gi_nat, gi_nat, si_nat, hva, hvb]
    refine ⟨fun hltj => ?_, fun hgej => ?_⟩
    · have c1 := dv_le (p := p) (by omega) a i
      have c2 := dv_le (p := p) (by omega) b j
      have c3 := hcr (i + j) (by omega)
      have c4 := bd_mul (a := dv p a i) (b := dv p b j) hp2 ⟨c1.1, by omega⟩ ⟨c2.1, by omega⟩
      refine ⟨smallN (by omega), smallN (by omega), ⟨by omega, by omega⟩, ⟨by omega, by omega⟩, ⟨by omega, by omega⟩, small (by omega) (by omega), small (by omega) (by omega), by omega, ⟨by omega, by omega⟩, small (by omega) (by omega), ⟨j + 1, by push_cast; rfl, by omega, by rw [List.length_set, hr], fun t ht => ?_, ?_⟩, by omega⟩
      · rw [vo_set]; split
        · rw [Int.tmod_eq_emod_of_nonneg (by omega)]
          exact ⟨Int.emod_nonneg _ (by omega), Int.emod_lt_of_pos _ (by omega)⟩
        · exact hcr t ht
      · have hup := opr_upd (p := p) (m := m) (c := dv p v) (w := vo r) (w' := vo (r.set (i + j) ((vo r (i + j) + dv p a i * dv p b j).tmod p))) (u := e0) (s := dv p a i * dv p b j) (k := i + j) (by
          rw [vo_set, if_pos ⟨rfl, by omega⟩, Int.tmod_eq_emod_of_nonneg (by omega), Int.emod_emod]) (fun t ht => by rw [vo_set, if_neg (fun h => ht h.1.symm)]) N
        rw [if_pos (by omega)] at hup
        refine hup.trans ((hEr.add (vcg.refl _)).trans ?_)
        show vcg p _ (vadd _ (vsm _ (tXn m (dv p v) i (vadd (opr m (dv p v) (dv p b) j e0) (vsm (dv p b j) (tXn m (dv p v) j e0))))))
        rw [tXn_add, tXn_sm, tXn_tXn, vsm_add, vsm_sm, ← vadd_assoc]
        exact vcg.refl _
    · have hjm : j = m := by omega
      subst hjm
      rw [hself] at hEr
      exact ⟨small (by omega) (by omega), ⟨i + 1, by push_cast; rfl, by omega, hr, hcr, hEr⟩, by omega⟩
  · have him : i = m := by omega
    subst him
    have hE2 : vcg p (opr i (dv p v) (vo l) N e0) (vmul i (dv p v) (dv p b) (dv p a)) := hE
    refine ⟨small (by omega) (by omega), small (by omega) (by omega), ?_⟩
    refine ⟨fun r z => ∃ t : Nat, z = (t : Int) - 1 ∧ i ≤ t ∧ t ≤ N ∧ r.length = N ∧ Cn p N (vo r) ∧ vcg p (opr i (dv p v) (vo r) t e0) (vmul i (dv p v) (dv p b) (dv p a)), fun r z => (z + 1).toNat, ⟨N, by omega, by omega, by omega, hl, hcn, hE2⟩, ?_⟩
    rintro r _ ⟨t, rfl, hit, htN, hr, hcr, hEr⟩
    dsimp only
    refine ⟨fun hle => ?_, fun hgt => ?_⟩
    · obtain ⟨k, rfl⟩ : ∃ k, t = k + 1 := ⟨t - 1, by omega⟩
      have ek : ((k + 1 : Nat) : Int) - 1 = (k : Int) := by omega
      rw [ek] at hle ⊢
      have hm1 : i ≠ 1 := by omega
      have hmf : vo mf = dv p v := F.vo
      have hml : mf.length = i := (F.cn hm1).1
      have hwk := hcr k (by omega)
      refine ⟨fun s z => ∃ j : Nat, z = j ∧ j ≤ i ∧ s.length = N ∧ Cn p N (vo s) ∧ vo s k = vo r k ∧ vcg p (opr i (dv p v) (vo s) k e0) (vadd (opr i (dv p v) (vo r) k e0) (vsm (-(vo r k)) (tXn i (dv p v) (k - i) (opr i (dv p v) (dv p v) j e0)))), fun s z => (i - z).toNat, ⟨0, rfl, Nat.zero_le _, hr, hcr, rfl, ?_⟩, ?_⟩
      · show vcg p _ (vadd _ (vsm _ (tXn i (dv p v) (k - i) vz)))
        rw [tXn_z, vsm_z, vadd_z]; exact vcg.refl _
      rintro s _ ⟨j, rfl, hj, hs, hcs, hsk, hEs⟩
      dsimp only
      rw [show (k : Int) - (i : Int) + (j : Int) = ((k - i + j : Nat) : Int) by omega, gi_nat, gi_nat, gi_nat, si_nat, hmf, hsk]
      refine ⟨fun hltj => ?_, fun hgej => ?_⟩
      · have c1 := dv_le (p := p) (by omega) v j
        have c3 := hcs (k - i + j) (by omega)
        have c4 := bd_mul (a := (p : Int) - vo r k) (b := dv p v j) hp2 ⟨by omega, by omega⟩ ⟨c1.1, by omega⟩
        refine ⟨small (by omega) (by omega), smallN (by omega), small (by omega) (by omega), smallN (by omega), ⟨by omega, by omega⟩, ⟨by omega, by omega⟩, small (by omega) (by omega), ⟨by omega, by omega⟩, small (by omega) (by omega), small (by omega) (by omega), by omega, ⟨by omega, by omega⟩, small (by omega) (by omega), ⟨j + 1, by push_cast; rfl, by omega, by rw [List.length_set, hs], fun u hu => ?_, ?_, ?_⟩, by omega⟩
        · rw [vo_set]; split
          · rw [Int.tmod_eq_emod_of_nonneg (by omega)]
            exact ⟨Int.emod_nonneg _ (by omega), Int.emod_lt_of_pos _ (by omega)⟩
          · exact hcs u hu
        · rw [vo_set, if_neg (by omega)]; exact hsk
        · have hup := opr_upd (p := p) (m := i) (c := dv p v) (w := vo s) (w' := vo (s.set (k - i + j) ((vo s (k - i + j) + ((p : Int) - vo r k) * dv p v j).tmod p))) (u := e0) (s := -(vo r k) * dv p v j) (k := k - i + j) (by
            rw [vo_set, if_pos ⟨rfl, by omega⟩, red_eq (by omega) c3.1 (by omega) c1.1, Int.emod_emod, Int.neg_mul]; rfl) (fun t ht => by rw [vo_set, if_neg (fun h => ht h.1.symm)]) k
          rw [if_pos (by omega)] at hup
          refine hup.trans ((hEs.add (vcg.refl _)).trans ?_)
          show vcg p _ (vadd _ (vsm _ (tXn i (dv p v) (k - i) (vadd (opr i (dv p v) (dv p v) j e0) (vsm (dv p v j) (tXn i (dv p v) j e0))))))
          rw [tXn_add, tXn_sm, tXn_tXn, vsm_add, vsm_sm, ← vadd_assoc]
          exact vcg.refl _
      · have hji : j = i := by omega
        subst hji
        refine ⟨small (by omega) (by omega), ⟨k, by omega, by omega, by omega, hs, hcs, ?_⟩, by omega⟩
        refine hEs.trans (vcg.trans ?_ hEr)
        show vcg p _ (vadd (opr j (dv p v) (vo r) k e0) (vsm (vo r k) (tXn j (dv p v) k e0)))
        have e1 : tXn j (dv p v) k e0 = tXn j (dv p v) (k - j) (tXn j (dv p v) j e0) := by rw [tXn_tXn, show k - j + j = k by omega]
        rw [e1, Xm hm0, tXn_sm, vsm_sm, show vo r k * -1 = -(vo r k) by omega]
        exact vcg.refl _
    · have hti : t = i := by omega
      subst hti
      refine ⟨⟨by omega, by omega⟩, _, v_rVal F (u := opr t (dv p v) (vo r) t e0) ?_ (fun j hj => ?_) rfl, ?_⟩
      · rw [List.length_take, Int.toNat_natCast, hr]; omega
      · rw [Int.toNat_natCast, take_vo hj, opr_e0 (Nat.le_refl _), if_pos hj]
        have := hcr j (by omega)
        exact (Int.emod_eq_of_lt this.1 this.2).symm
      · rw [nm_vcg hEr]
        exact h
end
end Go.Proofs.Ytmdigamgojfjdaa
set_option linter.unusedVariables false
set_option linter.unusedSimpArgs false
namespace Go.Proofs.Ytmdigamgojfjdaa
/-! ### the methods -/
section
variable {F : GFv} {p m v g : Nat}
theorem v_Is {x : Int} {Q : Bool → Prop} (K : GFk F p m v g) (h : Q (decide (0 ≤ x ∧ x < ((p ^ m : Nat) : Int)))) : V_Is F x Q := by
  refine ⟨fun h0 => ?_, fun h0 => ?_⟩
  · rw [K.q]; simpa [h0] using h
  · simpa [h0] using h
theorem v_isUnit {x : Int} {Q : Bool → Prop} (K : GFk F p m v g) (h : Q (decide (inE (p ^ m) x ≠ 0))) : V_isUnit F x Q := by
  unfold inE at h
  refine ⟨fun h0 => ?_, fun h0 => ?_⟩
  · rw [K.q]
    by_cases hx : x < ((p ^ m : Nat) : Int)
    · rw [if_pos ⟨by omega, hx⟩] at h
      rw [decide_eq_true hx]
      rw [decide_eq_true (by omega)] at h; exact h
    · rw [if_neg (by omega)] at h
      rw [decide_eq_false hx]; exact h
  · by_cases hx : 0 ≤ x ∧ x < ((p ^ m : Nat) : Int)
    · rw [if_pos hx] at h
      rw [decide_eq_false (by omega)] at h; exact h
    · rw [if_neg hx] at h; exact h
theorem v_element {x : Int} {Q : Int → Prop} (K : GFk F p m v g) (h : Q ((inE (p ^ m) x : Nat) : Int)) : V_element F x Q := by
  refine v_Is K ⟨fun hb => ?_, fun hb => ?_⟩
  · have hb := of_decide_eq_true hb
    unfold inE at h
    rw [if_pos hb, Int.toNat_of_nonneg hb.1] at h; exact h
  · have hb := of_decide_eq_false hb
    unfold inE at h
    rw [if_neg hb] at h; exact h
theorem inE_cast {q : Nat} {x : Int} (h : inE q x ≠ 0) : x = ((inE q x : Nat) : Int) := by
  unfold inE at h ⊢
  split
  · rename_i hc; exact (Int.toNat_of_nonneg hc.1).symm
  · rename_i hc; rw [if_neg hc] at h; exact absurd rfl h
/-- an element but 0 is a power, and its logarithm stands in the table -/
theorem GFk.lg (K : GFk F p m v g) {x : Int} (h : inE (p ^ m) x ≠ 0) : ∃ a : Nat, a < p ^ m - 1 ∧ inE (p ^ m) x = pw (fmul p m (dv p v)) g a ∧ gi F.log x = (a : Int) ∧ (0 ≤ x ∧ x < (F.log.length : Nat)) := by
  have R := K.fv.ring
  have hlt := inE_lt R.pos x
  obtain ⟨a, ha, he⟩ := K.G.surj R (Nat.pos_of_ne_zero h) hlt
  have hx := inE_cast h
  refine ⟨a, ha, he.symm, ?_, ?_⟩
  · rw [hx, ← he, gi_nat, K.lv a ha]
  · rw [K.ll]; omega
theorem v_Mul {x y : Int} {Q : Int → Prop} (K : GFk F p m v g) (h : Q ((fmul p m (dv p v) (inE (p ^ m) x) (inE (p ^ m) y) : Nat) : Int)) : V_Mul F x y Q := by
  have R := K.fv.ring
  have hq := K.fv.q
  have hx := inE_lt R.pos x
  have hy := inE_lt R.pos y
  refine v_isUnit K ⟨fun hb => ?_, fun hb => v_isUnit K ⟨fun hb2 => ?_, fun hb2 => ?_⟩⟩
  · have h0 : inE (p ^ m) x = 0 := by simpa using hb
    rw [h0, R.Z0 hy] at h; exact h
  · have h0 : inE (p ^ m) y = 0 := by simpa using hb2
    rw [h0, R.M0 hx] at h; exact h
  · obtain ⟨a, ha, ea, la, bx⟩ := K.lg (x := x) (by simpa using hb)
    obtain ⟨b, hb', eb, lb, by_⟩ := K.lg (x := y) (by simpa using hb2)
    rw [la, lb]
    have hel := K.el
    refine ⟨bx, by_, small (by omega) (by omega), ⟨by omega, by omega⟩, ?_⟩
    rw [show (a : Int) + (b : Int) = ((a + b : Nat) : Int) by push_cast; rfl, gi_nat, K.ev _ (by omega), R.pw_add K.G.lt, ← ea, ← eb]; exact h
theorem mul_neg {p m : Nat} {c : Vec} {x : Nat} (hp : 2 ≤ p) (hm : 0 < m) (hx : x < p ^ m) : fmul p m c (p - 1) x = fneg p m x := by
  unfold fmul fneg
  have hd : vcg p (dv p (p - 1)) (vsm (-1) e0) := fun i => by
    cases i with
    | zero =>
      rw [dv_zero, Nat.mod_eq_of_lt (by omega)]
      show ((p - 1 : Nat) : Int) % p = (-1 * 1) % p
      rw [show ((p - 1 : Nat) : Int) = -1 * 1 + p * 1 by omega, Int.add_mul_emod_self_left]
    | succ i =>
      rw [dv_succ, Nat.div_eq_of_lt (by omega), dv_z]
      simp [vz, vsm, e0]
  rw [nm_vcg (vcg.mul (vcg.refl c) hd (vcg.refl _))]
  have : vmul m c (vsm (-1) e0) (dv p x) = vsm (-1) (dv p x) := by
    show opr m c (dv p x) m (vsm (-1) e0) = _
    rw [opr_sm, opr_self (dv_sup hx)]
  rw [this]
theorem v_Neg {x : Int} {Q : Int → Prop} (K : GFk F p m v g) (h : Q ((fneg p m (inE (p ^ m) x) : Nat) : Int)) : V_Neg F x Q := by
  have hp := K.fv.p2
  have hpq := K.fv.pq
  have h256 := K.fv.p256
  have R := K.fv.ring
  unfold V_Neg
  rw [K.fv.eP]
  refine ⟨small (by omega) (by omega), v_Mul K ?_⟩
  rw [show (p : Int) - 1 = ((p - 1 : Nat) : Int) by omega, inE_nat (by omega), mul_neg hp K.fv.m0 (inE_lt R.pos x)]; exact h
theorem xor_fadd {m x y : Nat} (hx : x < 2 ^ m) (hy : y < 2 ^ m) : x ^^^ y = fadd 2 m x y := by
  refine (nm_eq (by decide) (Nat.xor_lt_two_pow hx hy) fun i hi => ?_).symm
  have h := Nat.testBit_xor x y i
  rw [Nat.testBit_eq_decide_div_mod_eq, Nat.testBit_eq_decide_div_mod_eq, Nat.testBit_eq_decide_div_mod_eq] at h
  simp only [dv, vadd]
  have h1 := Nat.mod_two_eq_zero_or_one (x / 2 ^ i)
  have h2 := Nat.mod_two_eq_zero_or_one (y / 2 ^ i)
  have h3 := Nat.mod_two_eq_zero_or_one ((x ^^^ y) / 2 ^ i)
  rcases h1 with h1 | h1 <;> rcases h2 with h2 | h2 <;> rcases h3 with h3 | h3 <;> rw [h1, h2, h3] at h <;> rw [h1, h2, h3] <;> first | rfl | exact absurd h (by decide)
theorem v_Add {x y : Int} {Q : Int → Prop} (K : GFk F p m v g) (h : Q ((fadd p m (inE (p ^ m) x) (inE (p ^ m) y) : Nat) : Int)) : V_Add F x y Q := by
  have R := K.fv.ring
  have hq := K.fv.q
  have hx := inE_lt R.pos x
  have hy := inE_lt R.pos y
  have hq2 := R.q2
  refine v_element K (v_element K ⟨fun h2 => ⟨⟨by omega, by omega, by omega, by omega⟩, ?_⟩, fun h2 => ⟨fun h0 => ?_, fun h0 => ⟨fun h1 => ?_, fun h1 => ?_⟩⟩⟩)
  · have hp2 : p = 2 := by have := K.fv.eP; omega
    subst hp2
    rw [← xor_fadd hx hy] at h
    exact h
  · rw [show inE (p ^ m) x = 0 by omega, R.zA hy] at h; exact h
  · rw [show inE (p ^ m) y = 0 by omega, R.Az hx] at h; exact h
  · have hi : ∀ z : Nat, z < p ^ m → inE (p ^ m) (z : Int) = z := fun z hz => inE_nat hz
    obtain ⟨a, ha, ea, la, bx⟩ := K.lg (x := ((inE (p ^ m) x : Nat) : Int)) (by rw [hi _ hx]; omega)
    obtain ⟨b, hb, eb, lb, by_⟩ := K.lg (x := ((inE (p ^ m) y : Nat) : Int)) (by rw [hi _ hy]; omega)
    rw [hi _ hx] at ea
    rw [hi _ hy] at eb
    rw [la, lb]
    have hal := K.al
    have hel := K.el
    refine ⟨by_, bx, small (by omega) (by omega), fun z => ∃ d : Nat, z = d ∧ d < p ^ m - 1 ∧ pw (fmul p m (dv p v)) g (a + d) = pw (fmul p m (dv p v)) g b, ⟨fun hn => ?_, fun hn => ?_⟩, ?_⟩
    · rw [K.q]
      refine ⟨small (by omega) (by omega), small (by omega) (by omega), b + (p ^ m - 1) - a, by omega, by omega, ?_⟩
      have := K.G.per R b 1
      rw [Nat.mul_one] at this
      rw [show a + (b + (p ^ m - 1) - a) = b + (p ^ m - 1) by omega]; exact this
    · exact ⟨b - a, by omega, by omega, by rw [show a + (b - a) = b by omega]⟩
    · rintro _ ⟨d, rfl, hd, hpd⟩
      rw [gi_nat, K.av d hd]
      have hgd := R.pw_lt g d
      have hga := R.pw_lt g a
      -- x + y = x (g^d + 1)
      have hsum : fadd p m (inE (p ^ m) x) (inE (p ^ m) y) = fmul p m (dv p v) (pw (fmul p m (dv p v)) g a) (fadd p m (pw (fmul p m (dv p v)) g d) 1) := by
        rw [R.Md hga hgd R.one_lt, R.M1 hga, ← R.pw_add K.G.lt, hpd, ← ea, ← eb, R.Ac]
      rw [hsum] at h
      have hsl := R.Al (pw (fmul p m (dv p v)) g d) 1
      refine ⟨⟨by omega, by omega⟩, fun hm1 => ?_, fun hm1 => ?_⟩
      · have hz : fadd p m (pw (fmul p m (dv p v)) g d) 1 = 0 := by
          rcases Nat.eq_zero_or_pos (fadd p m (pw (fmul p m (dv p v)) g d) 1) with h3 | h3
          · exact h3
          · obtain ⟨s, hs, hse⟩ := K.G.surj R h3 hsl
            rw [← hse, K.lv s hs] at hm1; omega
        rw [hz, R.M0 hga] at h; exact h
      · have hnz : 0 < fadd p m (pw (fmul p m (dv p v)) g d) 1 := by
          rcases Nat.eq_zero_or_pos (fadd p m (pw (fmul p m (dv p v)) g d) 1) with h3 | h3
          · rw [h3, K.l0] at hm1; exact absurd rfl hm1
          · exact h3
        obtain ⟨s, hs, hse⟩ := K.G.surj R hnz hsl
        rw [← hse] at h ⊢
        rw [K.lv s hs]
        refine ⟨bx, small (by omega) (by omega), ⟨by omega, by omega⟩, ?_⟩
        rw [show (a : Int) + (s : Int) = ((a + s : Nat) : Int) by push_cast; rfl, gi_nat, K.ev _ (by omega), R.pw_add K.G.lt]; exact h
theorem v_Sub {x y : Int} {Q : Int → Prop} (K : GFk F p m v g) (h : Q ((fadd p m (inE (p ^ m) x) (fneg p m (inE (p ^ m) y)) : Nat) : Int)) : V_Sub F x y Q := by
  refine v_Neg K (v_Add K ?_)
  rw [inE_nat (fneg_lt (by have := K.fv.p2; omega) _)]; exact h
theorem v_Inv {x : Int} {Q : Int × Int → Prop} (K : GFk F p m v g) (h0 : inE (p ^ m) x = 0 → Q (0, 7)) (h1 : ∀ z : Nat, inE (p ^ m) x ≠ 0 → z < p ^ m → fmul p m (dv p v) z (inE (p ^ m) x) = 1 → Q ((z : Int), 0)) : V_Inv F x Q := by
  have R := K.fv.ring
  have hq := K.fv.q
  refine v_isUnit K ⟨fun hb => h0 (by simpa using hb), fun hb => ?_⟩
  have hne : inE (p ^ m) x ≠ 0 := by simpa using hb
  obtain ⟨a, ha, ea, la, bx⟩ := K.lg hne
  have hel := K.el
  rw [la, K.q]
  refine ⟨small (by omega) (by omega), bx, small (by omega) (by omega), ⟨by omega, by omega⟩, ?_⟩
  rw [show ((p ^ m : Nat) : Int) - 1 - (a : Int) = ((p ^ m - 1 - a : Nat) : Int) by omega, gi_nat, K.ev _ (by omega)]
  refine h1 _ hne (R.pw_lt g _) ?_
  rw [ea, ← R.pw_add K.G.lt, show p ^ m - 1 - a + a = p ^ m - 1 by omega, K.G.one]
theorem Od.uniq {M : Nat → Nat → Nat} {x n k : Nat} (h : Od M x n) (h' : Od M x k) : n = k := by
  rcases Nat.lt_trichotomy n k with h1 | h1 | h1
  · exact absurd h.one (h'.least n h.pos h1)
  · exact h1
  · exact absurd h'.one (h.least k h'.pos h1)
theorem v_Scale {x : Int} {l : List Int} {Q : List Int → Prop} (K : GFk F p m v g) (hl : l.length ≤ 1000) (h : ∀ r : List Int, r.length = l.length → (∀ i, i < l.length → vo r i = ((fmul p m (dv p v) (inE (p ^ m) x) (inE (p ^ m) (vo l i)) : Nat) : Int)) → Q r) : V_Scale F x l Q := by
  refine ⟨⟨by omega, by omega, by omega⟩, fun r i => ∃ k : Nat, i = k ∧ k ≤ l.length ∧ r.length = l.length ∧ ∀ j, j < k → vo r j = ((fmul p m (dv p v) (inE (p ^ m) x) (inE (p ^ m) (vo l j)) : Nat) : Int), fun r i => (l.length - i).toNat, ⟨0, rfl, Nat.zero_le _, by simp, fun j hj => by omega⟩, ?_⟩
  rintro r _ ⟨k, rfl, hk, hr, hv⟩
  dsimp only
  rw [gi_nat]
  refine ⟨fun hlt => ⟨⟨by omega, by omega⟩, v_Mul K ⟨⟨by omega, by omega⟩, small (by omega) (by omega), ⟨k + 1, by push_cast; rfl, by omega, ?_, fun j hj => ?_⟩, by omega⟩⟩, fun hge => h r hr fun i hi => hv i (by omega)⟩
  · rw [si_nat, List.length_set, hr]
  · rw [si_nat, vo_set]
    by_cases hkj : k = j
    · subst hkj; rw [if_pos ⟨rfl, by omega⟩]
    · rw [if_neg (fun h => hkj h.1)]; exact hv j (by omega)
end
end Go.Proofs.Ytmdigamgojfjdaa
set_option linter.unusedVariables false
set_option linter.unusedSimpArgs false
namespace Go.Proofs.Ytmdigamgojfjdaa
/-! ### commutative rings, sums, series -/
class Cr (α : Type) where
  add : α → α → α
  mul : α → α → α
  neg : α → α
  zero : α
  one : α
  ac : ∀ x y, add x y = add y x
  aa : ∀ x y z, add (add x y) z = add x (add y z)
  az : ∀ x, add x zero = x
  an : ∀ x, add x (neg x) = zero
  mc : ∀ x y, mul x y = mul y x
  ma : ∀ x y z, mul (mul x y) z = mul x (mul y z)
  m1 : ∀ x, mul x one = x
  md : ∀ x y z, mul x (add y z) = add (mul x y) (mul x z)
section
variable {α : Type} [Cr α]
instance (priority := 100) crAdd : Add α := ⟨Cr.add⟩
instance (priority := 100) crMul : Mul α := ⟨Cr.mul⟩
instance (priority := 100) crNeg : Neg α := ⟨Cr.neg⟩
instance (priority := 100) crSub : Sub α := ⟨fun x y => Cr.add x (Cr.neg y)⟩
instance (priority := 100) crZero : OfNat α 0 := ⟨Cr.zero⟩
instance (priority := 100) crOne : OfNat α 1 := ⟨Cr.one⟩
namespace Cr
theorem add_comm (x y : α) : x + y = y + x := Cr.ac x y
theorem add_assoc (x y z : α) : x + y + z = x + (y + z) := Cr.aa x y z
theorem add_zero (x : α) : x + 0 = x := Cr.az x
theorem zero_add (x : α) : 0 + x = x := by rw [Cr.add_comm, Cr.add_zero]
theorem add_neg (x : α) : x + -x = 0 := Cr.an x
theorem neg_add (x : α) : -x + x = 0 := by rw [Cr.add_comm, Cr.add_neg]
theorem mul_comm (x y : α) : x * y = y * x := Cr.mc x y
theorem mul_assoc (x y z : α) : x * y * z = x * (y * z) := Cr.ma x y z
theorem mul_one (x : α) : x * 1 = x := Cr.m1 x
theorem one_mul (x : α) : 1 * x = x := by rw [Cr.mul_comm, Cr.mul_one]
theorem mul_add (x y z : α) : x * (y + z) = x * y + x * z := Cr.md x y z
theorem add_mul (x y z : α) : (x + y) * z = x * z + y * z := by rw [Cr.mul_comm, Cr.mul_add, Cr.mul_comm z x, Cr.mul_comm z y]
theorem sub_eq (x y : α) : x - y = x + -y := rfl
theorem add_left_comm (x y z : α) : x + (y + z) = y + (x + z) := by rw [← Cr.add_assoc, Cr.add_comm x y, Cr.add_assoc]
theorem add_left_cancel {x y z : α} (h : x + y = x + z) : y = z := by
  have := congrArg (fun u => -x + u) h
  simpa [← Cr.add_assoc, Cr.neg_add, Cr.zero_add] using this
theorem mul_zero (x : α) : x * 0 = 0 := by
  refine Cr.add_left_cancel (x := x * 0) ?_
  rw [← Cr.mul_add, Cr.add_zero, Cr.add_zero]
theorem zero_mul (x : α) : 0 * x = 0 := by rw [Cr.mul_comm, Cr.mul_zero]
theorem neg_uniq {x y : α} (h : x + y = 0) : y = -x := Cr.add_left_cancel (x := x) (by rw [h, Cr.add_neg])
theorem neg_zero : -(0 : α) = 0 := (Cr.neg_uniq (Cr.add_zero (0 : α))).symm
theorem neg_neg (x : α) : - -x = x := (Cr.neg_uniq (Cr.neg_add x)).symm
theorem neg_addd (x y : α) : -(x + y) = -x + -y := (Cr.neg_uniq (by
  rw [Cr.add_assoc, Cr.add_left_comm y, ← Cr.add_assoc, Cr.add_neg, Cr.add_neg, Cr.add_zero])).symm
theorem mul_neg (x y : α) : x * -y = -(x * y) := Cr.neg_uniq (by rw [← Cr.mul_add, Cr.add_neg, Cr.mul_zero])
theorem neg_mul (x y : α) : -x * y = -(x * y) := by rw [Cr.mul_comm, Cr.mul_neg, Cr.mul_comm]
theorem sub_self (x : α) : x - x = 0 := Cr.add_neg x
theorem sub_zero (x : α) : x - 0 = x := by rw [Cr.sub_eq, Cr.neg_zero, Cr.add_zero]
theorem sub_add (x y : α) : x - y + y = x := by rw [Cr.sub_eq, Cr.add_assoc, Cr.neg_add, Cr.add_zero]
theorem add_sub (x y : α) : x + y - y = x := by rw [Cr.sub_eq, Cr.add_assoc, Cr.add_neg, Cr.add_zero]
theorem eq_of_sub {x y : α} (h : x - y = 0) : x = y := by rw [← Cr.sub_add x y, h, Cr.zero_add]
theorem sub_iff {x y z : α} : x - y = z ↔ x = z + y := ⟨fun h => by rw [← h, Cr.sub_add], fun h => by rw [h, Cr.add_sub]⟩
theorem mul_sub (x y z : α) : x * (y - z) = x * y - x * z := by rw [Cr.sub_eq, Cr.mul_add, Cr.mul_neg]; rfl
theorem sub_mul (x y z : α) : (x - y) * z = x * z - y * z := by rw [Cr.mul_comm, Cr.mul_sub, Cr.mul_comm z, Cr.mul_comm z]
theorem neg_sub (x y : α) : -(x - y) = y - x := by rw [Cr.sub_eq, Cr.neg_addd, Cr.neg_neg, Cr.add_comm]; rfl
end Cr
instance : Std.Commutative (α := α) (· + ·) := ⟨Cr.add_comm⟩
instance : Std.Associative (α := α) (· + ·) := ⟨Cr.add_assoc⟩
instance : Std.Commutative (α := α) (· * ·) := ⟨Cr.mul_comm⟩
instance : Std.Associative (α := α) (· * ·) := ⟨Cr.mul_assoc⟩
def sgm (f : Nat → α) : Nat → α
  | 0 => 0
  | n + 1 => sgm f n + f n
theorem sgm_congr {f g : Nat → α} : ∀ {n : Nat}, (∀ i, i < n → f i = g i) → sgm f n = sgm g n
  | 0, _ => rfl
  | n + 1, h => by rw [sgm, sgm, sgm_congr (n := n) fun i hi => h i (by omega), h n (by omega)]
theorem sgm_add (f g : Nat → α) : ∀ n, sgm (fun i => f i + g i) n = sgm f n + sgm g n
  | 0 => (Cr.add_zero 0).symm
  | n + 1 => by rw [sgm, sgm, sgm, sgm_add f g n]; ac_rfl
theorem sgm_mul (a : α) (f : Nat → α) : ∀ n, sgm (fun i => a * f i) n = a * sgm f n
  | 0 => (Cr.mul_zero a).symm
  | n + 1 => by rw [sgm, sgm, sgm_mul a f n, Cr.mul_add]
theorem sgm_mulr (a : α) (f : Nat → α) (n : Nat) : sgm (fun i => f i * a) n = sgm f n * a := by
  rw [Cr.mul_comm _ a, ← sgm_mul]
  exact sgm_congr fun i _ => Cr.mul_comm _ _
theorem sgm_zero {f : Nat → α} : ∀ {n : Nat}, (∀ i, i < n → f i = 0) → sgm f n = 0
  | 0, _ => rfl
  | n + 1, h => by rw [sgm, sgm_zero (n := n) fun i hi => h i (by omega), h n (by omega), Cr.add_zero]
theorem sgm_front (f : Nat → α) : ∀ n, sgm f (n + 1) = f 0 + sgm (fun i => f (i + 1)) n
  | 0 => by rw [sgm, sgm, sgm, Cr.add_comm]
  | n + 1 => by rw [sgm, sgm_front f n, sgm, Cr.add_assoc]
theorem sgm_app (f : Nat → α) (n : Nat) : ∀ m, sgm f (n + m) = sgm f n + sgm (fun i => f (n + i)) m
  | 0 => by rw [Nat.add_zero, sgm, Cr.add_zero]
  | m + 1 => by rw [← Nat.add_assoc, sgm, sgm_app f n m, sgm, Cr.add_assoc]
theorem sgm_rev (f : Nat → α) : ∀ n, sgm f n = sgm (fun i => f (n - 1 - i)) n
  | 0 => rfl
  | n + 1 => by
    rw [sgm_front (fun i => f (n + 1 - 1 - i)) n, sgm, sgm_rev f n, Cr.add_comm]
    congr 1
    exact sgm_congr fun i hi => by congr 1; omega
theorem sgm_one {f : Nat → α} {k : Nat} : ∀ {n : Nat}, k < n → (∀ i, i < n → i ≠ k → f i = 0) → sgm f n = f k
  | 0, h, _ => absurd h (Nat.not_lt_zero k)
  | n + 1, h, h0 => by
    by_cases hk : k = n
    · subst hk
      rw [sgm, sgm_zero fun i hi => h0 i (by omega) (by omega), Cr.zero_add]
    · rw [sgm, sgm_one (n := n) (by omega) fun i hi hne => h0 i (by omega) hne, h0 n (by omega) (Ne.symm hk), Cr.add_zero]
theorem sgm_tri (F : Nat → Nat → α) : ∀ n, sgm (fun s => sgm (fun i => F i (s - i)) (s + 1)) n = sgm (fun i => sgm (F i) (n - i)) n
  | 0 => rfl
  | n + 1 => by
    rw [sgm, sgm_tri F n, sgm]
    have h1 : sgm (fun i => sgm (F i) (n + 1 - i)) n = sgm (fun i => sgm (F i) (n - i)) n + sgm (fun i => F i (n - i)) n := by
      rw [← sgm_add]
      exact sgm_congr fun i hi => by rw [show n + 1 - i = (n - i) + 1 by omega, sgm]
    rw [sgm, h1, show n + 1 - n = 0 + 1 by omega, sgm, sgm, Cr.zero_add, Nat.sub_self, Cr.add_assoc]
theorem sgm_ext {f : Nat → α} {n m : Nat} (h : n ≤ m) (h0 : ∀ i, n ≤ i → i < m → f i = 0) : sgm f m = sgm f n := by
  obtain ⟨k, rfl⟩ := Nat.exists_eq_add_of_le h
  rw [sgm_app, sgm_zero fun i hi => h0 (n + i) (by omega) (by omega), Cr.add_zero]
/-! series -/
def Pl (α : Type) : Type := Nat → α
def pmul (f g : Nat → α) : Nat → α := fun k => sgm (fun i => f i * g (k - i)) (k + 1)
theorem pmul_comm (f g : Nat → α) : pmul f g = pmul g f := by
  funext k
  unfold pmul
  rw [sgm_rev]
  exact sgm_congr fun i hi => by
    rw [Cr.mul_comm]
    congr 2 <;> omega
theorem pmul_assoc (f g h : Nat → α) : pmul (pmul f g) h = pmul f (pmul g h) := by
  funext k
  have e1 : pmul (pmul f g) h k = sgm (fun s => sgm (fun i => f i * g (s - i) * h (k - (i + (s - i)))) (s + 1)) (k + 1) := by
    show sgm (fun s => sgm (fun i => f i * g (s - i)) (s + 1) * h (k - s)) (k + 1) = _
    refine sgm_congr fun s hs => ?_
    rw [← sgm_mulr]
    exact sgm_congr fun i hi => by rw [show i + (s - i) = s by omega]
  have e2 : pmul f (pmul g h) k = sgm (fun i => sgm (fun j => f i * g j * h (k - (i + j))) (k + 1 - i)) (k + 1) := by
    show sgm (fun i => f i * sgm (fun j => g j * h (k - i - j)) (k - i + 1)) (k + 1) = _
    refine sgm_congr fun i hi => ?_
    rw [← sgm_mul, show k + 1 - i = k - i + 1 by omega]
    exact sgm_congr fun j hj => by rw [Cr.mul_assoc, show k - i - j = k - (i + j) by omega]
  rw [e1, e2]
  exact sgm_tri (fun i j => f i * g j * h (k - (i + j))) (k + 1)
instance : Cr (Pl α) where
  add f g := fun i => f i + g i
  mul f g := pmul f g
  neg f := fun i => -(f i)
  zero := fun _ => 0
  one := fun i => if i = 0 then 1 else 0
  ac f g := funext fun i => Cr.add_comm _ _
  aa f g h := funext fun i => Cr.add_assoc _ _ _
  az f := funext fun i => Cr.add_zero _
  an f := funext fun i => Cr.add_neg _
  mc f g := pmul_comm f g
  ma f g h := pmul_assoc f g h
  m1 f := by
    refine (pmul_comm (α := α) f (fun i => if i = 0 then 1 else 0)).trans ?_
    funext k
    show sgm (fun i => (if i = 0 then (1 : α) else 0) * f (k - i)) (k + 1) = f k
    rw [sgm_one (k := 0) (by omega) fun i hi hne => by rw [if_neg hne, Cr.zero_mul], if_pos rfl, Cr.one_mul, Nat.sub_zero]
  md f g h := by
    funext k
    show sgm (fun i => f i * (g (k - i) + h (k - i))) (k + 1) = sgm (fun i => f i * g (k - i)) (k + 1) + sgm (fun i => f i * h (k - i)) (k + 1)
    rw [← sgm_add]
    exact sgm_congr fun i _ => Cr.mul_add _ _ _
namespace Pl
omit [Cr α] in
theorem ext {f g : Pl α} (h : ∀ i, f i = g i) : f = g := funext h
theorem add_at (f g : Pl α) (i : Nat) : (f + g) i = f i + g i := rfl
theorem neg_at (f : Pl α) (i : Nat) : (-f) i = -(f i) := rfl
theorem sub_at (f g : Pl α) (i : Nat) : (f - g) i = f i - g i := rfl
theorem one_at (i : Nat) : (1 : Pl α) i = if i = 0 then 1 else 0 := rfl
theorem mul_at (f g : Pl α) (k : Nat) : (f * g) k = sgm (fun i => f i * g (k - i)) (k + 1) := rfl
end Pl
/-! finite support -/
def Su (f : Pl α) (n : Nat) : Prop := ∀ i, n ≤ i → f i = 0
theorem Su.mono {f : Pl α} {n m : Nat} (h : Su f n) (hm : n ≤ m) : Su f m := fun i hi => h i (by omega)
theorem Su.add {f g : Pl α} {n : Nat} (hf : Su f n) (hg : Su g n) : Su (f + g) n := fun i hi => by rw [Pl.add_at, hf i hi, hg i hi, Cr.add_zero]
theorem Su.neg {f : Pl α} {n : Nat} (hf : Su f n) : Su (-f) n := fun i hi => by rw [Pl.neg_at, hf i hi, Cr.neg_zero]
theorem Su.sub {f g : Pl α} {n : Nat} (hf : Su f n) (hg : Su g n) : Su (f - g) n := Su.add hf hg.neg
theorem Su.zero (n : Nat) : Su (0 : Pl α) n := fun i _ => rfl
theorem Su.one : Su (1 : Pl α) 1 := fun i hi => by rw [Pl.one_at, if_neg (by omega)]
theorem Su.eq0 {f : Pl α} (h : Su f 0) : f = 0 := Pl.ext fun i => h i (Nat.zero_le i)
theorem Su.mul {f g : Pl α} {n m : Nat} (hf : Su f n) (hg : Su g m) : Su (f * g) (n + m - 1) := fun k hk => by
  rw [Pl.mul_at]
  refine sgm_zero fun i hi => ?_
  by_cases h : n ≤ i
  · rw [hf i h, Cr.zero_mul]
  · rw [hg (k - i) (by omega), Cr.mul_zero]
theorem top_mul {f g : Pl α} {n m : Nat} (hf : Su f (n + 1)) (hg : Su g (m + 1)) : (f * g) (n + m) = f n * g m := by
  rw [Pl.mul_at, sgm_one (k := n) (by omega) fun i hi hne => ?_, show n + m - n = m by omega]
  by_cases h : n + 1 ≤ i
  · rw [hf i h, Cr.zero_mul]
  · rw [hg (n + m - i) (by omega), Cr.mul_zero]
/-- degree d -/
def Dg (f : Pl α) (d : Nat) : Prop := f d ≠ 0 ∧ Su f (d + 1)
open Classical in
theorem dg_ex {f : Pl α} : ∀ {n : Nat}, Su f n → f = 0 ∨ ∃ d, d < n ∧ Dg f d
  | 0, h => .inl h.eq0
  | n + 1, h => by
    by_cases h0 : f n = 0
    · rcases dg_ex (f := f) (n := n) (fun i hi => by
        by_cases e : i = n
        · rw [e, h0]
        · exact h i (by omega)) with h1 | ⟨d, h1, h2⟩
      · exact .inl h1
      · exact .inr ⟨d, by omega, h2⟩
    · exact .inr ⟨n, by omega, h0, h⟩
theorem Dg.ne {f : Pl α} {d : Nat} (h : Dg f d) : f ≠ 0 := fun e => h.1 (by rw [e]; rfl)
theorem Dg.lt {f : Pl α} {d n : Nat} (h : Dg f d) (hs : Su f n) : d < n := by
  rcases Nat.lt_or_ge d n with h1 | h1
  · exact h1
  · exact absurd (hs d h1) h.1
theorem Dg.uniq {f : Pl α} {d e : Nat} (h : Dg f d) (h' : Dg f e) : d = e := by
  have h1 := h.lt h'.2; have h2 := h'.lt h.2; omega
/-- a a monomial -/
def mo (a : α) (n : Nat) : Pl α := fun i => if i = n then a else 0
theorem mo_su (a : α) (n : Nat) : Su (mo a n) (n + 1) := fun i hi => if_neg (by omega)
theorem mo_mul (a : α) (n : Nat) (f : Pl α) (k : Nat) : (mo a n * f) k = if n ≤ k then a * f (k - n) else 0 := by
  rw [Pl.mul_at]
  split
  · rename_i h
    rw [sgm_one (k := n) (by omega) fun i hi hne => by rw [mo, if_neg hne, Cr.zero_mul], mo, if_pos rfl]
  · rename_i h
    exact sgm_zero fun i hi => by rw [mo, if_neg (by omega), Cr.zero_mul]
theorem mo_zero (n : Nat) : mo (0 : α) n = 0 := Pl.ext fun i => by unfold mo; split <;> rfl
/-- a constant -/
def ct (a : α) : Pl α := mo a 0
theorem ct_mul (a : α) (f : Pl α) (k : Nat) : (ct a * f) k = a * f k := by rw [ct, mo_mul, if_pos (Nat.zero_le k), Nat.sub_zero]
theorem ct_su (a : α) : Su (ct a) 1 := mo_su a 0
theorem Su.ct {f : Pl α} {n : Nat} (a : α) (h : Su f n) : Su (Go.Proofs.Ytmdigamgojfjdaa.ct a * f) n := fun i hi => by rw [ct_mul, h i hi, Cr.mul_zero]
end
end Go.Proofs.Ytmdigamgojfjdaa
set_option linter.unusedVariables false
set_option linter.unusedSimpArgs false
set_option linter.unusedSectionVars false
namespace Go.Proofs.Ytmdigamgojfjdaa
/-! ### polynomials over a field -/
class Fd (α : Type) [Cr α] : Prop where
  ne : (1 : α) ≠ 0
  inv : ∀ x : α, x ≠ 0 → ∃ y, x * y = 1
section
variable {α : Type} [Cr α]
def Fs (f : Pl α) : Prop := ∃ n, Su f n
theorem Fs.add {f g : Pl α} : Fs f → Fs g → Fs (f + g) := fun ⟨n, hn⟩ ⟨m, hm⟩ => ⟨max n m, (hn.mono (by omega)).add (hm.mono (by omega))⟩
theorem Fs.neg {f : Pl α} : Fs f → Fs (-f) := fun ⟨n, hn⟩ => ⟨n, hn.neg⟩
theorem Fs.sub {f g : Pl α} (hf : Fs f) (hg : Fs g) : Fs (f - g) := hf.add hg.neg
theorem Fs.mul {f g : Pl α} : Fs f → Fs g → Fs (f * g) := fun ⟨n, hn⟩ ⟨m, hm⟩ => ⟨_, hn.mul hm⟩
theorem Fs.zero : Fs (0 : Pl α) := ⟨0, Su.zero 0⟩
theorem Fs.one : Fs (1 : Pl α) := ⟨1, Su.one⟩
theorem Fs.mo (a : α) (n : Nat) : Fs (mo a n) := ⟨n + 1, mo_su a n⟩
theorem Fs.ct (a : α) : Fs (ct a) := ⟨1, ct_su a⟩
theorem Dg.fs {f : Pl α} {d : Nat} (h : Dg f d) : Fs f := ⟨_, h.2⟩
/-! divisibility -/
def Dv (f g : Pl α) : Prop := ∃ h, Fs h ∧ g = f * h
theorem Dv.refl (f : Pl α) : Dv f f := ⟨1, Fs.one, (Cr.mul_one f).symm⟩
theorem Dv.zero (f : Pl α) : Dv f 0 := ⟨0, Fs.zero, (Cr.mul_zero f).symm⟩
theorem Dv.trans {f g h : Pl α} : Dv f g → Dv g h → Dv f h := fun ⟨a, ha, h1⟩ ⟨b, hb, h2⟩ => ⟨a * b, ha.mul hb, by rw [h2, h1, Cr.mul_assoc]⟩
theorem Dv.add {f g h : Pl α} : Dv f g → Dv f h → Dv f (g + h) := fun ⟨a, ha, h1⟩ ⟨b, hb, h2⟩ => ⟨a + b, ha.add hb, by rw [h1, h2, Cr.mul_add]⟩
theorem Dv.neg {f g : Pl α} : Dv f g → Dv f (-g) := fun ⟨a, ha, h1⟩ => ⟨-a, ha.neg, by rw [h1, Cr.mul_neg]⟩
theorem Dv.sub {f g h : Pl α} (h1 : Dv f g) (h2 : Dv f h) : Dv f (g - h) := h1.add h2.neg
theorem Dv.mulr {f g : Pl α} (h : Dv f g) {a : Pl α} (ha : Fs a) : Dv f (g * a) := by
  obtain ⟨b, hb, rfl⟩ := h
  exact ⟨b * a, hb.mul ha, Cr.mul_assoc _ _ _⟩
theorem Dv.mull {f g : Pl α} (h : Dv f g) {a : Pl α} (ha : Fs a) : Dv f (a * g) := by rw [Cr.mul_comm]; exact h.mulr ha
/-- the greatest common divisors of two polynomials, but for a factor -/
def Gd (p q d : Pl α) : Prop := Dv d p ∧ Dv d q ∧ ∀ c, Dv c p → Dv c q → Dv c d
theorem Gd.step {p q a r d : Pl α} (ha : Fs a) (e : p = a * q + r) (h : Gd q r d) : Gd p q d := by
  refine ⟨by rw [e]; exact (h.1.mull ha).add h.2.1, h.1, fun c h1 h2 => h.2.2 c h2 ?_⟩
  have : r = p - a * q := by rw [e, Cr.add_comm, Cr.add_sub]
  rw [this]; exact h1.sub (h2.mull ha)
theorem Gd.zero (p : Pl α) : Gd p 0 p := ⟨Dv.refl p, Dv.zero p, fun c h _ => h⟩
theorem Gd.symm {p q d : Pl α} (h : Gd p q d) : Gd q p d := ⟨h.2.1, h.1, fun c h1 h2 => h.2.2 c h2 h1⟩
theorem Gd.assoc {p q d e : Pl α} (h : Gd p q d) (h1 : Dv e d) (h2 : Dv d e) : Gd p q e := ⟨h1.trans h.1, h1.trans h.2.1, fun c h3 h4 => (h.2.2 c h3 h4).trans h2⟩
def Mn (f : Pl α) : Prop := ∃ d, Dg f d ∧ f d = 1
/-! congruence -/
def Cg (m f g : Pl α) : Prop := Dv m (f - g)
theorem Cg.refl (m f : Pl α) : Cg m f f := by unfold Cg; rw [Cr.sub_self]; exact Dv.zero m
theorem Cg.symm {m f g : Pl α} (h : Cg m f g) : Cg m g f := by have := Dv.neg h; rwa [Cr.neg_sub] at this
theorem Cg.trans {m f g k : Pl α} (h : Cg m f g) (h' : Cg m g k) : Cg m f k := by
  have := Dv.add h h'
  have e : f - g + (g - k) = f - k := by
    rw [Cr.sub_eq, Cr.sub_eq, Cr.sub_eq, Cr.add_assoc, ← Cr.add_assoc (-g), Cr.neg_add, Cr.zero_add]
  rwa [e] at this
theorem Cg.mul {m f g f' g' : Pl α} (h : Cg m f g) (h' : Cg m f' g') (hf : Fs f') (hg : Fs g) : Cg m (f * f') (g * g') := by
  have := Dv.add (Dv.mulr h hf) (Dv.mull h' hg)
  have e : (f - g) * f' + g * (f' - g') = f * f' - g * g' := by
    rw [Cr.sub_mul, Cr.mul_sub, Cr.sub_eq, Cr.sub_eq, Cr.sub_eq, Cr.add_assoc, ← Cr.add_assoc (-(g * f')), Cr.neg_add, Cr.zero_add]
  rw [e] at this; exact this
/-! powers and values -/
def pwr (x : α) : Nat → α
  | 0 => 1
  | n + 1 => pwr x n * x
theorem pwr_add (x : α) (m : Nat) : ∀ n, pwr x (m + n) = pwr x m * pwr x n
  | 0 => (Cr.mul_one _).symm
  | n + 1 => by rw [← Nat.add_assoc, pwr, pwr_add x m n, pwr, Cr.mul_assoc]
def evp (f : Pl α) (n : Nat) (x : α) : α := sgm (fun i => f i * pwr x i) n
theorem evp_ext {f : Pl α} {n m : Nat} (hf : Su f n) (h : n ≤ m) (x : α) : evp f m x = evp f n x :=
  sgm_ext h fun i h1 _ => by rw [hf i h1, Cr.zero_mul]
theorem evp_any {f : Pl α} {n m : Nat} (hf : Su f n) (hg : Su f m) (x : α) : evp f m x = evp f n x := by
  rcases Nat.le_total n m with h | h
  · exact evp_ext hf h x
  · exact (evp_ext hg h x).symm
theorem evp_add (f g : Pl α) (n : Nat) (x : α) : evp (f + g) n x = evp f n x + evp g n x := by
  unfold evp
  rw [← sgm_add]
  exact sgm_congr fun i _ => Cr.add_mul _ _ _
theorem evp_mul {f g : Pl α} {n m : Nat} (hf : Su f n) (hg : Su g m) (x : α) : evp (f * g) (n + m) x = evp f n x * evp g m x := by
  unfold evp
  have e1 : sgm (fun k => (f * g) k * pwr x k) (n + m) = sgm (fun s => sgm (fun i => (fun i j => (f i * pwr x i) * (g j * pwr x j)) i (s - i)) (s + 1)) (n + m) := by
    refine sgm_congr fun s hs => ?_
    rw [Pl.mul_at, ← sgm_mulr]
    refine sgm_congr fun i hi => ?_
    show f i * g (s - i) * pwr x s = f i * pwr x i * (g (s - i) * pwr x (s - i))
    rw [show pwr x s = pwr x i * pwr x (s - i) by rw [← pwr_add]; congr 1; omega]
    ac_rfl
  rw [e1, sgm_tri (fun i j => f i * pwr x i * (g j * pwr x j)), sgm_ext (n := n) (by omega) fun i h1 _ => sgm_zero fun j _ => by show f i * pwr x i * _ = 0; rw [hf i h1, Cr.zero_mul, Cr.zero_mul], ← sgm_mulr]
  refine sgm_congr fun i hi => ?_
  show sgm (fun j => f i * pwr x i * (g j * pwr x j)) (n + m - i) = _
  rw [sgm_mul, sgm_ext (n := m) (by omega) fun j h1 _ => by rw [hg j h1, Cr.zero_mul]]
open Classical in
noncomputable def vl_ (f : Pl α) (x : α) : α := if h : Fs f then evp f (Classical.choose h) x else 0
theorem vl_eq {f : Pl α} {n : Nat} (hf : Su f n) (x : α) : vl_ f x = evp f n x := by
  have h : Fs f := ⟨n, hf⟩
  unfold vl_; rw [dif_pos h]
  exact evp_any hf (Classical.choose_spec h) x
theorem vl_add {f g : Pl α} (hf : Fs f) (hg : Fs g) (x : α) : vl_ (f + g) x = vl_ f x + vl_ g x := by
  obtain ⟨n, hn⟩ := hf; obtain ⟨m, hm⟩ := hg
  have h1 := hn.mono (show n ≤ max n m by omega); have h2 := hm.mono (show m ≤ max n m by omega)
  rw [vl_eq h1, vl_eq h2, vl_eq (h1.add h2), evp_add]
theorem vl_mul {f g : Pl α} (hf : Fs f) (hg : Fs g) (x : α) : vl_ (f * g) x = vl_ f x * vl_ g x := by
  obtain ⟨n, hn⟩ := hf; obtain ⟨m, hm⟩ := hg
  rw [vl_eq hn, vl_eq hm, vl_eq ((hn.mul hm).mono (show n + m - 1 ≤ n + m by omega)), evp_mul hn hm]
theorem vl_ct (a x : α) : vl_ (ct a) x = a := by
  rw [vl_eq (ct_su a)]
  show (0 : α) + ct a 0 * 1 = a
  rw [Cr.zero_add, Cr.mul_one]; rfl
theorem vl_one (x : α) : vl_ (1 : Pl α) x = 1 := vl_ct 1 x
/-! derivatives -/
def nt (x : α) : Nat → α
  | 0 => 0
  | n + 1 => nt x n + x
end
section
variable {α : Type} [Cr α] [Fd α]
theorem Fd.nzd {x y : α} (h : x * y = 0) : x = 0 ∨ y = 0 := by
  by_cases h0 : x = 0
  · exact .inl h0
  · obtain ⟨z, hz⟩ := Fd.inv x h0
    refine .inr ?_
    rw [← Cr.one_mul y, ← hz, Cr.mul_comm x, Cr.mul_assoc, h, Cr.mul_zero]
theorem Fd.cancel {x y z : α} (hx : x ≠ 0) (h : x * y = x * z) : y = z := by
  have : x * (y - z) = 0 := by rw [Cr.mul_sub, h, Cr.sub_self]
  exact Cr.eq_of_sub ((Fd.nzd this).resolve_left hx)
theorem Dg.mul {f g : Pl α} {a b : Nat} (hf : Dg f a) (hg : Dg g b) : Dg (f * g) (a + b) :=
  ⟨fun h => by rw [top_mul hf.2 hg.2] at h; rcases Fd.nzd h with h | h; exact hf.1 h; exact hg.1 h, (hf.2.mul hg.2).mono (by omega)⟩
theorem Pl.nzd {f g : Pl α} (hf : Fs f) (hg : Fs g) (h : f * g = 0) : f = 0 ∨ g = 0 := by
  obtain ⟨n, hn⟩ := hf; obtain ⟨m, hm⟩ := hg
  rcases dg_ex hn with h1 | ⟨a, _, h1⟩
  · exact .inl h1
  · rcases dg_ex hm with h2 | ⟨b, _, h2⟩
    · exact .inr h2
    · exact absurd h (h1.mul h2).ne
theorem Pl.cancel {f g h : Pl α} (hf : Fs f) (hg : Fs g) (hh : Fs h) (h0 : f ≠ 0) (e : f * g = f * h) : g = h := by
  have : f * (g - h) = 0 := by rw [Cr.mul_sub, e, Cr.sub_self]
  exact Cr.eq_of_sub ((Pl.nzd hf (hg.sub hh) this).resolve_left h0)
theorem div_ex {q : Pl α} {d : Nat} (hq : Dg q d) : ∀ {n : Nat} {f : Pl α}, Su f n → ∃ a r, Su a (n - d) ∧ f = a * q + r ∧ Su r d
  | 0, f, h => ⟨0, f, Su.zero _, by rw [Cr.zero_mul, Cr.zero_add], h.mono (Nat.zero_le d)⟩
  | n + 1, f, h => by
    rcases Nat.lt_or_ge n d with hnd | hnd
    · exact ⟨0, f, Su.zero _, by rw [Cr.zero_mul, Cr.zero_add], h.mono (by omega)⟩
    · obtain ⟨u, hu⟩ := Fd.inv (q d) hq.1
      have hs : Su (f - mo (f n * u) (n - d) * q) n := fun i hi => by
        rw [Pl.sub_at, mo_mul, if_pos (by omega)]
        by_cases e : i = n
        · rw [e, show n - (n - d) = d by omega, Cr.mul_assoc, Cr.mul_comm u, hu, Cr.mul_one, Cr.sub_self]
        · rw [h i (by omega), hq.2 (i - (n - d)) (by omega), Cr.mul_zero, Cr.sub_self]
      obtain ⟨a, r, h1, h2, h3⟩ := div_ex hq hs
      refine ⟨a + mo (f n * u) (n - d), r, (h1.mono (by omega)).add ((mo_su _ _).mono (by omega)), ?_, h3⟩
      have e := (Cr.sub_add f (mo (f n * u) (n - d) * q)).symm
      rw [h2] at e
      refine e.trans ?_
      rw [Cr.add_mul]
      ac_rfl
theorem div_uniq {q a r a' r' : Pl α} {d : Nat} (hq : Dg q d) (ha : Fs a) (ha' : Fs a') (hr : Su r d) (hr' : Su r' d) (e : a * q + r = a' * q + r') : a = a' ∧ r = r' := by
  have e1 : (a - a') * q = r' - r := by
    rw [Cr.sub_mul, Cr.sub_iff, Cr.sub_eq, Cr.add_assoc, Cr.add_comm (-r), ← Cr.add_assoc, Cr.add_comm r', ← e, Cr.add_assoc, Cr.add_neg, Cr.add_zero]
  have h0 : a - a' = 0 := by
    obtain ⟨n, hn⟩ := ha.sub ha'
    rcases dg_ex hn with h | ⟨k, _, h⟩
    · exact h
    · have h1 := h.mul hq
      rw [e1] at h1
      have := h1.lt (hr'.sub hr); omega
  rw [h0, Cr.zero_mul] at e1
  exact ⟨Cr.eq_of_sub h0, (Cr.eq_of_sub e1.symm).symm⟩
theorem Dv.dg {f g : Pl α} {a b : Nat} (h : Dv f g) (hf : Dg f a) (hg : Dg g b) : a ≤ b := by
  obtain ⟨k, ⟨n, hn⟩, rfl⟩ := h
  rcases dg_ex hn with h1 | ⟨c, _, h1⟩
  · rw [h1, Cr.mul_zero] at hg; exact absurd rfl hg.ne
  · have := (hf.mul h1).uniq hg; omega
theorem Mn.uniq {f g : Pl α} (hf : Mn f) (hg : Mn g) (h1 : Dv f g) (h2 : Dv g f) : f = g := by
  obtain ⟨a, ha, ea⟩ := hf; obtain ⟨b, hb, eb⟩ := hg
  have e1 := h1.dg ha hb; have e2 := h2.dg hb ha
  obtain rfl : a = b := by omega
  obtain ⟨k, ⟨n, hn⟩, rfl⟩ := h1
  rcases dg_ex hn with h | ⟨c, _, h⟩
  · rw [h, Cr.mul_zero] at hb; exact absurd rfl hb.ne
  · have hc := (ha.mul h).uniq hb
    have hc0 : c = 0 := by omega
    subst hc0
    have hk : k = ct (k 0) := Pl.ext fun i => by
      show _ = if i = 0 then k 0 else 0
      split
      · rename_i hi; rw [hi]
      · rename_i hi; exact h.2 i (by omega)
    have := top_mul ha.2 h.2
    rw [Nat.add_zero, eb, ea, Cr.one_mul] at this
    rw [hk, ← this]
    exact (Cr.mul_one f).symm
theorem Gd.uniq {p q d e : Pl α} (h1 : Gd p q d) (h2 : Gd p q e) (hd : Mn d) (he : Mn e) : d = e :=
  hd.uniq he (h2.2.2 d h1.1 h1.2.1) (h1.2.2 e h2.1 h2.2.1)
open Classical in
/-- the monic greatest common divisor -/
noncomputable def gc (f g : Pl α) : Pl α := if h : ∃ d, Gd f g d ∧ Fs d ∧ (Mn d ∨ d = 0) then Classical.choose h else 0
open Classical in
noncomputable def qt (f g : Pl α) : Pl α := if h : ∃ a r d, Dg g d ∧ Fs a ∧ f = a * g + r ∧ Su r d then Classical.choose h else 0
noncomputable def rm (f g : Pl α) : Pl α := f - qt f g * g
theorem qt_uniq {f g a r : Pl α} {d : Nat} (hg : Dg g d) (ha : Fs a) (e : f = a * g + r) (hr : Su r d) : qt f g = a ∧ rm f g = r := by
  have h : ∃ a r d, Dg g d ∧ Fs a ∧ f = a * g + r ∧ Su r d := ⟨a, r, d, hg, ha, e, hr⟩
  have hq : qt f g = a := by
    unfold qt; rw [dif_pos h]
    obtain ⟨r', d', h1, h2, h3, h4⟩ := Classical.choose_spec h
    obtain rfl := h1.uniq hg
    exact (div_uniq hg h2 ha h4 hr (by rw [← h3, ← e])).1
  exact ⟨hq, by unfold rm; rw [hq, e, Cr.add_comm, Cr.add_sub]⟩
theorem qt_spec {f g : Pl α} {n d : Nat} (hf : Su f n) (hg : Dg g d) : Su (qt f g) (n - d) ∧ f = qt f g * g + rm f g ∧ Su (rm f g) d := by
  obtain ⟨a, r, h1, h2, h3⟩ := div_ex hg hf
  obtain ⟨e1, e2⟩ := qt_uniq hg ⟨_, h1⟩ h2 h3
  rw [e1, e2]; exact ⟨h1, h2, h3⟩
open Classical in
noncomputable def inv_ (x : α) : α := if h : ∃ y, x * y = 1 then Classical.choose h else 0
theorem mul_inv {x : α} (h : x ≠ 0) : x * inv_ x = 1 := by
  have h := Fd.inv x h
  unfold inv_; rw [dif_pos h]; exact Classical.choose_spec h
theorem inv_uniq {x y : α} (h : y * x = 1) : y = inv_ x := by
  have h0 : x ≠ 0 := fun e => Fd.ne (α := α) (by rw [← h, e, Cr.mul_zero])
  exact Fd.cancel h0 (by rw [mul_inv h0, Cr.mul_comm, h])
theorem inv_ne {x : α} (h : x ≠ 0) : inv_ x ≠ 0 := fun e => Fd.ne (α := α) (by rw [← mul_inv h, e, Cr.mul_zero])
theorem Dg.ct {f : Pl α} {d : Nat} {a : α} (h : Dg f d) (ha : a ≠ 0) : Dg (Go.Proofs.Ytmdigamgojfjdaa.ct a * f) d :=
  ⟨fun e => by rw [ct_mul] at e; rcases Fd.nzd e with e | e; exact ha e; exact h.1 e, h.2.ct a⟩
theorem ct_inv {f : Pl α} {d : Nat} (h : Dg f d) : ct (f d) * (ct (inv_ (f d)) * f) = f := Pl.ext fun i => by rw [ct_mul, ct_mul, ← Cr.mul_assoc, mul_inv h.1, Cr.one_mul]
theorem Gd.monic {p q f : Pl α} {d : Nat} (hg : Gd p q f) (h : Dg f d) : Gd p q (ct (inv_ (f d)) * f) :=
  hg.assoc ⟨ct (f d), Fs.ct _, by rw [Cr.mul_comm, ct_inv h]⟩ ⟨ct (inv_ (f d)), Fs.ct _, Cr.mul_comm _ _⟩
end
end Go.Proofs.Ytmdigamgojfjdaa
set_option linter.unusedVariables false
set_option linter.unusedSimpArgs false
namespace Go.Proofs.Ytmdigamgojfjdaa
/-! ### the elements of a field, and lists of them as polynomials -/
structure Ks where
  p : Nat
  m : Nat
  v : Nat
  g : Nat
  p2 : 2 ≤ p
  m0 : 0 < m
  q256 : p ^ m ≤ 256
  R : CR (p ^ m) (fadd p m) (fmul p m (dv p v))
  G : Gn (p ^ m) (fmul p m (dv p v)) g
def Ks.E (k : Ks) : Type := {x : Nat // x < k.p ^ k.m}
instance (k : Ks) : Cr k.E where
  add x y := ⟨fadd k.p k.m x.1 y.1, k.R.Al _ _⟩
  mul x y := ⟨fmul k.p k.m (dv k.p k.v) x.1 y.1, k.R.Ml _ _⟩
  neg x := ⟨fneg k.p k.m x.1, fneg_lt (by have := k.p2; omega) _⟩
  zero := ⟨0, k.R.pos⟩
  one := ⟨1, k.R.one_lt⟩
  ac x y := Subtype.ext (k.R.Ac _ _)
  aa x y z := Subtype.ext (k.R.Aa x.2 y.2 z.2)
  az x := Subtype.ext (k.R.Az x.2)
  an x := Subtype.ext (fadd_neg (by have := k.p2; omega) x.2)
  mc x y := Subtype.ext (k.R.Mc x.2 y.2)
  ma x y z := Subtype.ext (k.R.Ma x.2 y.2 z.2)
  m1 x := Subtype.ext (k.R.M1 x.2)
  md x y z := Subtype.ext (k.R.Md x.2 y.2 z.2)
theorem Ks.inv (k : Ks) (x : k.E) (h : x ≠ 0) : ∃ y : k.E, x * y = 1 := by
  have h0 : 0 < x.1 := Nat.pos_of_ne_zero fun e => h (Subtype.ext e)
  obtain ⟨a, ha, e⟩ := k.G.surj k.R h0 x.2
  refine ⟨⟨pw (fmul k.p k.m (dv k.p k.v)) k.g (k.p ^ k.m - 1 - a), k.R.pw_lt _ _⟩, Subtype.ext ?_⟩
  show fmul k.p k.m (dv k.p k.v) x.1 _ = 1
  rw [← e, ← k.R.pw_add k.G.lt, show a + (k.p ^ k.m - 1 - a) = k.p ^ k.m - 1 by omega, k.G.one]
instance (k : Ks) : Fd k.E where
  ne := fun h => absurd (congrArg Subtype.val h) (by show ¬ (1 : Nat) = 0; omega)
  inv := k.inv
namespace Ks
variable (k : Ks)
def el (x : Int) : k.E := ⟨inE (k.p ^ k.m) x, inE_lt k.R.pos x⟩
def co (e : k.E) : Int := ((e.1 : Nat) : Int)
variable {k}
theorem co_lt (e : k.E) : 0 ≤ k.co e ∧ k.co e < ((k.p ^ k.m : Nat) : Int) := ⟨Int.natCast_nonneg _, Int.ofNat_lt.2 e.2⟩
theorem el_co (e : k.E) : k.el (k.co e) = e := Subtype.ext (inE_nat e.2)
theorem co_el {x : Int} (h : 0 ≤ x ∧ x < ((k.p ^ k.m : Nat) : Int)) : k.co (k.el x) = x := by
  show ((inE _ x : Nat) : Int) = x
  unfold inE; rw [if_pos h]; omega
theorem co_inj {a b : k.E} (h : k.co a = k.co b) : a = b := Subtype.ext (Int.ofNat.inj h)
theorem co_eq0 {a : k.E} : k.co a = 0 ↔ a = 0 := ⟨fun h => co_inj h, fun h => by rw [h]; rfl⟩
theorem el_zero : k.el 0 = 0 := Subtype.ext (inE_nat (x := 0) k.R.pos)
theorem el_one : k.el 1 = 1 := Subtype.ext (inE_nat (x := 1) k.R.one_lt)
variable (k)
def pol (l : List Int) : Pl k.E := fun i => k.el (vo l i)
def Ell (l : List Int) : Prop := ∀ i, i < l.length → 0 ≤ vo l i ∧ vo l i < ((k.p ^ k.m : Nat) : Int)
/-- l is the canonical list of f -/
def Rp (l : List Int) (f : Pl k.E) : Prop := k.Ell l ∧ (0 < l.length → vo l (l.length - 1) ≠ 0) ∧ k.pol l = f
variable {k}
theorem pol_su (l : List Int) : Su (k.pol l) l.length := fun i hi => by
  show k.el (vo l i) = 0
  rw [vo_hi hi, el_zero]
theorem pol_fs (l : List Int) : Fs (k.pol l) := ⟨_, pol_su l⟩
theorem Rp.su {l : List Int} {f : Pl k.E} (h : k.Rp l f) : Su f l.length := by rw [← h.2.2]; exact pol_su l
theorem Rp.dg {l : List Int} {f : Pl k.E} (h : k.Rp l f) (h0 : 0 < l.length) : Dg f (l.length - 1) := by
  refine ⟨fun e => h.2.1 h0 ?_, by rw [show l.length - 1 + 1 = l.length by omega]; exact h.su⟩
  rw [← h.2.2] at e
  have h1 := h.1 (l.length - 1) (by omega)
  have : k.co (k.el (vo l (l.length - 1))) = 0 := by
    show k.co (k.pol l (l.length - 1)) = 0
    rw [e]; rfl
  rwa [co_el h1] at this
theorem Rp.at_ {l : List Int} {f : Pl k.E} (h : k.Rp l f) {i : Nat} (hi : i < l.length) : vo l i = k.co (f i) := by
  rw [← h.2.2]; exact (co_el (h.1 i hi)).symm
theorem Rp.len {l : List Int} {f : Pl k.E} (h : k.Rp l f) {d : Nat} (hd : Dg f d) : l.length = d + 1 := by
  rcases Nat.eq_zero_or_pos l.length with h0 | h0
  · have := h.su; rw [h0] at this; exact absurd (this.eq0) hd.ne
  · have := (h.dg h0).uniq hd; omega
theorem Rp.uniq {l l' : List Int} {f : Pl k.E} (h : k.Rp l f) (h' : k.Rp l' f) : l = l' := by
  have hl : l.length = l'.length := by
    rcases Nat.eq_zero_or_pos l'.length with h0 | h0
    · rcases Nat.eq_zero_or_pos l.length with h1 | h1
      · omega
      · have := h'.len (h.dg h1); omega
    · have := h.len (h'.dg h0); omega
  exact vo_ext hl fun i hi => by rw [h.at_ hi, h'.at_ (by omega)]
theorem vo_map (f : Nat → Int) (n i : Nat) : vo ((List.range n).map f) i = if i < n then f i else 0 := by
  unfold vo
  rw [List.getD_eq_getElem?_getD, List.getElem?_map]
  split
  · rename_i h; rw [List.getElem?_range h]; rfl
  · rename_i h; rw [List.getElem?_eq_none (by simp; omega)]; rfl
theorem rp_ex {f : Pl k.E} (hf : Fs f) : ∃ l, k.Rp l f := by
  obtain ⟨n, hn⟩ := hf
  have key : ∀ d, (∀ h : 0 < d, f (d - 1) ≠ 0) → Su f d → k.Rp ((List.range d).map fun i => k.co (f i)) f := fun d h1 h2 => by
    have hl : ((List.range d).map fun i => k.co (f i)).length = d := by simp
    refine ⟨fun i hi => ?_, fun h0 => ?_, Pl.ext fun i => ?_⟩
    · rw [vo_map]; split
      · exact co_lt _
      · exact ⟨Int.le_refl 0, by have := k.R.pos; omega⟩
    · rw [hl] at h0 ⊢
      rw [vo_map, if_pos (by omega)]
      exact fun e => h1 h0 (co_eq0.1 e)
    · show k.el (vo _ i) = f i
      rw [vo_map]; split
      · exact el_co _
      · rw [h2 i (by omega), el_zero]
  rcases dg_ex hn with h | ⟨d, _, h⟩
  · exact ⟨_, key 0 (fun h => absurd h (Nat.lt_irrefl 0)) (by rw [h]; exact Su.zero 0)⟩
  · exact ⟨_, key (d + 1) (fun _ => h.1) h.2⟩
variable (k)
open Classical in
/-- the canonical list -/
noncomputable def L (f : Pl k.E) : List Int := if h : ∃ l, k.Rp l f then Classical.choose h else []
variable {k}
theorem L_rp {f : Pl k.E} (hf : Fs f) : k.Rp (k.L f) f := by
  have h := rp_ex hf
  unfold L; rw [dif_pos h]; exact Classical.choose_spec h
theorem L_eq {l : List Int} {f : Pl k.E} (h : k.Rp l f) : l = k.L f := h.uniq (L_rp ⟨_, h.su⟩)
theorem pol_L {f : Pl k.E} (hf : Fs f) : k.pol (k.L f) = f := (L_rp hf).2.2
theorem L_su {f : Pl k.E} (hf : Fs f) : Su f (k.L f).length := (L_rp hf).su
theorem L_len {f : Pl k.E} {n : Nat} (hf : Su f n) : (k.L f).length ≤ n := by
  rcases Nat.eq_zero_or_pos (k.L f).length with h | h
  · omega
  · have := ((L_rp ⟨n, hf⟩).dg h).lt hf; omega
theorem L_dg {f : Pl k.E} {d : Nat} (h : Dg f d) : (k.L f).length = d + 1 := (L_rp h.fs).len h
theorem L_zero : k.L 0 = [] := List.eq_nil_of_length_eq_zero (Nat.le_zero.1 (L_len (Su.zero 0)))
theorem L_len0 {f : Pl k.E} (hf : Fs f) : (k.L f).length = 0 ↔ f = 0 := ⟨fun h => by have := L_su hf; rw [h] at this; exact this.eq0, fun h => by rw [h, L_zero]; rfl⟩
theorem L_at {f : Pl k.E} (hf : Fs f) (i : Nat) : vo (k.L f) i = k.co (f i) := by
  by_cases h : i < (k.L f).length
  · exact (L_rp hf).at_ h
  · rw [vo_hi (by omega), L_su hf i (by omega)]; rfl
theorem L_top {f : Pl k.E} {d : Nat} (h : Dg f d) : gi (k.L f) (((k.L f).length : Nat) - 1 : Int) = k.co (f d) := by
  rw [L_dg h, show (((d + 1 : Nat) : Int) - 1) = ((d : Nat) : Int) by omega, gi_nat, L_at h.fs]
theorem L_pol {l : List Int} (h : k.Ell l) (h0 : 0 < l.length → vo l (l.length - 1) ≠ 0) : k.L (k.pol l) = l := (L_eq ⟨h, h0, rfl⟩).symm
theorem L_idem {f : Pl k.E} (hf : Fs f) : k.L (k.pol (k.L f)) = k.L f := by rw [pol_L hf]
/-- what Degree answers -/
def DegI (f : Pl k.E) (r : Int) : Prop := (r = -1 ∧ f = 0) ∨ ∃ d : Nat, r = d ∧ Dg f d
theorem degI_L {f : Pl k.E} (hf : Fs f) : DegI f (((k.L f).length : Nat) - 1 : Int) := by
  obtain ⟨n, hn⟩ := hf
  rcases dg_ex hn with h | ⟨d, _, h⟩
  · left; rw [h, L_zero]; exact ⟨rfl, rfl⟩
  · right; exact ⟨d, by rw [L_dg h]; omega, h⟩
theorem DegI.uniq {f : Pl k.E} {r r' : Int} (h : DegI f r) (h' : DegI f r') : r = r' := by
  rcases h with ⟨h1, h2⟩ | ⟨d, h1, h2⟩ <;> rcases h' with ⟨h3, h4⟩ | ⟨e, h3, h4⟩
  · omega
  · exact absurd h2 h4.ne
  · exact absurd h4 h2.ne
  · have := h2.uniq h4; omega
/-- a list cut behind its degree -/
theorem rp_take {l : List Int} {j : Nat} (h : k.Ell l) (hj : j ≤ l.length) (h0 : 0 < j → k.pol l (j - 1) ≠ 0) (hs : Su (k.pol l) j) : l.take j = k.L (k.pol l) := by
  have hl : (l.take j).length = j := by rw [List.length_take]; omega
  refine L_eq ⟨fun i hi => ?_, fun hp => ?_, Pl.ext fun i => ?_⟩
  · rw [hl] at hi; rw [take_vo hi]; exact h i (by omega)
  · rw [hl] at hp ⊢
    rw [take_vo (by omega)]
    intro e
    exact h0 hp (by show k.el (vo l (j - 1)) = 0; rw [e, el_zero])
  · show k.el (vo (l.take j) i) = k.pol l i
    by_cases hi : i < j
    · rw [take_vo hi]; rfl
    · rw [vo_hi (by omega), hs i (by omega), el_zero]
end Ks
end Go.Proofs.Ytmdigamgojfjdaa
