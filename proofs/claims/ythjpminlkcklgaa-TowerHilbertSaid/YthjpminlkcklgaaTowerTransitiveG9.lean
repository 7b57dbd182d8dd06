/- Contracts of functions of the program, and what they lean on: Q1, Q2, Q3, Q4, Q5, Q6, D16, Q7, Fh, Q8. -/
import Derived.Test.YthjpminlkcklgaaTowerTransitiveG8
set_option linter.unusedVariables false
set_option linter.unusedSimpArgs false
namespace Go.Proofs.Ythjpminlkcklgaa
section
variable {F : GFv} {p m v g : Nat} {P M : Int} {mf : List Int}
theorem w_lsame {l o : List Int} {Q : Bool → Prop} (hl : l.length ≤ 1000000) (h : Q (decide (l = o))) : V_lsame l o Q := by
  refine ⟨fun hne => ?_, fun he => ?_⟩
  · rw [decide_eq_false (fun e => hne (by rw [e]))] at h; exact h
  · have hlen : l.length = o.length := by omega
    refine ⟨fun z => ∃ j : Nat, z = j ∧ j ≤ l.length ∧ ∀ i, i < j → vo l i = vo o i, fun z => (l.length - z).toNat, ⟨0, rfl, Nat.zero_le _, fun i hi => by omega⟩, ?_⟩
    rintro _ ⟨j, rfl, hj, hv⟩
    dsimp only
    rw [gi_nat, gi_nat]
    refine ⟨fun hz => ⟨⟨by omega, by omega⟩, ⟨by omega, by omega⟩, fun hne => ?_, fun he => ⟨small (by omega) (by omega), ⟨j + 1, by push_cast; rfl, by omega, fun i hi => ?_⟩, by omega⟩⟩, fun hz => ?_⟩
    · rw [decide_eq_false (fun e => hne (by rw [e]))] at h; exact h
    · by_cases e : i = j
      · rw [e]; exact Decidable.not_not.1 he
      · exact hv i (by omega)
    · rw [decide_eq_true (vo_ext hlen fun i hi => hv i (by omega))] at h; exact h
theorem w_made {Q : Option GFv → Prop} (h0 : ¬ Valid P M mf → Q none) (h1 : ∀ (F : GFv) (p m v g : Nat), GFk F p m v g → FV P M mf p m v → Q (some F)) : V_made P M mf Q := by
  refine v_rCheck ⟨fun hn => h0 fun hV => hn (ck_ok hV), fun hn => ?_⟩
  refine v_New (fun hV => absurd (ck_no hV) (by intro e; rw [e] at hn; exact hn (by decide))) fun F p m v g K eP eM em => ⟨fun h => absurd rfl h, fun _ => ?_⟩
  have hF : FV P M mf p m v := by have := K.fv; rwa [eP, eM, em] at this
  exact h1 F p m v g K hF
theorem w_field {Q : Int × Int × List Int → Prop} (K : GFk F p m v g) (h : Q ((p : Int), (m : Int), F.mod)) : V_field F Q := by
  have hl : F.mod.length ≤ 1000000 := by
    have h8 := K.fv.m8
    by_cases hm1 : m = 1
    · rw [(K.fv.m1 hm1).1]; simp
    · rw [K.fv.m2 hm1, dgi_len]; omega
  refine v_field hl ?_
  rw [K.fv.eP, K.fv.eM]; exact h
theorem ppow (hF : FV P M mf p m v) {i : Nat} (hi : i ≤ m) : 0 < p ^ i ∧ p ^ i ≤ 256 := by
  have hp := hF.p2
  exact ⟨Nat.pow_pos (by omega), Nat.le_trans (Nat.pow_le_pow_right (by omega) hi) hF.q⟩
theorem w_frob {x k : Int} {Q : Int → Prop} (K : GFk F p m v g) (hk : I64 k) (h : Q ((pw (fmul p m (dv p v)) (inE (p ^ m) x) (p ^ (k % (m : Int)).toNat) : Nat) : Int)) : V_frob F x k Q := by
  have hm0 := K.fv.m0
  have hm8 := K.fv.m8
  have hm : (0 : Int) < m := by omega
  have t1 := Int.tmod_lt_of_pos k hm
  have t2 := Int.lt_tmod_of_pos k hm
  have hmod := modk (n := k) hm
  refine w_field K ⟨by omega, fun z => z = k % (m : Int), ⟨fun hneg => ⟨small (by omega) (by omega), ?_⟩, fun hpos => ?_⟩, ?_⟩
  · rw [← hmod, Int.tmod_eq_emod_of_nonneg (by omega), Int.emod_eq_of_lt (by omega) (by omega)]
  · rw [← hmod, Int.tmod_eq_emod_of_nonneg (by omega), show k.tmod (m : Int) + (m : Int) = k.tmod (m : Int) + (m : Int) * 1 by omega, Int.add_mul_emod_self_left, Int.emod_eq_of_lt (by omega) (by omega)]
  · rintro _ rfl
    have h3 := Int.emod_nonneg k (show (m : Int) ≠ 0 by omega)
    have h4 := Int.emod_lt_of_pos k hm
    obtain ⟨j, hj⟩ : ∃ j : Nat, k % (m : Int) = j := ⟨_, (Int.toNat_of_nonneg h3).symm⟩
    rw [hj, Int.toNat_natCast] at h
    rw [hj] at h4 ⊢
    refine ⟨fun z i => ∃ n : Nat, i = n ∧ n ≤ j ∧ z = ((p ^ n : Nat) : Int), fun z i => (j - i).toNat, ⟨0, rfl, Nat.zero_le _, by simp⟩, ?_⟩
    rintro _ _ ⟨n, rfl, hn, rfl⟩
    refine ⟨fun hlt => ?_, fun hge => ?_⟩
    · have h5 := ppow K.fv (i := n + 1) (by omega)
      have h6 : ((p ^ n : Nat) : Int) * (p : Int) = ((p ^ (n + 1) : Nat) : Int) := by rw [Nat.pow_succ]; push_cast; rfl
      rw [h6]
      exact ⟨smallN (by omega), small (by omega) (by omega), ⟨n + 1, by push_cast; rfl, by omega, rfl⟩, by show ((j : Int) - ((n : Int) + 1)).toNat < ((j : Int) - (n : Int)).toNat; omega⟩
    · obtain rfl : n = j := by omega
      have h5 := ppow K.fv (i := n) (by omega)
      exact v_PowN K h5.1 (by omega) h
theorem w_frobN {x : Int} {c : Nat} {Q : Int → Prop} (K : GFk F p m v g) (hc : c ≤ 1000000) (h : Q ((pw (fmul p m (dv p v)) (inE (p ^ m) x) (p ^ c) : Nat) : Int)) : V_frob F x (c : Int) Q := by
  refine w_frob K (smallN (by omega)) ?_
  rw [show ((c : Int) % (m : Int)).toNat = c % m by rw [← Int.natCast_emod]; rfl, K.fv.ring.fr_mod K.G rfl (inE_lt K.fv.ring.pos x)]
  exact h
end
end Go.Proofs.Ythjpminlkcklgaa
set_option linter.unusedVariables false
set_option linter.unusedSimpArgs false
namespace Go.Proofs.Ythjpminlkcklgaa
section
variable {F : GFv} {p m v g : Nat} {P M : Int} {mf : List Int}
theorem vo_map (f : Nat → Int) (n i : Nat) : vo ((List.range n).map f) i = if i < n then f i else 0 := by
  unfold vo
  rw [List.getD_eq_getElem?_getD, List.getElem?_map]
  by_cases h : i < n
  · rw [if_pos h, List.getElem?_range h]; rfl
  · rw [if_neg h, List.getElem?_eq_none (by simpa using h)]; rfl
/-- d is a degree of a subfield. -/
def IsD (m : Nat) (d : Int) : Prop := ∃ c t : Nat, d = (c : Int) ∧ 0 < c ∧ m = c * t
theorem IsD.of {m c : Nat} (hc : 0 < c) (h : m % c = 0) : m = c * (m / c) := by
  have := Nat.mod_add_div m c; omega
theorem w_isDegree {d : Int} {Q : Bool → Prop} (K : GFk F p m v g) (h1 : ∀ c t : Nat, d = c → 0 < c → m = c * t → Q true) (h0 : ¬ IsD m d → Q false) : V_isDegree F d Q := by
  refine ⟨fun hd => w_field K ⟨by omega, ?_⟩, fun hd => h0 fun ⟨c, t, h2, h3, _⟩ => by omega⟩
  obtain ⟨c, rfl⟩ := Int.eq_ofNat_of_zero_le (show 0 ≤ d by omega)
  rw [tmodN m c]
  by_cases hm : m % c = 0
  · rw [decide_eq_true (by rw [hm]; rfl)]
    exact h1 c (m / c) rfl (by omega) (IsD.of (by omega) hm)
  · rw [decide_eq_false (by omega)]
    refine h0 fun ⟨c', t, h2, h3, h4⟩ => hm ?_
    obtain rfl : c = c' := by omega
    rw [h4]; exact Nat.mul_mod_right _ _
theorem w_tdivides {d : Int} {Q : Bool → Prop} (hF : FV P M mf p m v) (h1 : ∀ c t : Nat, d = c → 0 < c → m = c * t → Q true) (h0 : ¬ IsD m d → Q false) : V_tdivides P M mf d Q := by
  have hm0 := hF.m0
  have hno : m < d.toNat → ¬ IsD m d := fun hl ⟨c, t, h2, h3, h4⟩ => by
    have ht : 0 < t := Nat.pos_of_ne_zero fun e => by rw [e, Nat.mul_zero] at h4; omega
    have : c * 1 ≤ c * t := Nat.mul_le_mul_left c ht
    omega
  refine ⟨fun hd => ⟨fun hle => ⟨by omega, ?_⟩, fun hgt => h0 (hno (by rw [hF.eM] at hgt; omega))⟩, fun hd => h0 fun ⟨c, t, h2, h3, _⟩ => by omega⟩
  obtain ⟨c, rfl⟩ := Int.eq_ofNat_of_zero_le (show 0 ≤ d by omega)
  rw [hF.eM, tmodN m c]
  by_cases hm : m % c = 0
  · rw [decide_eq_true (by rw [hm]; rfl)]
    exact h1 c (m / c) rfl (by omega) (IsD.of (by omega) hm)
  · rw [decide_eq_false (by omega)]
    refine h0 fun ⟨c', t, h2, h3, h4⟩ => hm ?_
    obtain rfl : c = c' := by omega
    rw [h4]; exact Nat.mul_mod_right _ _
/-- The list of the steps of an orbit. -/
def orb (p m v c t x : Nat) : List Int := (List.range t).map (fun i => ((pw (fmul p m (dv p v)) x (p ^ (c * i)) : Nat) : Int))
theorem orb_len {c t x : Nat} : (orb p m v c t x).length = t := by simp [orb]
theorem orb_at {c t x i : Nat} (hi : i < t) : vo (orb p m v c t x) i = ((pw (fmul p m (dv p v)) x (p ^ (c * i)) : Nat) : Int) := by
  unfold orb; rw [vo_map, if_pos hi]
theorem w_orbit {x : Int} {c t : Nat} {Q : List Int → Prop} (K : GFk F p m v g) (hc : 0 < c) (hm : m = c * t) (h : Q (orb p m v c t (inE (p ^ m) x))) : V_orbit F x (c : Int) Q := by
  have hm8 := K.fv.m8
  have e : (m : Int).tdiv (c : Int) = (t : Int) := by rw [tdivN m c, hm, Nat.mul_div_cancel_left _ hc]
  have ht : t ≤ m := by rw [hm]; exact Nat.le_mul_of_pos_left _ hc
  refine w_field K ?_
  dsimp only
  rw [e, Int.toNat_natCast]
  refine ⟨⟨by omega, small (by omega) (by omega)⟩, ⟨by omega, by omega, by omega⟩, fun l z => ∃ j : Nat, z = j ∧ j ≤ t ∧ l.length = t ∧ ∀ i, i < j → vo l i = ((pw (fmul p m (dv p v)) (inE (p ^ m) x) (p ^ (c * i)) : Nat) : Int), fun l z => (t - z).toNat, ⟨0, rfl, Nat.zero_le _, by simp, fun i hi => by omega⟩, ?_⟩
  rintro l _ ⟨j, rfl, hj, hl, hv⟩
  dsimp only
  have ecj : (c : Int) * (j : Int) = ((c * j : Nat) : Int) := by push_cast; rfl
  refine ⟨fun hlt => ?_, fun hge => ?_⟩
  · have hb : c * j ≤ m := by rw [hm]; exact Nat.mul_le_mul_left _ hj
    rw [ecj]
    refine ⟨small (by omega) (by omega), w_frobN K (by omega) ⟨⟨by omega, by omega⟩, small (by omega) (by omega), ⟨j + 1, by push_cast; rfl, by omega, by simp [si, hl], fun i hi => ?_⟩, by omega⟩⟩
    rw [si_nat, vo_set]
    by_cases hij : j = i
    · rw [if_pos ⟨hij, by omega⟩, hij]
    · rw [if_neg (by omega), hv i (by omega)]
  · have : l = orb p m v c t (inE (p ^ m) x) := vo_ext (by rw [hl, orb_len]) fun i hi => by rw [hv i (by omega), orb_at (by omega)]
    rw [this]; exact h
theorem fsum_orb (K : GFk F p m v g) {c t x : Nat} : ∀ k, k ≤ t → fsum p m (orb p m v c t x) k = sO (fadd p m) 0 (fun i => pw (fmul p m (dv p v)) x (p ^ (c * i))) k
  | 0, _ => rfl
  | k + 1, hk => by
    show fadd p m (fsum p m (orb p m v c t x) k) _ = fadd p m (sO _ 0 _ k) _
    rw [fsum_orb K k (by omega), orb_at (by omega), inE_nat (K.fv.ring.pw_lt _ _)]
theorem w_trace {x d : Int} {Q : Int × Int → Prop} (K : GFk F p m v g) (h6 : ¬ IsD m d → Q (0, 6)) (h : ∀ c t : Nat, d = c → 0 < c → m = c * t → Q (((trc (fadd p m) (fmul p m (dv p v)) p c t (inE (p ^ m) x) : Nat) : Int), 0)) : V_trace F x d Q := by
  have hm8 := K.fv.m8
  refine w_isDegree K (fun c t e hc hm => ⟨fun h => absurd h (by decide), fun _ => ?_⟩) fun hn => ⟨fun _ => h6 hn, fun h => absurd h (by decide)⟩
  subst e
  have ht : t ≤ m := by rw [hm]; exact Nat.le_mul_of_pos_left _ hc
  refine w_orbit K hc hm (v_Sum K (by rw [orb_len]; omega) ?_)
  rw [orb_len, fsum_orb K t (Nat.le_refl t)]
  exact h c t rfl hc hm
theorem w_norm {x d : Int} {Q : Int × Int → Prop} (K : GFk F p m v g) (h6 : ¬ IsD m d → Q (0, 6)) (h : ∀ c t : Nat, d = c → 0 < c → m = c * t → Q (((nrm (fmul p m (dv p v)) p c t (inE (p ^ m) x) : Nat) : Int), 0)) : V_norm F x d Q := by
  have hm8 := K.fv.m8
  have R := K.fv.ring
  refine w_isDegree K (fun c t e hc hm => ⟨fun h => absurd h (by decide), fun _ => ?_⟩) fun hn => ⟨fun _ => h6 hn, fun h => absurd h (by decide)⟩
  subst e
  have ht : t ≤ m := by rw [hm]; exact Nat.le_mul_of_pos_left _ hc
  refine w_orbit K hc hm ⟨fun z i => ∃ j : Nat, i = j ∧ j ≤ t ∧ z = ((sO (fmul p m (dv p v)) 1 (fun i => pw (fmul p m (dv p v)) (inE (p ^ m) x) (p ^ (c * i))) j : Nat) : Int), fun z i => (t - i).toNat, ⟨0, rfl, Nat.zero_le _, rfl⟩, ?_⟩
  rintro _ _ ⟨j, rfl, hj, rfl⟩
  dsimp only
  rw [orb_len, gi_nat]
  refine ⟨fun hlt => ⟨⟨by omega, by omega⟩, v_Mul K ⟨small (by omega) (by omega), ⟨j + 1, by push_cast; rfl, by omega, ?_⟩, by omega⟩⟩, fun hge => ?_⟩
  · rw [orb_at (by omega), inE_nat (R.mul.lt _ _), inE_nat (R.pw_lt _ _)]; rfl
  · rw [show j = t by omega]; exact h c t rfl hc hm
end
end Go.Proofs.Ythjpminlkcklgaa
set_option linter.unusedVariables false
set_option linter.unusedSimpArgs false
namespace Go.Proofs.Ythjpminlkcklgaa
section
variable {F : GFv} {p m v g : Nat} {P M : Int} {mf : List Int}
theorem pe_ex (K : GFk F p m v g) {x c t : Nat} (hx : x < p ^ m) (hc : 0 < c) (hm : m = c * t) : ∃ u, u ≤ t ∧ Pe (fmul p m (dv p v)) (p ^ c) x u := by
  have hm0 := K.fv.m0
  have ht : 0 < t := Nat.pos_of_ne_zero fun e => by rw [e, Nat.mul_zero] at hm; omega
  refine Pe.ex t ht ?_
  rw [← Nat.pow_mul, ← hm]
  exact K.G.xq K.fv.ring hx
theorem orb_take {c t u x : Nat} (h : u ≤ t) : (orb p m v c t x).take u = orb p m v c u x := by
  unfold orb
  rw [← List.map_take, List.take_range, Nat.min_eq_left h]
theorem w_conj {x d : Int} {Q : List Int × Int → Prop} (K : GFk F p m v g) (h6 : ¬ IsD m d → Q ([], 6)) (h : ∀ c t u : Nat, d = c → 0 < c → m = c * t → u ≤ t → Pe (fmul p m (dv p v)) (p ^ c) (inE (p ^ m) x) u → Q (orb p m v c u (inE (p ^ m) x), 0)) : V_conj F x d Q := by
  have hm8 := K.fv.m8
  have R := K.fv.ring
  have hx := inE_lt R.pos x
  refine w_isDegree K (fun c t e hc hm => ⟨fun h => absurd h (by decide), fun _ => ?_⟩) fun hn => ⟨fun _ => h6 hn, fun h => absurd h (by decide)⟩
  subst e
  have ht : t ≤ m := by rw [hm]; exact Nat.le_mul_of_pos_left _ hc
  obtain ⟨u, hu, hP⟩ := pe_ex K hx hc hm
  have hu0 := hP.pos
  refine w_orbit K hc hm ⟨fun z => z = (u : Int), ⟨fun z => ∃ j : Nat, z = j ∧ 1 ≤ j ∧ j ≤ u, fun z => (u - z).toNat, ⟨1, rfl, Nat.le_refl 1, hu0⟩, ?_⟩, ?_⟩
  · rintro _ ⟨j, rfl, hj1, hj⟩
    dsimp only
    rw [orb_len]
    refine ⟨fun hlt => ⟨⟨by omega, by omega⟩, ⟨by omega, by omega⟩, ?_⟩, fun hge => by omega⟩
    have e0 : gi (orb p m v c t (inE (p ^ m) x)) (0 : Int) = ((inE (p ^ m) x : Nat) : Int) := by
      show vo (orb p m v c t (inE (p ^ m) x)) 0 = _
      rw [orb_at (by omega), Nat.mul_zero, R.fr_zero hx]
    have ej : gi (orb p m v c t (inE (p ^ m) x)) (j : Int) = ((pw (fmul p m (dv p v)) (inE (p ^ m) x) ((p ^ c) ^ j) : Nat) : Int) := by
      rw [gi_nat, orb_at (by omega), Nat.pow_mul]
    rw [e0, ej]
    refine ⟨fun hne => ?_, fun he => ?_⟩
    · have : j ≠ u := fun e => hne (by rw [e, hP.back])
      exact ⟨small (by omega) (by omega), ⟨j + 1, by push_cast; rfl, by omega, by omega⟩, by omega⟩
    · have he2 : pw (fmul p m (dv p v)) (inE (p ^ m) x) ((p ^ c) ^ j) = inE (p ^ m) x := Int.ofNat.inj (Decidable.not_not.1 he)
      have : ¬ j < u := fun hl => hP.no j hj1 hl he2
      show (j : Int) = u
      omega
  · rintro _ rfl
    rw [orb_len, Int.toNat_natCast, orb_take hu]
    exact ⟨⟨by omega, by omega⟩, h c t u rfl hc hm hu hP⟩
theorem w_tdegree {x : Int} {Q : Int → Prop} (K : GFk F p m v g) (h : ∀ u : Nat, u ≤ m → Pe (fmul p m (dv p v)) p (inE (p ^ m) x) u → Q (u : Int)) : V_tdegree F x Q := by
  refine w_conj K (fun hn => absurd ⟨1, m, rfl, by decide, by omega⟩ hn) fun c t u e hc hm hu hP => ?_
  obtain rfl : c = 1 := by omega
  dsimp only
  rw [orb_len]
  rw [Nat.pow_one] at hP
  exact h u (by omega) hP
def subL (p m v c n : Nat) : List Int := ((List.range n).filter (fun x => decide (pw (fmul p m (dv p v)) x (p ^ c) = x))).map (fun (a : Nat) => (a : Int))
theorem subL_succ (p m v c n : Nat) : subL p m v c (n + 1) = if pw (fmul p m (dv p v)) n (p ^ c) = n then subL p m v c n ++ [(n : Int)] else subL p m v c n := by
  unfold subL
  rw [List.range_succ, List.filter_append, List.map_append]
  by_cases h : pw (fmul p m (dv p v)) n (p ^ c) = n
  · rw [if_pos h]; congr 1; simp [h]
  · rw [if_neg h]; simp [h]
theorem subL_len (p m v c : Nat) : ∀ n, (subL p m v c n).length ≤ n
  | 0 => Nat.le_refl 0
  | n + 1 => by
    have := subL_len p m v c n
    rw [subL_succ]
    split
    · rw [List.length_append]; simp; omega
    · omega
theorem w_subfield {d : Int} {Q : List Int × Int → Prop} (K : GFk F p m v g) (h6 : ¬ IsD m d → Q ([], 6)) (h : ∀ c t : Nat, d = c → 0 < c → m = c * t → Q (subL p m v c (p ^ m), 0)) : V_subfield F d Q := by
  have hm8 := K.fv.m8
  have hq := K.fv.q
  have R := K.fv.ring
  refine w_isDegree K (fun c t e hc hm => ⟨fun h => absurd h (by decide), fun _ => ?_⟩) fun hn => ⟨fun _ => h6 hn, fun h => absurd h (by decide)⟩
  subst e
  have hcm : c ≤ m := by
    have hm0 := K.fv.m0
    have ht : 0 < t := Nat.pos_of_ne_zero fun e => by rw [e, Nat.mul_zero] at hm; omega
    rw [hm]; exact Nat.le_mul_of_pos_right _ ht
  show I64 F.q ∧ _
  rw [K.q, Int.toNat_natCast]
  refine ⟨small (by omega) (by omega), fun i l => l = subL p m v c i, rfl, ?_, ?_⟩
  · rintro i hi _ rfl
    have hl := subL_len p m v c i
    refine w_frobN K (by omega) ?_
    rw [inE_nat hi]
    refine ⟨fun he => ⟨by omega, ?_⟩, fun hne => ?_⟩
    · show _ = subL p m v c (i + 1)
      rw [subL_succ, if_pos (Int.ofNat.inj he)]
    · show _ = subL p m v c (i + 1)
      rw [subL_succ, if_neg (fun e => hne (by rw [e]))]
  · rintro _ rfl
    exact h c t rfl hc hm
theorem fv24 : FV 2 4 [1, 1, 0, 0] 2 4 3 := ⟨rfl, rfl, ⟨by decide, rfl, fun e he _ => he⟩, by decide, by decide, by decide, fun h => absurd h (by decide), fun _ => by decide +kernel, (irrB_iff (by decide) (by decide)).1 (by decide +kernel)⟩
theorem w_alive {Q : Bool → Prop} (h : Q true) : V_alive Q := by
  refine w_made (fun hn => absurd ⟨_, _, _, fv24⟩ hn) fun F p m v g K hF => ?_
  obtain ⟨rfl, rfl, rfl⟩ := fv24.same hF
  refine w_subfield K (fun hn => absurd ⟨2, 2, rfl, by decide, rfl⟩ hn) fun c t e hc hm => ?_
  obtain rfl : c = 2 := by omega
  refine w_trace K (fun hn => absurd ⟨1, 4, rfl, by decide, rfl⟩ hn) fun c t e hc hm => ?_
  obtain rfl : c = 1 := by omega
  obtain rfl : t = 4 := by omega
  have e1 : subL 2 4 3 2 (2 ^ 4) = [0, 1, 6, 7] := by kernel_rfl
  have e2 : trc (fadd 2 4) (fmul 2 4 (dv 2 3)) 2 1 4 (inE (2 ^ 4) 8) = 1 := by kernel_rfl
  dsimp only
  rw [e1, e2]
  refine ⟨fun _ => w_lsame (by simp) ⟨fun _ => ⟨fun _ => ⟨fun _ => w_tdegree K fun u hu hP => ?_, fun hne => absurd rfl hne⟩, fun hne => absurd rfl hne⟩, fun hf => absurd hf (by decide)⟩, fun hne => absurd rfl hne⟩
  have hb : inE (2 ^ 4) 2 = 2 := by kernel_rfl
  rw [hb] at hP
  have h1 : pw (fmul 2 4 (dv 2 3)) 2 (2 ^ 1) = 4 := by kernel_rfl
  have h2 : pw (fmul 2 4 (dv 2 3)) 2 (2 ^ 2) = 3 := by kernel_rfl
  have h3 : pw (fmul 2 4 (dv 2 3)) 2 (2 ^ 3) = 5 := by kernel_rfl
  have hu0 := hP.pos
  have hb := hP.back
  have : u = 4 := by
    rcases (show u = 1 ∨ u = 2 ∨ u = 3 ∨ u = 4 by omega) with rfl | rfl | rfl | rfl
    · rw [h1] at hb; omega
    · rw [h2] at hb; omega
    · rw [h3] at hb; omega
    · rfl
  subst this
  exact h
theorem nb {A B : Prop} (h : B) : ((!true) = true → A) ∧ ((!true) = false → B) := ⟨fun e => absurd e (by decide), fun _ => h⟩
theorem nf {A B : Prop} (h : A) : ((!false) = true → A) ∧ ((!false) = false → B) := ⟨fun _ => h, fun e => absurd e (by decide)⟩
end
end Go.Proofs.Ythjpminlkcklgaa
set_option linter.unusedVariables false
set_option linter.unusedSimpArgs false
namespace Go.Proofs.Ythjpminlkcklgaa
section
variable {F : GFv} {p m v g : Nat} {P M : Int} {mf : List Int}
theorem nrm_lt (R : CR (p ^ m) (fadd p m) (fmul p m (dv p v))) (d t x : Nat) : nrm (fmul p m (dv p v)) p d t x < p ^ m := R.mul.lt _ _
theorem chz (hF : FV P M mf p m v) : ∀ x, x < p ^ m → ns (fadd p m) x p = 0 := fun x hx => ns_char (by have := hF.p2; omega) hx
end
end Go.Proofs.Ythjpminlkcklgaa
set_option linter.unusedVariables false
set_option linter.unusedSimpArgs false
namespace Go.Proofs.Ythjpminlkcklgaa
section
variable {F : GFv} {p m v g : Nat} {P M : Int} {mf : List Int}
theorem cm_le {m c t : Nat} (hm0 : 0 < m) (hm : m = c * t) : c ≤ m ∧ t ≤ m := by
  have ht : 0 < t := Nat.pos_of_ne_zero fun e => by rw [e, Nat.mul_zero] at hm; omega
  have hc : 0 < c := Nat.pos_of_ne_zero fun e => by rw [e, Nat.zero_mul] at hm; omega
  exact ⟨by rw [hm]; exact Nat.le_mul_of_pos_right _ ht, by rw [hm]; exact Nat.le_mul_of_pos_left _ hc⟩
end
end Go.Proofs.Ythjpminlkcklgaa
set_option linter.unusedVariables false
set_option linter.unusedSimpArgs false
namespace Go.Proofs.Ythjpminlkcklgaa
section
variable {F : GFv} {p m v g : Nat} {P M : Int} {mf : List Int}
end
end Go.Proofs.Ythjpminlkcklgaa
set_option linter.unusedSimpArgs false
set_option linter.unusedVariables false
namespace Go.Proofs.Ythjpminlkcklgaa
open Go.RowKit
end Go.Proofs.Ythjpminlkcklgaa
set_option linter.unusedVariables false
set_option linter.unusedSimpArgs false
namespace Go.Proofs.Ythjpminlkcklgaa
section
variable {F : GFv} {p m v g : Nat} {P M : Int} {mf : List Int}
end
end Go.Proofs.Ythjpminlkcklgaa
set_option linter.unusedVariables false
namespace Go.Proofs.Ythjpminlkcklgaa
/-! ### Hilbert's theorem 90 -/
section
variable {q g p m u t : Nat} {A M : Nat → Nat → Nat}
theorem ns_add (R : CR q A M) {x : Nat} (hx : x < q) (a : Nat) : ∀ b, ns A x (a + b) = A (ns A x a) (ns A x b)
  | b => by
    have e : ∀ n, ns A x n = sO A 0 (fun _ => x) n := fun n => by
      induction n with
      | zero => rfl
      | succ n ih => show A (ns A x n) x = A _ x; rw [ih]
    rw [e, e, e]
    exact R.add.app (f := fun _ => x) (fun _ => hx) a b
end
end Go.Proofs.Ythjpminlkcklgaa
set_option linter.unusedVariables false
set_option linter.unusedSimpArgs false
namespace Go.Proofs.Ythjpminlkcklgaa
section
variable {F : GFv} {p m v g : Nat} {P M : Int} {mf : List Int}
end
end Go.Proofs.Ythjpminlkcklgaa
