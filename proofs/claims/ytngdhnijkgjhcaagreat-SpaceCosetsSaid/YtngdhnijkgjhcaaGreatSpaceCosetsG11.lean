/- Contracts of functions of the program, and what they lean on: V5, V6, M1, M2, M3, M4, M5, M6, M7, M8, M9, M10, M11, M12, M13, M14, M15, M16, M17, M18, M19, M20, M21, M22. -/
import Derived.Test.YtngdhnijkgjhcaaGreatSpaceCosetsG10
set_option linter.unusedVariables false
set_option linter.unusedSimpArgs false
namespace Go.Proofs.YtngdhnijkgjhcaaGreat
def inE (q : Nat) (x : Int) : Nat := if 0 <= x /\ x < q then x.toNat else 0
theorem JZ {q : Nat} (hq : 0 < q) (x : Int) : inE q x < q := by unfold inE; split <;> omega
theorem Qv {q x : Nat} (h : x < q) : inE q (x : Int) = x := by unfold inE; rw [if_pos (by omega)]; rfl
section
variable {P M : Int} {mf : List Int} {p m v : Nat}
theorem FV.ord (F : FV P M mf p m v) : Jh0 P M = ((p ^ m : Nat) : Int) := by
 rw [F.eP, F.eM, Jh0, if_pos]
 .simp
 .have := F.p2; have := F.m0; have := F.q; exact ⟨by omega, by omega, by simpa using this⟩
theorem FV.i64 (F : FV P M mf p m v) : I64 P := by
 have := F.p256; rw [F.eP]; exact JB (by omega) (by omega)
theorem v_rIs (F : FV P M mf p m v) {x : Int} {Q : Bool -> Prop} (h : Q (decide (0 <= x /\ x < ((p ^ m : Nat) : Int)))) : Jm4 P M mf x Q := by
 refine ⟨fun h0 => Jgg ?_, fun h0 => ?_⟩
 .rw [F.ord]; simpa [h0] using h
 .simpa [h0] using h
theorem v_rIn (F : FV P M mf p m v) {x : Int} {Q : Int -> Prop} (h : Q ((inE (p ^ m) x : Nat) : Int)) : Jsc P M mf x Q := by
 refine v_rIs F ⟨fun hb => ?_, fun hb => ?_⟩
 .have hb := of_decide_eq_true hb; unfold inE at h; rw [if_pos hb] at h
  rwa [Int.toNat_of_nonneg hb.1] at h
 .have hb := of_decide_eq_false hb; unfold inE at h; rw [if_neg hb] at h; exact h
theorem ZP (F : FV P M mf p m v) {x : Int} {Q : List Int -> Prop} (h : Q (dgi p m (inE (p ^ m) x))) : Yp P M mf x Q := by
 have hp := F.p2; have hq := F.q; have hm8 := F.m8; have hlt := JZ F.ring.pos x; refine ⟨_, v_rIn F rfl, _, ?_, h⟩; rw [F.eP, F.eM]; exact Jig (by omega) (by omega) (by omega) rfl
theorem Jno (F : FV P M mf p m v) {l : List Int} {u : Vec} {Q : Int -> Prop} (hl : l.length = m) (hv : ∀ i, i < m -> vo l i = u i % (p : Int)) (h : Q ((nm p m u : Nat) : Int)) : Zq P M mf l Q := by
 have hp := F.p2; rw [Jdn (by omega) hl hv, F.eP]; have hlt := Jcd (p := p) (m := m) (by omega) u; refine Jws hp F.p256 (by rw [Qe]; have := F.m8; omega) (by rw [Qe]; exact Jes (by omega) hlt _) (by rw [Qe]; exact F.q) ?_; rw [Jwp (by omega) hlt]; exact h
theorem v_rAdd (F : FV P M mf p m v) {x y : Int} {Q : Int -> Prop} (h : Q ((J3 p m (inE (p ^ m) x) (inE (p ^ m) y) : Nat) : Int)) : Jkn P M mf x y Q := by
 have hp := F.p2; have hp2 := F.p256; have hm8 := F.m8; have hx := JZ F.ring.pos x; have hy := JZ F.ring.pos y; refine ZP F (ZP F ?_); generalize inE (p ^ m) x = a at *
 generalize inE (p ^ m) y = b at *
 have hla := Qe p m a; have hlb := Qe p m b; rw [hla]; refine ⟨fun l z => ∃ k : Nat, z = k /\ k <= m /\ l.length = m /\ ∀ i, i < m -> vo l i = if i < k then (J9 (dv p a) (dv p b)) i % (p : Int) else dv p a i, fun l z => (m - z).toNat, ⟨0, rfl, Nat.zero_le _, hla, fun i hi => by rw [if_neg (by omega), Ym hi]⟩, ?_⟩; rintro l _ ⟨k, rfl, hk, hl, hv⟩; dsimp only; rw [JT, JT, Qo]; refine ⟨fun hlt => ?_, fun hge => Jno F hl (fun i hi => by rw [hv i hi, if_pos (by omega)]) h⟩; rw [hv k (by omega), if_neg (by omega), Ym (by omega)]; have c1 := Jhi (p := p) (by omega) a k; have c2 := Jhi (p := p) (by omega) b k; refine ⟨⟨by omega, by omega⟩, ⟨by omega, by omega⟩, JB (by omega) (by omega), by rw [F.eP]; omega, ⟨by omega, by omega⟩, JB (by omega) (by omega), ⟨k + 1, by push_cast; rfl, by omega, by rw [List.length_set, hl], fun i hi => ?_⟩, by omega⟩; rw [Qj]; by_cases hki : k = i
 .subst hki; rw [if_pos ⟨rfl, by omega⟩, if_pos (by omega), F.eP, Int.tmod_eq_emod_of_nonneg (by omega)]; rfl
 .rw [if_neg (fun h => hki h.1), hv i hi]; by_cases hik : i < k
  .rw [if_pos hik, if_pos (by omega)]
  .rw [if_neg hik, if_neg (by omega)]
theorem Jwt (F : FV P M mf p m v) {x : Int} {Q : Int -> Prop} (h : Q ((QN p m (inE (p ^ m) x) : Nat) : Int)) : Jew P M mf x Q := by
 have hp := F.p2; have hp2 := F.p256; have hm8 := F.m8; have hx := JZ F.ring.pos x; refine ZP F ?_; generalize inE (p ^ m) x = a at *
 have hla := Qe p m a; rw [hla]; refine ⟨fun l z => ∃ k : Nat, z = k /\ k <= m /\ l.length = m /\ ∀ i, i < m -> vo l i = if i < k then (vsm (-1) (dv p a)) i % (p : Int) else dv p a i, fun l z => (m - z).toNat, ⟨0, rfl, Nat.zero_le _, hla, fun i hi => by rw [if_neg (by omega), Ym hi]⟩, ?_⟩; rintro l _ ⟨k, rfl, hk, hl, hv⟩; dsimp only; rw [JT, Qo]; refine ⟨fun hlt => ?_, fun hge => Jno F hl (fun i hi => by rw [hv i hi, if_pos (by omega)]) h⟩; rw [hv k (by omega), if_neg (by omega)]; have c1 := Jhi (p := p) (by omega) a k; rw [F.eP]; refine ⟨⟨by omega, by omega⟩, JB (by omega) (by omega), by omega, ⟨by omega, by omega⟩, JB (by omega) (by omega), ⟨k + 1, by push_cast; rfl, by omega, by rw [List.length_set, hl], fun i hi => ?_⟩, by omega⟩; rw [Qj]; by_cases hki : k = i
 .subst hki; rw [if_pos ⟨rfl, by omega⟩, if_pos (by omega), Int.tmod_eq_emod_of_nonneg (by omega)]; show _ = (-1 * dv p a k) % (p : Int); rw [show (p : Int) - dv p a k = -1 * dv p a k + p * 1 by omega, Int.add_mul_emod_self_left]
 .rw [if_neg (fun h => hki h.1), hv i hi]; by_cases hik : i < k
  .rw [if_pos hik, if_pos (by omega)]
  .rw [if_neg hik, if_neg (by omega)]
end
theorem Jjl {p m : Nat} {c w w' u : Vec} {s : Int} {k : Nat} (hk : w' k % (p : Int) = (w k + s) % (p : Int)) (ho : ∀ i, i ≠ k -> w' i = w i) : ∀ n, vcg p (opr m c w' n u) (J9 (opr m c w n u) (if k < n then vsm s (tXn m c k u) else vz))
  | 0 => fun i => by simp [opr, J9, vz]
  | n + 1 => fun i => by
    have ih := Jjl hk ho (m := m) (c := c) (u := u) n i
    show (opr m c w' n u i + w' n * tXn m c n u i) % (p : Int) = ((opr m c w n u i + w n * tXn m c n u i) + (if k < n + 1 then vsm s (tXn m c k u) else vz) i) % (p : Int)
    rcases Nat.lt_trichotomy k n with h | h | h
    . rw [if_pos (by omega)]
      rw [if_pos h] at ih
      rw [ho n (by omega)]
      have := Jet ih (rfl : (w n * tXn m c n u i) % (p : Int) = _)
      rw [this]
      congr 1
      show opr m c w n u i + (vsm s (tXn m c k u)) i + _ = _
      omega
    . subst h
      rw [if_pos (by omega)]
      rw [if_neg (by omega)] at ih
      have := Jet ih (Jem hk (rfl : (tXn m c k u i) % (p : Int) = _))
      rw [this]
      congr 1
      show opr m c w k u i + 0 + (w k + s) * tXn m c k u i = _ + s * tXn m c k u i
      rw [Int.add_mul]; omega
    . rw [if_neg (by omega)]
      rw [if_neg (by omega)] at ih
      rw [ho n (by omega)]
      have := Jet ih (rfl : (w n * tXn m c n u i) % (p : Int) = _)
      rw [this]
      congr 1
      show opr m c w n u i + 0 + _ = _ + 0
      omega
theorem Xm {m : Nat} {c : Vec} (hm : 0 < m) : tXn m c m e0 = vsm (-1) (opr m c c m e0) := by
 obtain ⟨n, rfl⟩ : ∃ n, m = n + 1 := ⟨m - 1, by omega⟩
 show tX (n + 1) c (tXn (n + 1) c n e0) = _; rw [Jns (by omega)]; funext i; simp only [vsm]; rw [Jjm (Nat.le_refl _)]; simp only [tX, vei]; by_cases hi : i < n + 1
 .rw [if_pos hi, if_pos hi]; have e1 : (if i = 0 then (0 : Int) else if i - 1 = n then 1 else 0) = 0 := by
   split
   .rfl
   .rw [if_neg (by omega)]
  rw [e1, show n + 1 - 1 = n by omega, if_pos rfl]; omega
 .rw [if_neg hi, if_neg hi]; rfl
section
variable {P M : Int} {mf : List Int} {p m v : Nat}
theorem Jnp (F : FV P M mf p m v) {x y : Int} {Q : Int -> Prop} (h : Q ((JD p m (dv p v) (inE (p ^ m) x) (inE (p ^ m) y) : Nat) : Int)) : Jex P M mf x y Q := by
 have hp := F.p2; have hp2 := F.p256; have hm0 := F.m0; have hm8 := F.m8; have hx := JZ F.ring.pos x; have hy := JZ F.ring.pos y; refine ZP F (ZP F ?_); obtain rfl := F.eP; obtain rfl := F.eM; generalize inE (p ^ m) x = a at *
 generalize inE (p ^ m) y = b at *
 rw [Jen hx hy] at h; have hla := Qe p m a; have hlb := Qe p m b; have hva := ZM hx; have hvb := ZM hy; have hsa := YB hx; have hsb := YB hy; have hN : (2 * (m : Int) - 1).toNat = 2 * m - 1 := by omega
 have e2 : (2 * (m : Int) - 1) = ((2 * m - 1 : Nat) : Int) := by omega
 rw [e2]; generalize hNN : 2 * m - 1 = N at *
 rw [Int.toNat_natCast]; have hself := ZR (c := dv p v) hsb; refine ⟨JB (by omega) (by omega), ZJ (by omega), ⟨by omega, by omega, by omega⟩, ?_⟩; refine ⟨fun l z => ∃ k : Nat, z = k /\ k <= m /\ l.length = N /\ Cn p N (vo l) /\ vcg p (opr m (dv p v) (vo l) N e0) (opr m (dv p v) (dv p a) k (dv p b)), fun l z => (m - z).toNat, ⟨0, rfl, Nat.zero_le _, by simp, fun i hi => by rw [Jd2]; omega, ?_⟩, ?_⟩
 .have : vo (List.replicate N (0 : Int)) = vz := by funext i; rw [Jd2]; rfl
  rw [this]; have h0 : ∀ n, opr m (dv p v) vz n e0 = vz := fun n => by
   induction n with
   | zero => rfl
   | succ n ih => show J9 (opr m (dv p v) vz n e0) (vsm (vz n) _) = vz; rw [ih]; funext i; simp [J9, vsm, vz]
  rw [h0]; exact vcg.refl _
 rintro l _ ⟨i, rfl, hi, hl, hcn, hE⟩; dsimp only; refine ⟨fun hlt => ?_, fun hge => ?_⟩
 .refine ⟨fun r z => ∃ j : Nat, z = j /\ j <= m /\ r.length = N /\ Cn p N (vo r) /\ vcg p (opr m (dv p v) (vo r) N e0) (J9 (opr m (dv p v) (dv p a) i (dv p b)) (vsm (dv p a i) (tXn m (dv p v) i (opr m (dv p v) (dv p b) j e0)))), fun r z => (m - z).toNat, ⟨0, rfl, Nat.zero_le _, hl, hcn, ?_⟩, ?_⟩
  .show vcg p _ (J9 _ (vsm _ (tXn m (dv p v) i vz))); rw [Jk9, Jqw, Jcl]; exact hE
  rintro r _ ⟨j, rfl, hj, hr, hcr, hEr⟩; dsimp only; rw [show (i : Int) + (j : Int) = ((i + j : Nat) : Int) by push_cast; rfl, JT, JT, JT, Qo, hva, hvb]; refine ⟨fun hltj => ?_, fun hgej => ?_⟩
  .have c1 := Jhi (p := p) (by omega) a i; have c2 := Jhi (p := p) (by omega) b j; have c3 := hcr (i + j) (by omega); have c4 := Jbd (a := dv p a i) (b := dv p b j) hp2 ⟨c1.1, by omega⟩ ⟨c2.1, by omega⟩; refine ⟨ZJ (by omega), ZJ (by omega), ⟨by omega, by omega⟩, ⟨by omega, by omega⟩, ⟨by omega, by omega⟩, JB (by omega) (by omega), JB (by omega) (by omega), by omega, ⟨by omega, by omega⟩, JB (by omega) (by omega), ⟨j + 1, by push_cast; rfl, by omega, by rw [List.length_set, hr], fun t ht => ?_, ?_⟩, by omega⟩
   .rw [Qj]; split
    .rw [Int.tmod_eq_emod_of_nonneg (by omega)]; exact ⟨Int.emod_nonneg _ (by omega), Int.emod_lt_of_pos _ (by omega)⟩
    .exact hcr t ht
   .have hup := Jjl (p := p) (m := m) (c := dv p v) (w := vo r) (w' := vo (r.set (i + j) ((vo r (i + j) + dv p a i * dv p b j).tmod p))) (u := e0) (s := dv p a i * dv p b j) (k := i + j) (by
     rw [Qj, if_pos ⟨rfl, by omega⟩, Int.tmod_eq_emod_of_nonneg (by omega), Int.emod_emod]) (fun t ht => by rw [Qj, if_neg (fun h => ht h.1.symm)]) N
    rw [if_pos (by omega)] at hup; refine hup.trans ((hEr.add (vcg.refl _)).trans ?_); show vcg p _ (J9 _ (vsm _ (tXn m (dv p v) i (J9 (opr m (dv p v) (dv p b) j e0) (vsm (dv p b j) (tXn m (dv p v) j e0)))))); rw [Jc8, Jd6, Jfp, Jfl, Ji4, <- Jad]; exact vcg.refl _
  .have hjm : j = m := by omega
   subst hjm; rw [hself] at hEr; exact ⟨JB (by omega) (by omega), ⟨i + 1, by push_cast; rfl, by omega, hr, hcr, hEr⟩, by omega⟩
 .have him : i = m := by omega
  subst him; have hE2 : vcg p (opr i (dv p v) (vo l) N e0) (YM i (dv p v) (dv p b) (dv p a)) := hE; refine ⟨JB (by omega) (by omega), JB (by omega) (by omega), ?_⟩; refine ⟨fun r z => ∃ t : Nat, z = (t : Int) - 1 /\ i <= t /\ t <= N /\ r.length = N /\ Cn p N (vo r) /\ vcg p (opr i (dv p v) (vo r) t e0) (YM i (dv p v) (dv p b) (dv p a)), fun r z => (z + 1).toNat, ⟨N, by omega, by omega, by omega, hl, hcn, hE2⟩, ?_⟩; rintro r _ ⟨t, rfl, hit, htN, hr, hcr, hEr⟩; dsimp only; refine ⟨fun hle => ?_, fun hgt => ?_⟩
  .obtain ⟨k, rfl⟩ : ∃ k, t = k + 1 := ⟨t - 1, by omega⟩
   have ek : ((k + 1 : Nat) : Int) - 1 = (k : Int) := by omega
   rw [ek] at hle ⊢; have hm1 : i ≠ 1 := by omega
   have hmf : vo mf = dv p v := F.vo; have hml : mf.length = i := (F.cn hm1).1; have hwk := hcr k (by omega); refine ⟨fun s z => ∃ j : Nat, z = j /\ j <= i /\ s.length = N /\ Cn p N (vo s) /\ vo s k = vo r k /\ vcg p (opr i (dv p v) (vo s) k e0) (J9 (opr i (dv p v) (vo r) k e0) (vsm (-(vo r k)) (tXn i (dv p v) (k - i) (opr i (dv p v) (dv p v) j e0)))), fun s z => (i - z).toNat, ⟨0, rfl, Nat.zero_le _, hr, hcr, rfl, ?_⟩, ?_⟩
   .show vcg p _ (J9 _ (vsm _ (tXn i (dv p v) (k - i) vz))); rw [Jk9, Jqw, Jcl]; exact vcg.refl _
   rintro s _ ⟨j, rfl, hj, hs, hcs, hsk, hEs⟩; dsimp only; rw [show (k : Int) - (i : Int) + (j : Int) = ((k - i + j : Nat) : Int) by omega, JT, JT, JT, Qo, hmf, hsk]; refine ⟨fun hltj => ?_, fun hgej => ?_⟩
   .have c1 := Jhi (p := p) (by omega) v j; have c3 := hcs (k - i + j) (by omega); have c4 := Jbd (a := (p : Int) - vo r k) (b := dv p v j) hp2 ⟨by omega, by omega⟩ ⟨c1.1, by omega⟩; refine ⟨JB (by omega) (by omega), ZJ (by omega), JB (by omega) (by omega), ZJ (by omega), ⟨by omega, by omega⟩, ⟨by omega, by omega⟩, JB (by omega) (by omega), ⟨by omega, by omega⟩, JB (by omega) (by omega), JB (by omega) (by omega), by omega, ⟨by omega, by omega⟩, JB (by omega) (by omega), ⟨j + 1, by push_cast; rfl, by omega, by rw [List.length_set, hs], fun u hu => ?_, ?_, ?_⟩, by omega⟩
    .rw [Qj]; split
     .rw [Int.tmod_eq_emod_of_nonneg (by omega)]; exact ⟨Int.emod_nonneg _ (by omega), Int.emod_lt_of_pos _ (by omega)⟩
     .exact hcs u hu
    .rw [Qj, if_neg (by omega)]; exact hsk
    .have hup := Jjl (p := p) (m := i) (c := dv p v) (w := vo s) (w' := vo (s.set (k - i + j) ((vo s (k - i + j) + ((p : Int) - vo r k) * dv p v j).tmod p))) (u := e0) (s := -(vo r k) * dv p v j) (k := k - i + j) (by
      rw [Qj, if_pos ⟨rfl, by omega⟩, Jjf (by omega) c3.1 (by omega) c1.1, Int.emod_emod, Int.neg_mul]; rfl) (fun t ht => by rw [Qj, if_neg (fun h => ht h.1.symm)]) k
     rw [if_pos (by omega)] at hup; refine hup.trans ((hEs.add (vcg.refl _)).trans ?_); show vcg p _ (J9 _ (vsm _ (tXn i (dv p v) (k - i) (J9 (opr i (dv p v) (dv p v) j e0) (vsm (dv p v j) (tXn i (dv p v) j e0)))))); rw [Jc8, Jd6, Jfp, Jfl, Ji4, <- Jad]; exact vcg.refl _
   .have hji : j = i := by omega
    subst hji; refine ⟨JB (by omega) (by omega), ⟨k, by omega, by omega, by omega, hs, hcs, ?_⟩, by omega⟩; refine hEs.trans (vcg.trans ?_ hEr); show vcg p _ (J9 (opr j (dv p v) (vo r) k e0) (vsm (vo r k) (tXn j (dv p v) k e0))); have e1 : tXn j (dv p v) k e0 = tXn j (dv p v) (k - j) (tXn j (dv p v) j e0) := by rw [Jfp, show k - j + j = k by omega]
    rw [e1, Xm hm0, Jd6, Ji4, show vo r k * -1 = -(vo r k) by omega]; exact vcg.refl _
  .have hti : t = i := by omega
   subst hti; refine ⟨⟨by omega, by omega⟩, _, Jno F (u := opr t (dv p v) (vo r) t e0) ?_ (fun j hj => ?_) rfl, ?_⟩
   .rw [List.length_take, Int.toNat_natCast, hr]; omega
   .rw [Int.toNat_natCast, Ji9 hj, Jjm (Nat.le_refl _), if_pos hj]; have := hcr j (by omega); exact (Int.emod_eq_of_lt this.1 this.2).symm
   .rw [ZK hEr]; exact h
end
end Go.Proofs.YtngdhnijkgjhcaaGreat
set_option linter.unusedVariables false
set_option linter.unusedSimpArgs false
namespace Go.Proofs.YtngdhnijkgjhcaaGreat
section
variable {F : GFv} {p m v g : Nat}
theorem v_Is {x : Int} {Q : Bool -> Prop} (K : GFk F p m v g) (h : Q (decide (0 <= x /\ x < ((p ^ m : Nat) : Int)))) : V_Is F x Q := by
 refine ⟨fun h0 => ?_, fun h0 => ?_⟩
 .rw [K.q]; simpa [h0] using h
 .simpa [h0] using h
theorem Jgi {x : Int} {Q : Bool -> Prop} (K : GFk F p m v g) (h : Q (decide (inE (p ^ m) x ≠ 0))) : Z4 F x Q := by
 unfold inE at h; refine ⟨fun h0 => ?_, fun h0 => ?_⟩
 .rw [K.q]; by_cases hx : x < ((p ^ m : Nat) : Int)
  .rw [if_pos ⟨by omega, hx⟩] at h; rw [decide_eq_true hx]; rw [decide_eq_true (by omega)] at h; exact h
  .rw [if_neg (by omega)] at h; rw [decide_eq_false hx]; exact h
 .by_cases hx : 0 <= x /\ x < ((p ^ m : Nat) : Int)
  .rw [if_pos hx] at h; rw [decide_eq_false (by omega)] at h; exact h
  .rw [if_neg hx] at h; exact h
theorem Jih {x : Int} {Q : Int -> Prop} (K : GFk F p m v g) (h : Q ((inE (p ^ m) x : Nat) : Int)) : Z5 F x Q := by
 refine v_Is K ⟨fun hb => ?_, fun hb => ?_⟩
 .have hb := of_decide_eq_true hb; unfold inE at h; rw [if_pos hb, Int.toNat_of_nonneg hb.1] at h; exact h
 .have hb := of_decide_eq_false hb; unfold inE at h; rw [if_neg hb] at h; exact h
theorem Jx9 {q : Nat} {x : Int} (h : inE q x ≠ 0) : x = ((inE q x : Nat) : Int) := by
 unfold inE at h ⊢; split
 .rename_i hc; exact (Int.toNat_of_nonneg hc.1).symm
 .rename_i hc; rw [if_neg hc] at h; exact absurd rfl h
theorem GFk.lg (K : GFk F p m v g) {x : Int} (h : inE (p ^ m) x ≠ 0) : ∃ a : Nat, a < p ^ m - 1 /\ inE (p ^ m) x = pw (JD p m (dv p v)) g a /\ gi F.log x = (a : Int) /\ (0 <= x /\ x < (F.log.length : Nat)) := by
  have R := K.fv.ring
  have hlt := JZ R.pos x
  obtain ⟨a, ha, he⟩ := K.G.surj R (Nat.pos_of_ne_zero h) hlt
  have hx := Jx9 h
  refine ⟨a, ha, he.symm, ?_, ?_⟩
  . rw [hx, <- he, JT, K.lv a ha]
  . rw [K.ll]; omega
theorem Jk6 {x y : Int} {Q : Int -> Prop} (K : GFk F p m v g) (h : Q ((JD p m (dv p v) (inE (p ^ m) x) (inE (p ^ m) y) : Nat) : Int)) : Jfb F x y Q := by
 have R := K.fv.ring; have hq := K.fv.q; have hx := JZ R.pos x; have hy := JZ R.pos y; refine Jgi K ⟨fun hb => ?_, fun hb => Jgi K ⟨fun hb2 => ?_, fun hb2 => ?_⟩⟩
 .have h0 : inE (p ^ m) x = 0 := by simpa using hb
  rw [h0, R.Z0 hy] at h; exact h
 .have h0 : inE (p ^ m) y = 0 := by simpa using hb2
  rw [h0, R.M0 hx] at h; exact h
 .obtain ⟨a, ha, ea, la, bx⟩ := K.lg (x := x) (by simpa using hb); obtain ⟨b, hb', eb, lb, by_⟩ := K.lg (x := y) (by simpa using hb2); rw [la, lb]; have hel := K.el; refine ⟨bx, by_, JB (by omega) (by omega), ⟨by omega, by omega⟩, ?_⟩; rw [show (a : Int) + (b : Int) = ((a + b : Nat) : Int) by push_cast; rfl, JT, K.ev _ (by omega), R.pw_add K.G.lt, <- ea, <- eb]; exact h
theorem Qa2 {p m : Nat} {c : Vec} {x : Nat} (hp : 2 <= p) (hm : 0 < m) (hx : x < p ^ m) : JD p m c (p - 1) x = QN p m x := by
 unfold JD QN; have hd : vcg p (dv p (p - 1)) (vsm (-1) e0) := fun i => by
  cases i with
  | zero =>
   rw [ZB, Nat.mod_eq_of_lt (by omega)]; show ((p - 1 : Nat) : Int) % p = (-1 * 1) % p; rw [show ((p - 1 : Nat) : Int) = -1 * 1 + p * 1 by omega, Int.add_mul_emod_self_left]
  | succ i =>
   rw [Jaq, Nat.div_eq_of_lt (by omega), Jhh]; simp [vz, vsm, e0]
 rw [ZK (vcg.mul (vcg.refl c) hd (vcg.refl _))]; have : YM m c (vsm (-1) e0) (dv p x) = vsm (-1) (dv p x) := by
  show opr m c (dv p x) m (vsm (-1) e0) = _; rw [Jn1, ZR (YB hx)]
 rw [this]
theorem Jqz {x : Int} {Q : Int -> Prop} (K : GFk F p m v g) (h : Q ((QN p m (inE (p ^ m) x) : Nat) : Int)) : ZH F x Q := by
 have hp := K.fv.p2; have hpq := K.fv.pq; have h256 := K.fv.p256; have R := K.fv.ring; unfold ZH; rw [K.fv.eP]; refine ⟨JB (by omega) (by omega), Jk6 K ?_⟩; rw [show (p : Int) - 1 = ((p - 1 : Nat) : Int) by omega, Qv (by omega), Qa2 hp K.fv.m0 (JZ R.pos x)]; exact h
theorem Jv9 {m x y : Nat} (hx : x < 2 ^ m) (hy : y < 2 ^ m) : x ^^^ y = J3 2 m x y := by
 refine (nm_eq (by decide) (Nat.xor_lt_two_pow hx hy) fun i hi => ?_).symm; have h := Nat.testBit_xor x y i; rw [Nat.testBit_eq_decide_div_mod_eq, Nat.testBit_eq_decide_div_mod_eq, Nat.testBit_eq_decide_div_mod_eq] at h; simp only [dv, J9]; have h1 := Nat.mod_two_eq_zero_or_one (x / 2 ^ i); have h2 := Nat.mod_two_eq_zero_or_one (y / 2 ^ i); have h3 := Nat.mod_two_eq_zero_or_one ((x ^^^ y) / 2 ^ i); rcases h1 with h1 | h1 <;> rcases h2 with h2 | h2 <;> rcases h3 with h3 | h3 <;> rw [h1, h2, h3] at h <;> rw [h1, h2, h3] <;> first | rfl | exact absurd h (by decide)
theorem v_Add {x y : Int} {Q : Int -> Prop} (K : GFk F p m v g) (h : Q ((J3 p m (inE (p ^ m) x) (inE (p ^ m) y) : Nat) : Int)) : Jm6 F x y Q := by
 have R := K.fv.ring; have hq := K.fv.q; have hx := JZ R.pos x; have hy := JZ R.pos y; have hq2 := R.q2; refine Jih K (Jih K ⟨fun h2 => ⟨⟨by omega, by omega, by omega, by omega⟩, ?_⟩, fun h2 => ⟨fun h0 => ?_, fun h0 => ⟨fun h1 => ?_, fun h1 => ?_⟩⟩⟩)
 .have hp2 : p = 2 := by have := K.fv.eP; omega
  subst hp2; rw [<- Jv9 hx hy] at h; exact h
 .rw [show inE (p ^ m) x = 0 by omega, R.zA hy] at h; exact h
 .rw [show inE (p ^ m) y = 0 by omega, R.Az hx] at h; exact h
 .have hi : ∀ z : Nat, z < p ^ m -> inE (p ^ m) (z : Int) = z := fun z hz => Qv hz; obtain ⟨a, ha, ea, la, bx⟩ := K.lg (x := ((inE (p ^ m) x : Nat) : Int)) (by rw [hi _ hx]; omega); obtain ⟨b, hb, eb, lb, by_⟩ := K.lg (x := ((inE (p ^ m) y : Nat) : Int)) (by rw [hi _ hy]; omega); rw [hi _ hx] at ea; rw [hi _ hy] at eb; rw [la, lb]; have hal := K.al; have hel := K.el; refine ⟨by_, bx, JB (by omega) (by omega), fun z => ∃ d : Nat, z = d /\ d < p ^ m - 1 /\ pw (JD p m (dv p v)) g (a + d) = pw (JD p m (dv p v)) g b, ⟨fun hn => ?_, fun hn => ?_⟩, ?_⟩
  .rw [K.q]; refine ⟨JB (by omega) (by omega), JB (by omega) (by omega), b + (p ^ m - 1) - a, by omega, by omega, ?_⟩; have := K.G.per R b 1; rw [Nat.mul_one] at this; rw [show a + (b + (p ^ m - 1) - a) = b + (p ^ m - 1) by omega]; exact this
  .exact ⟨b - a, by omega, by omega, by rw [show a + (b - a) = b by omega]⟩
  .rintro _ ⟨d, rfl, hd, hpd⟩; rw [JT, K.av d hd]; have hgd := R.pw_lt g d; have hga := R.pw_lt g a
   -- x + y = x (g^d + 1)
   have hsum : J3 p m (inE (p ^ m) x) (inE (p ^ m) y) = JD p m (dv p v) (pw (JD p m (dv p v)) g a) (J3 p m (pw (JD p m (dv p v)) g d) 1) := by
    rw [R.Md hga hgd R.one_lt, R.M1 hga, <- R.pw_add K.G.lt, hpd, <- ea, <- eb, R.Ac]
   rw [hsum] at h; have hsl := R.Al (pw (JD p m (dv p v)) g d) 1; refine ⟨⟨by omega, by omega⟩, fun hm1 => ?_, fun hm1 => ?_⟩
   .have hz : J3 p m (pw (JD p m (dv p v)) g d) 1 = 0 := by
     rcases Nat.eq_zero_or_pos (J3 p m (pw (JD p m (dv p v)) g d) 1) with h3 | h3
     .exact h3
     .obtain ⟨s, hs, hse⟩ := K.G.surj R h3 hsl; rw [<- hse, K.lv s hs] at hm1; omega
    rw [hz, R.M0 hga] at h; exact h
   .have hnz : 0 < J3 p m (pw (JD p m (dv p v)) g d) 1 := by
     rcases Nat.eq_zero_or_pos (J3 p m (pw (JD p m (dv p v)) g d) 1) with h3 | h3
     .rw [h3, K.l0] at hm1; exact absurd rfl hm1
     .exact h3
    obtain ⟨s, hs, hse⟩ := K.G.surj R hnz hsl; rw [<- hse] at h ⊢; rw [K.lv s hs]; refine ⟨bx, JB (by omega) (by omega), ⟨by omega, by omega⟩, ?_⟩; rw [show (a : Int) + (s : Int) = ((a + s : Nat) : Int) by push_cast; rfl, JT, K.ev _ (by omega), R.pw_add K.G.lt]; exact h
theorem v_Inv {x : Int} {Q : Int × Int -> Prop} (K : GFk F p m v g) (h0 : inE (p ^ m) x = 0 -> Q (0, 7)) (h1 : ∀ z : Nat, inE (p ^ m) x ≠ 0 -> z < p ^ m -> JD p m (dv p v) z (inE (p ^ m) x) = 1 -> Q ((z : Int), 0)) : Jsg F x Q := by
 have R := K.fv.ring; have hq := K.fv.q; refine Jgi K ⟨fun hb => h0 (by simpa using hb), fun hb => ?_⟩; have hne : inE (p ^ m) x ≠ 0 := by simpa using hb
 obtain ⟨a, ha, ea, la, bx⟩ := K.lg hne; have hel := K.el; rw [la, K.q]; refine ⟨JB (by omega) (by omega), bx, JB (by omega) (by omega), ⟨by omega, by omega⟩, ?_⟩; rw [show ((p ^ m : Nat) : Int) - 1 - (a : Int) = ((p ^ m - 1 - a : Nat) : Int) by omega, JT, K.ev _ (by omega)]; refine h1 _ hne (R.pw_lt g _) ?_; rw [ea, <- R.pw_add K.G.lt, show p ^ m - 1 - a + a = p ^ m - 1 by omega, K.G.one]
theorem Od.uniq {M : Nat -> Nat -> Nat} {x n k : Nat} (h : Od M x n) (h' : Od M x k) : n = k := by
 rcases Nat.lt_trichotomy n k with h1 | h1 | h1
 .exact absurd h.one (h'.least n h.pos h1)
 .exact h1
 .exact absurd h'.one (h.least k h'.pos h1)
theorem Qad {x : Int} {l : List Int} {Q : List Int -> Prop} (K : GFk F p m v g) (hl : l.length <= 1000) (h : ∀ r : List Int, r.length = l.length -> (∀ i, i < l.length -> vo r i = ((JD p m (dv p v) (inE (p ^ m) x) (inE (p ^ m) (vo l i)) : Nat) : Int)) -> Q r) : Jaw F x l Q := by
 refine ⟨⟨by omega, by omega, by omega⟩, fun r i => ∃ k : Nat, i = k /\ k <= l.length /\ r.length = l.length /\ ∀ j, j < k -> vo r j = ((JD p m (dv p v) (inE (p ^ m) x) (inE (p ^ m) (vo l j)) : Nat) : Int), fun r i => (l.length - i).toNat, ⟨0, rfl, Nat.zero_le _, by simp, fun j hj => by omega⟩, ?_⟩; rintro r _ ⟨k, rfl, hk, hr, hv⟩; dsimp only; rw [JT]; refine ⟨fun hlt => ⟨⟨by omega, by omega⟩, Jk6 K ⟨⟨by omega, by omega⟩, JB (by omega) (by omega), ⟨k + 1, by push_cast; rfl, by omega, ?_, fun j hj => ?_⟩, by omega⟩⟩, fun hge => h r hr fun i hi => hv i (by omega)⟩
 .rw [Qo, List.length_set, hr]
 .rw [Qo, Qj]; by_cases hkj : k = j
  .subst hkj; rw [if_pos ⟨rfl, by omega⟩]
  .rw [if_neg (fun h => hkj h.1)]; exact hv j (by omega)
end
end Go.Proofs.YtngdhnijkgjhcaaGreat
set_option linter.unusedVariables false
set_option linter.unusedSimpArgs false
namespace Go.Proofs.YtngdhnijkgjhcaaGreat
section
variable (p m v : Nat)
def Ad (x y : Int) : Int := ((J3 p m (inE (p ^ m) x) (inE (p ^ m) y) : Nat) : Int)
def Ml (x y : Int) : Int := ((JD p m (dv p v) (inE (p ^ m) x) (inE (p ^ m) y) : Nat) : Int)
def Ng (x : Int) : Int := ((QN p m (inE (p ^ m) x) : Nat) : Int)
def Iv (x : Int) : Int := ((((List.range (p ^ m)).find? fun z => JD p m (dv p v) z (inE (p ^ m) x) == 1).getD 0 : Nat) : Int)
def El (x : Int) : Prop := 0 <= x /\ x < ((p ^ m : Nat) : Int)
def Elr (l : List Int) : Prop := ∀ x ∈ l, El p m x
def Els (X : List (List Int)) : Prop := ∀ r ∈ X, Elr p m r
def sc (x : Int) (l : List Int) : List Int := l.map (Ml p m v x)
def adm (a : List Int) (x : Int) (o : List Int) : List Int := (List.range a.length).map fun i => if vo o i = 0 then vo a i else Ad p m (vo a i) (Ml p m v x (vo o i))
def adx (a : List Int) (x : Int) (o : List Int) : List Int := if x = 0 then a else adm p m v a x o
def row (X : List (List Int)) (t : Nat) : List Int := X.getD t []
def nz (X : List (List Int)) (c s : Nat) : Nat := s + ((X.drop s).takeWhile fun r => vo r c == 0).length
def swp (X : List (List Int)) (i j : Nat) : List (List Int) := (X.set i (row X j)).set j (row X i)
def clr (f : Nat -> Int) (cur : Nat) (X : List (List Int)) : List (List Int) := (List.range X.length).map fun t => if t = cur then row X t else adx p m v (row X t) (f t) (row X cur)
structure ES where
  X : List (List Int)
  Y : List (List Int)
  pv : List Int
  d : Int
def es1 (c r cur : Nat) (S : ES) : ES :=
  let X1 := if r = cur then S.X else swp S.X r cur
  let Y1 := if r = cur then S.Y else swp S.Y r cur
  let e := vo (row X1 cur) c
  let X2 := X1.set cur (sc p m v (Iv p m v e) (row X1 cur))
  let Y2 := Y1.set cur (sc p m v (Iv p m v e) (row Y1 cur))
  { X := clr p m v (fun t => Ng p m (vo (row X2 t) c)) cur X2, Y := clr p m v (fun t => Ng p m (vo (row X2 t) c)) cur Y2, pv := S.pv ++ [(c : Int)], d := Ml p m v (if r = cur then S.d else Ng p m S.d) e }
def Yf (S : ES) (c : Nat) : ES :=
  if S.pv.length < S.X.length /\ nz S.X c S.pv.length < S.X.length then es1 p m v c (nz S.X c S.pv.length) S.pv.length S else S
def elim (cols : Nat) (S : ES) : ES := (List.range cols).foldl (Yf p m v) S
end
theorem QD {X Y : List (List Int)} (h : X.length = Y.length) (hv : ∀ i, i < X.length -> row X i = row Y i) : X = Y := by
 apply List.ext_getElem?; intro i; rcases Nat.lt_or_ge i X.length with hi | hi
 .rw [Za (d := []) hi, Za (d := []) (ls := Y) (by omega)]; exact congrArg some (hv i hi)
 .rw [List.getElem?_eq_none hi, List.getElem?_eq_none (by omega)]
theorem Qi (X : List (List Int)) (i j : Nat) (l : List Int) : row (X.set i l) j = if i = j /\ i < X.length then l else row X j := by
 unfold row; rw [List.getD_eq_getElem?_getD, List.getD_eq_getElem?_getD, List.getElem?_set]; by_cases h : i = j
 .subst h; by_cases hi : i < X.length <;> simp [hi]
 .simp [h]
theorem Jda {n : Nat} {f : Nat -> List Int} {t : Nat} (h : t < n) : row ((List.range n).map f) t = f t := by
 unfold row; rw [List.getD_eq_getElem?_getD]; simp [h]
theorem Jd3 {n : Nat} {f : Nat -> Int} {t : Nat} (h : t < n) : vo ((List.range n).map f) t = f t := by
 unfold vo; rw [List.getD_eq_getElem?_getD]; simp [h]
theorem row_hi {X : List (List Int)} {t : Nat} (h : X.length <= t) : row X t = [] := by
 unfold row; rw [List.getD_eq_getElem?_getD, List.getElem?_eq_none h]; rfl
theorem Jbk {X : List (List Int)} {t : Nat} (h : t < X.length) : row X t ∈ X := List.mem_of_getElem? (Za h)
theorem Jak {X : List (List Int)} {r : List Int} (h : r ∈ X) : ∃ t, t < X.length /\ row X t = r := by
 obtain ⟨t, ht, e⟩ := List.mem_iff_getElem.1 h; refine ⟨t, ht, ?_⟩; unfold row; rw [List.getD_eq_getElem?_getD, List.getElem?_eq_getElem ht]; exact e
theorem Jof {l : List Int} {x : Int} (h : x ∈ l) : ∃ t, t < l.length /\ vo l t = x := by
 obtain ⟨t, ht, e⟩ := List.mem_iff_getElem.1 h; refine ⟨t, ht, ?_⟩; unfold vo; rw [List.getD_eq_getElem?_getD, List.getElem?_eq_getElem ht]; exact e
theorem Jck {l : List Int} {t : Nat} (h : t < l.length) : vo l t ∈ l := List.mem_of_getElem? (Za h)
theorem Jfq (X : List (List Int)) (i j : Nat) : (swp X i j).length = X.length := by simp [swp]
theorem Jaf {X : List (List Int)} {i j t : Nat} (hi : i < X.length) (hj : j < X.length) : row (swp X i j) t = if t = j then row X i else if t = i then row X j else row X t := by
 unfold swp; rw [Qi, Qi, List.length_set]; by_cases h1 : t = j
 .subst h1; simp [hj]
 .by_cases h2 : t = i
  .subst h2; simp [hi, Ne.symm h1, h1]
  .simp [Ne.symm h1, Ne.symm h2, h1, h2]
theorem Jw3 {X : List (List Int)} {i j : Nat} (hi : i < X.length) (hj : j < X.length) : swp X i j = swp X j i := by
 refine QD (by rw [Jfq, Jfq]) fun t ht => ?_; rw [Jaf hi hj, Jaf hj hi]; by_cases h1 : t = j <;> by_cases h2 : t = i <;> simp_all
theorem Jw2 {X : List (List Int)} {i : Nat} (hi : i < X.length) : swp X i i = X := by
 refine QD (Jfq _ _ _) fun t ht => ?_; rw [Jaf hi hi]; by_cases h1 : t = i <;> simp_all
theorem Jaj (X : List (List Int)) (c : Nat) : ∀ s, s <= X.length -> nz X c s <= X.length /\ (∀ t, s <= t -> t < nz X c s -> vo (row X t) c = 0) /\ (nz X c s < X.length -> vo (row X (nz X c s)) c ≠ 0) := by
 have key : ∀ (n s : Nat), n + s = X.length -> nz X c s <= X.length /\ (∀ t, s <= t -> t < nz X c s -> vo (row X t) c = 0) /\ (nz X c s < X.length -> vo (row X (nz X c s)) c ≠ 0) := by
  intro n
  induction n with
  | zero =>
   intro s hs; have hd : X.drop s = [] := List.drop_eq_nil_of_le (by omega); have e : nz X c s = s := by unfold nz; rw [hd]; rfl
   rw [e]; exact ⟨by omega, fun t h1 h2 => by omega, fun h => by omega⟩
  | succ n ih =>
   intro s hs; have hlt : s < X.length := by omega
   have hd : X.drop s = row X s :: X.drop (s + 1) := by
    rw [List.drop_eq_getElem_cons hlt]
    congr 1
    unfold row; rw [List.getD_eq_getElem?_getD, List.getElem?_eq_getElem hlt]; rfl
   by_cases h0 : vo (row X s) c = 0
   .have e : nz X c s = nz X c (s + 1) := by
     unfold nz; rw [hd, List.takeWhile_cons, if_pos (by simp [h0]), List.length_cons]; omega
    obtain ⟨h1, h2, h3⟩ := ih (s + 1) (by omega); rw [e]; refine ⟨h1, fun t ht1 ht2 => ?_, h3⟩; rcases Nat.eq_or_lt_of_le ht1 with rfl | h
    .exact h0
    .exact h2 t h ht2
   .have e : nz X c s = s := by
     unfold nz; rw [hd, List.takeWhile_cons, if_neg (by simpa using h0)]; rfl
    rw [e]; exact ⟨by omega, fun t h1 h2 => by omega, fun _ => h0⟩
 exact fun s hs => key (X.length - s) s (by omega)
theorem Jrh (X : List (List Int)) (c s : Nat) : s <= nz X c s := Nat.le_add_right _ _
theorem Jl3 {X : List (List Int)} {c s r : Nat} (hs : s <= r) (hr : r <= X.length) (h1 : ∀ t, s <= t -> t < r -> vo (row X t) c = 0) (h2 : r < X.length -> vo (row X r) c ≠ 0) : r = nz X c s := by
 obtain ⟨a, b, d⟩ := Jaj X c s (by omega); have := Jrh X c s; rcases Nat.lt_trichotomy r (nz X c s) with h | h | h
 .exact absurd (b r hs h) (h2 (by omega))
 .exact h
 .exact absurd (h1 _ this h) (d (by omega))
section
variable {p m v : Nat}
theorem Jbw (a : List Int) (x : Int) (o : List Int) : (adm p m v a x o).length = a.length := by simp [adm]
theorem ZD (a : List Int) (x : Int) (o : List Int) : (adx p m v a x o).length = a.length := by
 unfold adx; split
 .rfl
 .exact Jbw ..
theorem Jd9 (x : Int) (l : List Int) : (sc p m v x l).length = l.length := by simp [sc]
theorem Zb (f : Nat -> Int) (cur : Nat) (X : List (List Int)) : (clr p m v f cur X).length = X.length := by simp [clr]
theorem Zw {f : Nat -> Int} {cur t : Nat} {X : List (List Int)} (h : t < X.length) : row (clr p m v f cur X) t = if t = cur then row X t else adx p m v (row X t) (f t) (row X cur) := Jda h
theorem Jac {a o : List Int} {x : Int} {t : Nat} (h : t < a.length) : vo (adm p m v a x o) t = if vo o t = 0 then vo a t else Ad p m (vo a t) (Ml p m v x (vo o t)) := Jd3 h
theorem Jgc {x : Int} {l : List Int} {t : Nat} (h : t < l.length) : vo (sc p m v x l) t = Ml p m v x (vo l t) := by
 unfold vo sc; rw [List.getD_eq_getElem?_getD, List.getElem?_map, List.getD_eq_getElem?_getD, List.getElem?_eq_getElem h]; rfl
end
section
variable {F : GFv} {p m v g : Nat} {P M : Int} {mf : List Int} {X : List (List Int)}
theorem Jhz {l : List Int} {Q : Bool -> Prop} (K : GFk F p m v g) (hl : l.length <= 1000000) (h1 : Elr p m l -> Q true) (h2 : ¬ Elr p m l -> Q false) : YT F l Q := by
 refine ⟨fun z => ∃ t : Nat, z = t /\ t <= l.length /\ ∀ k, k < t -> El p m (vo l k), fun z => (l.length - z).toNat, ⟨0, rfl, Nat.zero_le _, fun k h => by omega⟩, ?_⟩; rintro _ ⟨t, rfl, ht, hk⟩; dsimp only; rw [JT]; refine ⟨fun hlt => ⟨⟨by omega, by omega⟩, v_Is K ?_⟩, fun hge => h1 fun x hx => ?_⟩
 .by_cases he : El p m (vo l t)
  .rw [decide_eq_true (show 0 <= vo l t /\ vo l t < ((p ^ m : Nat) : Int) from he)]; refine ⟨fun h => absurd h (by decide), fun _ => ⟨JB (by omega) (by omega), ⟨t + 1, by push_cast; rfl, by omega, fun k hk' => ?_⟩, by omega⟩⟩; rcases Nat.lt_or_ge k t with h | h
   .exact hk k h
   .rw [show k = t by omega]; exact he
  .rw [decide_eq_false (show ¬ (0 <= vo l t /\ vo l t < ((p ^ m : Nat) : Int)) from he)]; exact ⟨fun _ => h2 fun h => he (h _ (Jck (by omega))), fun h => absurd h (by decide)⟩
 .obtain ⟨t', h3, rfl⟩ := Jof hx; exact hk t' (by omega)
theorem Jcj {l : List Int} {Q : Int -> Prop} (hF : FV P M mf p m v) (hl : l.length <= 1000000) (h1 : Elr p m l -> Q 0) (h2 : ¬ Elr p m l -> Q 2) : Zr P M mf l Q := by
 refine ⟨fun z => ∃ t : Nat, z = t /\ t <= l.length /\ ∀ k, k < t -> El p m (vo l k), fun z => (l.length - z).toNat, ⟨0, rfl, Nat.zero_le _, fun k h => by omega⟩, ?_⟩; rintro _ ⟨t, rfl, ht, hk⟩; dsimp only; rw [JT]; refine ⟨fun hlt => ⟨⟨by omega, by omega⟩, _, v_rIs hF rfl, ?_⟩, fun hge => h1 fun x hx => ?_⟩
 .by_cases he : El p m (vo l t)
  .rw [decide_eq_true (show 0 <= vo l t /\ vo l t < ((p ^ m : Nat) : Int) from he)]; refine ⟨fun h => absurd h (by decide), fun _ => ⟨JB (by omega) (by omega), ⟨t + 1, by push_cast; rfl, by omega, fun k hk' => ?_⟩, by omega⟩⟩; rcases Nat.lt_or_ge k t with h | h
   .exact hk k h
   .rw [show k = t by omega]; exact he
  .rw [decide_eq_false (show ¬ (0 <= vo l t /\ vo l t < ((p ^ m : Nat) : Int)) from he)]; exact ⟨fun _ => h2 fun h => he (h _ (Jck (by omega))), fun h => absurd h (by decide)⟩
 .obtain ⟨t', h3, rfl⟩ := Jof hx; exact hk t' (by omega)
def shp (C : Int) (X : List (List Int)) : Prop := 0 <= C /\ C <= 256 /\ X.length <= 256 /\ ∀ r ∈ X, (r.length : Int) = C
theorem Jnk {C : Int} {Q : Bool -> Prop} (h1 : shp C X -> Q true) (h2 : ¬ shp C X -> Q false) : Zt C X Q := by
 refine ⟨fun h => h2 fun s => by have := s.1; omega, fun h0 => ⟨fun h => h2 fun s => by have := s.2.1; omega, fun h3 => ⟨fun h => h2 fun s => by have := s.2.2.1; omega, fun h4 => ?_⟩⟩⟩; refine ⟨fun z => ∃ t : Nat, z = t /\ t <= X.length /\ ∀ k, k < t -> ((row X k).length : Int) = C, fun z => (X.length - z).toNat, ⟨0, rfl, Nat.zero_le _, fun k h => by omega⟩, ?_⟩; rintro _ ⟨t, rfl, ht, hk⟩; dsimp only; refine ⟨fun hlt => ⟨⟨by omega, by omega⟩, fun hne => h2 fun s => hne (s.2.2.2 _ (Jbk (by omega))), fun he => ⟨JB (by omega) (by omega), ⟨t + 1, by push_cast; rfl, by omega, fun k hk' => ?_⟩, by omega⟩⟩, fun hge => h1 ⟨by omega, by omega, by omega, fun r hr => ?_⟩⟩
 .rcases Nat.lt_or_ge k t with h | h
  .exact hk k h
  .rw [show k = t by omega]; exact Classical.not_not.1 he
 .obtain ⟨t', h3, rfl⟩ := Jak hr; exact hk t' (by omega)
theorem Jwg {Q : List (List Int) -> Prop} (hX : X.length <= 1000000) (hr : ∀ r ∈ X, r.length <= 1000000) (h : Q X) : Jdz X Q := by
 refine ⟨⟨by omega, by omega, by omega⟩, fun x z => ∃ t : Nat, z = t /\ t <= X.length /\ x.length = X.length /\ ∀ k, k < t -> row x k = row X k, fun x z => (X.length - z).toNat, ⟨0, rfl, Nat.zero_le _, by simp, fun k h => by omega⟩, ?_⟩; rintro x _ ⟨t, rfl, ht, hx, hk⟩; dsimp only; refine ⟨fun hlt => ⟨⟨by omega, by omega⟩, Jc7 (hr _ (Jbk (t := t) (by omega))) ⟨⟨by omega, by omega⟩, JB (by omega) (by omega), ⟨t + 1, by push_cast; rfl, by omega, ?_, fun k hk' => ?_⟩, ?_⟩⟩, fun hge => ?_⟩
 .rw [Zv]; exact hx
 .show row (x.set t (row X t)) k = row X k; rw [Qi]; by_cases e : t = k
  .rw [if_pos ⟨e, by omega⟩, e]
  .rw [if_neg (fun h => e h.1)]; exact hk k (by omega)
 .omega
 .rw [show x = X from QD hx fun i hi => hk i (by omega)]; exact h
theorem Jz9 {c s : Nat} {Q : Int -> Prop} (hs : s <= X.length) (hX : X.length <= 1000000) (hc : ∀ t, t < X.length -> c < (row X t).length) (h : Q ((nz X c s : Nat) : Int)) : YJ X s c Q := by
 refine ⟨fun r => r = ((nz X c s : Nat) : Int), ⟨fun z => ∃ t : Nat, z = t /\ s <= t /\ t <= X.length /\ ∀ k, s <= k -> k < t -> vo (row X k) c = 0, fun z => (X.length - z).toNat, ⟨s, rfl, Nat.le_refl _, hs, fun k h1 h2 => by omega⟩, ?_⟩, ?_⟩
 .rintro _ ⟨t, rfl, h1, h2, h3⟩; dsimp only; refine ⟨fun hlt => ⟨⟨by omega, by omega⟩, ⟨by omega, by have := hc t (by omega); show (c : Int) < ((row X t).length : Nat); omega⟩, fun he => ⟨JB (by omega) (by omega), ⟨t + 1, by push_cast; rfl, by omega, by omega, fun k hk1 hk2 => ?_⟩, by omega⟩, fun hne => ?_⟩, fun hge => ?_⟩
  .rcases Nat.lt_or_ge k t with h | h
   .exact h3 k hk1 h
   .rw [show k = t by omega]; exact he
  .exact congrArg _ (Jl3 h1 h2 h3 fun _ => hne)
  .exact congrArg _ (Jl3 h1 h2 h3 fun h => by omega)
 .rintro _ rfl; exact h
theorem ZI {a o : List Int} {x : Int} {Q : List Int -> Prop} (K : GFk F p m v g) (hl : o.length <= a.length) (ha : a.length <= 1000000) (h : Q (adx p m v a x o)) : Qa F a x o Q := by
 refine ⟨fun h0 => by unfold adx at h; rwa [if_pos h0] at h, fun h0 => ?_⟩; unfold adx at h; rw [if_neg h0] at h; refine ⟨fun y z => ∃ t : Nat, z = t /\ t <= o.length /\ y.length = a.length /\ ∀ k, k < a.length -> vo y k = if k < t then vo (adm p m v a x o) k else vo a k, fun y z => (o.length - z).toNat, ⟨0, rfl, Nat.zero_le _, rfl, fun k hk => by simp⟩, ?_⟩; rintro y _ ⟨t, rfl, ht, hy, hk⟩; dsimp only; rw [JT, JT]; refine ⟨fun hlt => ⟨fun y' => y'.length = a.length /\ ∀ k, k < a.length -> vo y' k = if k < t + 1 then vo (adm p m v a x o) k else vo a k, ⟨⟨by omega, by omega⟩, fun hne => ⟨⟨by omega, by omega⟩, _, Jk6 K rfl, _, v_Add K rfl, ⟨by omega, by omega⟩, ?_⟩, fun he => ?_⟩, ?_⟩, fun hge => ?_⟩
 .rw [Qo]; refine ⟨by rw [List.length_set]; exact hy, fun k hk' => ?_⟩; rw [Qj]; by_cases e : t = k
  .subst e; rw [if_pos ⟨rfl, by omega⟩, if_pos (by omega), Jac hk', if_neg hne, hk t hk', if_neg (by omega)]; rfl
  .rw [if_neg (fun h => e h.1), hk k hk']; by_cases hkt : k < t
   .rw [if_pos hkt, if_pos (by omega)]
   .rw [if_neg hkt, if_neg (by omega)]
 .have he' : vo o t = 0 := Classical.not_not.1 he; refine ⟨hy, fun k hk' => ?_⟩; rw [hk k hk']; by_cases e : k = t
  .subst e; rw [if_neg (by omega), if_pos (by omega), Jac hk', if_pos he']
  .by_cases hkt : k < t
   .rw [if_pos hkt, if_pos (by omega)]
   .rw [if_neg hkt, if_neg (by omega)]
 .rintro y' ⟨h1, h2⟩; exact ⟨JB (by omega) (by omega), ⟨t + 1, by push_cast; rfl, by omega, h1, h2⟩, by omega⟩
 .have : y = adm p m v a x o := QR (by rw [Jbw]; exact hy) fun i hi => by
   rw [hk i (by omega)]; by_cases hit : i < t
   .rw [if_pos hit]
   .rw [if_neg hit, Jac (by omega), if_pos (Jca (by omega))]
  rw [this]; exact h
theorem Jqv {x : Int} {l : List Int} {Q : List Int -> Prop} (K : GFk F p m v g) (hl : l.length <= 1000) (h : Q (sc p m v x l)) : Jaw F x l Q := Qad K hl fun r h1 h2 => by
 have : r = sc p m v x l := QR (by rw [Jd9]; exact h1) fun i hi => by rw [h2 i (by omega), Jgc (by omega)]; rfl
 rw [this]; exact h
theorem Jwb {x : Int} {l : List Int} {Q : List Int -> Prop} (hF : FV P M mf p m v) (hl : l.length <= 1000) (h : Q (sc p m v x l)) : Jdt P M mf x l Q := by
 refine ⟨⟨by omega, by omega, by omega⟩, fun y z => ∃ t : Nat, z = t /\ t <= l.length /\ y.length = l.length /\ ∀ k, k < t -> vo y k = vo (sc p m v x l) k, fun y z => (l.length - z).toNat, ⟨0, rfl, Nat.zero_le _, by simp, fun k h => by omega⟩, ?_⟩; rintro y _ ⟨t, rfl, ht, hy, hk⟩; dsimp only; rw [JT]; refine ⟨fun hlt => ⟨⟨by omega, by omega⟩, _, Jnp hF rfl, ⟨by omega, by omega⟩, JB (by omega) (by omega), ⟨t + 1, by push_cast; rfl, by omega, ?_, fun k hk' => ?_⟩, by omega⟩, fun hge => ?_⟩
 .rw [Qo, List.length_set]; exact hy
 .rw [Qo, Qj]; by_cases e : t = k
  .subst e; rw [if_pos ⟨rfl, by omega⟩, Jgc (by omega)]; rfl
  .rw [if_neg (fun h => e h.1)]; exact hk k (by omega)
 .rw [show y = sc p m v x l from QR (by rw [Jd9]; exact hy) fun i hi => hk i (by omega)]; exact h
theorem Jf9 {a u : List Int} {x : Int} {Q : List Int -> Prop} (hF : FV P M mf p m v) (hl : a.length <= u.length) (ha : a.length <= 1000000) (h : Q (adm p m v a x u)) : Z2 P M mf a x u Q := by
 refine ⟨⟨by omega, by omega, by omega⟩, fun y z => ∃ t : Nat, z = t /\ t <= a.length /\ y.length = a.length /\ ∀ k, k < t -> vo y k = vo (adm p m v a x u) k, fun y z => (a.length - z).toNat, ⟨0, rfl, Nat.zero_le _, by simp, fun k h => by omega⟩, ?_⟩; rintro y _ ⟨t, rfl, ht, hy, hk⟩; dsimp only; rw [JT, JT]; refine ⟨fun hlt => ⟨fun y' => y'.length = a.length /\ ∀ k, k < t + 1 -> vo y' k = vo (adm p m v a x u) k, ⟨⟨by omega, by omega⟩, ⟨by omega, by omega⟩, ⟨by omega, by omega⟩, fun hne => ⟨⟨by omega, by omega⟩, ⟨by omega, by omega⟩, _, Jnp hF rfl, _, v_rAdd hF rfl, ⟨by omega, by omega⟩, ?_⟩, fun he => ?_⟩, ?_⟩, fun hge => ?_⟩
 .rw [Qo, Qo]; refine ⟨by rw [List.length_set, List.length_set]; exact hy, fun k hk' => ?_⟩; rw [Qj, List.length_set]; by_cases e : t = k
  .subst e; rw [if_pos ⟨rfl, by omega⟩, Jac (by omega), if_neg hne]; rfl
  .rw [if_neg (fun h => e h.1), Qj, if_neg (fun h => e h.1)]; exact hk k (by omega)
 .have he' : vo u t = 0 := Classical.not_not.1 he; rw [Qo]; refine ⟨by rw [List.length_set]; exact hy, fun k hk' => ?_⟩; rw [Qj]; by_cases e : t = k
  .subst e; rw [if_pos ⟨rfl, by omega⟩, Jac (by omega), if_pos he']
  .rw [if_neg (fun h => e h.1)]; exact hk k (by omega)
 .rintro y' ⟨h1, h2⟩; exact ⟨JB (by omega) (by omega), ⟨t + 1, by push_cast; rfl, by omega, h1, h2⟩, by omega⟩
 .rw [show y = adm p m v a x u from QR (by rw [Jbw]; exact hy) fun i hi => hk i (by omega)]; exact h
theorem Jz6 {Q : List (List Int) -> Prop} (hX : X.length <= 1000000) (hr : ∀ r ∈ X, r.length <= 1000000) (h : Q X) : Jf4 X Q := by
 refine ⟨fun x z => ∃ t : Nat, z = t /\ t <= X.length /\ x = X.take t, fun x z => (X.length - z).toNat, ⟨0, rfl, Nat.zero_le _, rfl⟩, ?_⟩; rintro _ _ ⟨t, rfl, ht, rfl⟩; dsimp only; refine ⟨fun hlt => ?_, fun hge => by rw [List.take_of_length_le (by omega)]; exact h⟩; have h1 := hr _ (Jbk (t := t) (X := X) (by omega)); refine ⟨⟨by omega, by omega⟩, ?_, ?_, JB (by omega) (by omega), ⟨t + 1, by push_cast; rfl, by omega, ?_⟩, by omega⟩
 .show ((0 : Nat) + ((row X t).length : Nat) : Int) * 8 <= _; omega
 .rw [List.length_take]; omega
 .show X.take t ++ [[] ++ row X t] = _; rw [List.take_add_one, Za (d := []) (by omega)]; rfl
theorem Jwd {C : Int} {n : Int} {Q : Bool -> Prop} (hn : 0 <= n /\ n <= 1000000) (h1 : C <= 260 -> X.length <= n -> (∀ r ∈ X, (r.length : Int) <= n) -> Q true) (h2 : Q false) : Jhr C X n Q := by
 refine ⟨fun _ => h2, fun hC => ⟨fun _ => h2, fun hX => ⟨JB (by omega) (by omega), fun y z => ∃ t : Nat, z = t /\ t <= X.length /\ 0 <= y /\ y <= n /\ ∀ k, k < t -> ((row X k).length : Int) <= n, fun y z => (X.length - z).toNat, ⟨0, rfl, Nat.zero_le _, by omega, by omega, fun k h => by omega⟩, ?_⟩⟩⟩; rintro y _ ⟨t, rfl, ht, hy, hy2, hk⟩; dsimp only; refine ⟨fun hlt => ⟨⟨by omega, by omega⟩, fun _ => h2, fun hge => ?_⟩, fun hge => h1 (by omega) (by omega) fun r hr => ?_⟩
 .have hge' : ((row X t).length : Int) <= y := by
   have : ¬ (y < (((row X t).length : Nat) : Int)) := hge; omega
  have hg : gl X (t : Int) = row X t := rfl; rw [hg]; refine ⟨⟨by omega, by omega⟩, JB (by omega) (by omega), JB (by omega) (by omega), ⟨t + 1, by push_cast; rfl, by omega, by omega, by omega, fun k hk' => ?_⟩, by omega⟩; rcases Nat.lt_or_ge k t with h | h
  .exact hk k h
  .rw [show k = t by omega]; omega
 .obtain ⟨t', h3, rfl⟩ := Jak hr; exact hk t' (by omega)
end
end Go.Proofs.YtngdhnijkgjhcaaGreat
set_option linter.unusedVariables false
set_option linter.unusedSimpArgs false
namespace Go.Proofs.YtngdhnijkgjhcaaGreat
structure Shp (n w wy : Nat) (S : ES) : Prop where
  xl : S.X.length = n
  xr : ∀ t, t < n -> (row S.X t).length = w
  yl : S.Y.length = n
  yr : ∀ t, t < n -> (row S.Y t).length = wy
  pl : S.pv.length <= n
section
variable {p m v n w wy : Nat}
theorem Jla {X : List (List Int)} {i j t w : Nat} (hi : i < X.length) (hj : j < X.length) (h : ∀ t, t < X.length -> (row X t).length = w) (ht : t < X.length) : (row (swp X i j) t).length = w := by
 rw [Jaf hi hj]; split
 .exact h _ hi
 .split
  .exact h _ hj
  .exact h _ ht
def swq (X : List (List Int)) (r cur : Nat) : List (List Int) := if r = cur then X else swp X r cur
theorem J5 (X : List (List Int)) (r cur : Nat) : (swq X r cur).length = X.length := by
 unfold swq; split
 .rfl
 .exact Jfq ..
theorem Q2 {X : List (List Int)} {i j t w : Nat} (hi : i < X.length) (hj : j < X.length) (h : ∀ t, t < X.length -> (row X t).length = w) (ht : t < X.length) : (row (swq X i j) t).length = w := by
 unfold swq; split
 .exact h _ ht
 .exact Jla hi hj h ht
def scq (p m v : Nat) (X : List (List Int)) (cur : Nat) (e : Int) : List (List Int) := X.set cur (sc p m v (Iv p m v e) (row X cur))
theorem QC (X : List (List Int)) (cur : Nat) (e : Int) : (scq p m v X cur e).length = X.length := by simp [scq]
theorem Q5 {X : List (List Int)} {cur t w : Nat} {e : Int} (hc : cur < X.length) (h : ∀ t, t < X.length -> (row X t).length = w) (ht : t < X.length) : (row (scq p m v X cur e) t).length = w := by
 unfold scq; rw [Qi]; split
 .rw [Jd9]; exact h _ hc
 .exact h _ ht
theorem Jfa {X : List (List Int)} {f : Nat -> Int} {cur t w : Nat} (h : ∀ t, t < X.length -> (row X t).length = w) (ht : t < X.length) : (row (clr p m v f cur X) t).length = w := by
 rw [Zw ht]; split
 .exact h _ ht
 .rw [ZD]; exact h _ ht
theorem Jcg (c r cur : Nat) (S : ES) : (es1 p m v c r cur S).X = clr p m v (fun t => Ng p m (vo (row (scq p m v (swq S.X r cur) cur (vo (row (swq S.X r cur) cur) c)) t) c)) cur (scq p m v (swq S.X r cur) cur (vo (row (swq S.X r cur) cur) c)) := rfl
theorem Jyh (c r cur : Nat) (S : ES) : (es1 p m v c r cur S).Y = clr p m v (fun t => Ng p m (vo (row (scq p m v (swq S.X r cur) cur (vo (row (swq S.X r cur) cur) c)) t) c)) cur (scq p m v (swq S.Y r cur) cur (vo (row (swq S.X r cur) cur) c)) := rfl
theorem Qbf {c r cur : Nat} {S : ES} (h : Shp n w wy S) (hr : r < n) (hc : cur < n) (hp : S.pv.length < n) : Shp n w wy (es1 p m v c r cur S) := by
 have hx := h.xl; have hy := h.yl; have ax : ∀ t, t < S.X.length -> (row S.X t).length = w := fun t ht => h.xr t (by omega); have ay : ∀ t, t < S.Y.length -> (row S.Y t).length = wy := fun t ht => h.yr t (by omega); refine ⟨?_, fun t ht => ?_, ?_, fun t ht => ?_, ?_⟩
 .rw [Jcg, Zb, QC, J5]; exact hx
 .rw [Jcg]; refine Jfa (fun t ht => ?_) (by rw [QC, J5]; omega); rw [QC, J5] at ht; refine Q5 (by rw [J5]; omega) (fun t ht => ?_) (by rw [J5]; omega); rw [J5] at ht; exact Q2 (by omega) (by omega) ax ht
 .rw [Jyh, Zb, QC, J5]; exact hy
 .rw [Jyh]; refine Jfa (fun t ht => ?_) (by rw [QC, J5]; omega); rw [QC, J5] at ht; refine Q5 (by rw [J5]; omega) (fun t ht => ?_) (by rw [J5]; omega); rw [J5] at ht; exact Q2 (by omega) (by omega) ay ht
 .show (S.pv ++ [(c : Int)]).length <= n; rw [List.length_append]; simp; omega
theorem Jta {c : Nat} {S : ES} (h : Shp n w wy S) : Shp n w wy (Yf p m v S c) := by
 unfold Yf; split
 .rename_i hc
  exact Qbf h (by have := h.xl; omega) (by have := h.xl; omega) (by have := h.xl; omega)
 .exact h
theorem QW (k : Nat) (S : ES) : elim p m v (k + 1) S = Yf p m v (elim p m v k S) k := by
 unfold elim; rw [List.range_succ, List.foldl_append]; rfl
theorem Zn {S : ES} (h : Shp n w wy S) : ∀ k, Shp n w wy (elim p m v k S)
 | 0 => h
 | k + 1 => by rw [QW]; exact Jta (Zn h k)
theorem Jep {S : ES} {k : Nat} (h : ¬ (elim p m v k S).pv.length < (elim p m v k S).X.length) : ∀ j, elim p m v (k + j) S = elim p m v k S
 | 0 => rfl
 | j + 1 => by
  rw [<- Nat.add_assoc, QW, Jep h j]; unfold Yf; rw [if_neg (fun hc => h hc.1)]
end
section
variable {F : GFv} {p m v g : Nat} {P M : Int} {mf : List Int} {X Y : List (List Int)}
theorem Jsh (R : CR (p ^ m) (J3 p m) (JD p m (dv p v))) {x : Int} {z : Nat} (hx : inE (p ^ m) x < p ^ m) (hz : z < p ^ m) (h : JD p m (dv p v) z (inE (p ^ m) x) = 1) : Iv p m v x = (z : Int) := by
 unfold Iv; cases hf : (List.range (p ^ m)).find? fun z => JD p m (dv p v) z (inE (p ^ m) x) == 1 with
 | none =>
  have := List.find?_eq_none.1 hf z (List.mem_range.2 hz); simp [h] at this
 | some y =>
  have h1 := List.find?_some hf; have h2 := List.mem_range.1 (List.mem_of_find?_eq_some hf); have h1' : JD p m (dv p v) y (inE (p ^ m) x) = 1 := by simpa using h1
  show (y : Int) = z; have e : y = z := by
   have q1 : 1 < p ^ m := R.q2
   calc y = JD p m (dv p v) y 1 := (R.M1 h2).symm
    _ = JD p m (dv p v) y (JD p m (dv p v) z (inE (p ^ m) x)) := by rw [h]
    _ = JD p m (dv p v) y (JD p m (dv p v) (inE (p ^ m) x) z) := by rw [R.Mc hz hx]
    _ = JD p m (dv p v) (JD p m (dv p v) y (inE (p ^ m) x)) z := (R.Ma h2 hx hz).symm
    _ = JD p m (dv p v) 1 z := by rw [h1']
    _ = JD p m (dv p v) z 1 := R.Mc q1 hz
    _ = z := R.M1 hz
  rw [e]
theorem Qcf (R : CR (p ^ m) (J3 p m) (JD p m (dv p v))) {x : Int} (hx : inE (p ^ m) x = 0) : Iv p m v x = 0 := by
 unfold Iv; cases hf : (List.range (p ^ m)).find? fun z => JD p m (dv p v) z (inE (p ^ m) x) == 1 with
 | none => rfl
 | some y =>
  have h1 := List.find?_some hf; have h2 := List.mem_range.1 (List.mem_of_find?_eq_some hf); rw [hx, R.M0 h2] at h1; simp at h1
def prt (p m v : Nat) (f : Nat -> Int) (cur t : Nat) (X : List (List Int)) : List (List Int) := (List.range X.length).map fun s => if s < t /\ s ≠ cur then adx p m v (row X s) (f s) (row X cur) else row X s
theorem Yv (f : Nat -> Int) (cur t : Nat) (X : List (List Int)) : (prt p m v f cur t X).length = X.length := by simp [prt]
theorem Q9 {f : Nat -> Int} {cur t s : Nat} (h : s < X.length) : row (prt p m v f cur t X) s = if s < t /\ s ≠ cur then adx p m v (row X s) (f s) (row X cur) else row X s := Jda h
theorem Jgt (f : Nat -> Int) (cur : Nat) : prt p m v f cur 0 X = X := QD (Yv ..) fun i hi => by
 rw [Yv] at hi; rw [Q9 hi, if_neg (by omega)]
theorem Jjh (f : Nat -> Int) (cur : Nat) : prt p m v f cur X.length X = clr p m v f cur X := QD (by rw [Yv, Zb]) fun i hi => by
 rw [Yv] at hi; rw [Q9 hi, Zw hi]; by_cases h : i = cur
 .rw [if_neg (fun hh => hh.2 h), if_pos h]
 .rw [if_pos ⟨hi, h⟩, if_neg h]
theorem prt_same {f : Nat -> Int} {cur : Nat} : prt p m v f cur (cur + 1) X = prt p m v f cur cur X := QD (by rw [Yv, Yv]) fun i hi => by
 rw [Yv] at hi; rw [Q9 hi, Q9 hi]; by_cases h : i = cur
 .rw [if_neg (fun hh => hh.2 h), if_neg (fun hh => hh.2 h)]
 .by_cases h1 : i < cur
  .rw [if_pos ⟨by omega, h⟩, if_pos ⟨h1, h⟩]
  .rw [if_neg (fun hh => h1 (by omega)), if_neg (fun hh => h1 hh.1)]
theorem Jdc {f : Nat -> Int} {cur t : Nat} (ht : t < X.length) (hc : t ≠ cur) : (prt p m v f cur t X).set t (adx p m v (row X t) (f t) (row X cur)) = prt p m v f cur (t + 1) X := QD (by rw [List.length_set, Yv, Yv]) fun i hi => by
 rw [List.length_set, Yv] at hi; rw [Qi, Yv, Q9 (t := t + 1) hi]; by_cases h : t = i
 .subst h; rw [if_pos ⟨rfl, ht⟩, if_pos ⟨by omega, hc⟩]
 .rw [if_neg (fun hh => h hh.1), Q9 hi]; by_cases h1 : i < t
  .by_cases h2 : i = cur
   .rw [if_neg (fun hh => hh.2 h2), if_neg (fun hh => hh.2 h2)]
   .rw [if_pos ⟨h1, h2⟩, if_pos ⟨by omega, h2⟩]
  .rw [if_neg (fun hh => h1 hh.1), if_neg (fun hh => h1 (by omega))]
theorem Jk0 {cols wy : Nat} {Q : List Int × Int × List (List Int) × List (List Int) -> Prop} (K : GFk F p m v g) (hX : X.length <= 300) (hc : cols <= 300) (hw : wy <= 300) (hS : Shp X.length cols wy ⟨X, Y, [], 1⟩)
  (h : Q ((elim p m v cols ⟨X, Y, [], 1⟩).pv, (elim p m v cols ⟨X, Y, [], 1⟩).d, (elim p m v cols ⟨X, Y, [], 1⟩).X, (elim p m v cols ⟨X, Y, [], 1⟩).Y)) : Y3 F cols X Y Q := by
 have hYl : Y.length = X.length := hS.yl; generalize hS0 : (⟨X, Y, [], 1⟩ : ES) = S0 at h hS; refine ⟨fun a b c d => (⟨a, b, c, d⟩ : ES) = elim p m v cols S0, ⟨fun a b c d z => ∃ k : Nat, z = k /\ k <= cols /\ (⟨a, b, c, d⟩ : ES) = elim p m v k S0, fun _ _ _ _ z => (cols - z).toNat, ⟨0, rfl, Nat.zero_le _, hS0⟩, ?_⟩, ?_⟩
 .rintro a b c d _ ⟨k, rfl, hk, he⟩; have hs := Zn (p := p) (m := m) (v := v) hS k; have hstop := Jep (p := p) (m := m) (v := v) (S := S0) (k := k); have hsucc := QW (p := p) (m := m) (v := v) k S0; rw [<- he] at hs hstop hsucc; have hal : a.length = X.length := hs.xl; have hbl : b.length = X.length := hs.yl; have har := hs.xr; have hbr := hs.yr; have hpl : c.length <= X.length := hs.pl; simp only at har hbr; refine ⟨fun hlt => ⟨fun hlc => ?_, fun hge => ?_⟩, fun hge => ?_⟩
  .have hcur : c.length < X.length := by omega
   have hkc : k < cols := by omega
   refine ⟨fun pv x y d' _ _ => (⟨x, y, pv, d'⟩ : ES) = elim p m v (k + 1) S0, Jz9 (by omega) (by omega) (fun t ht => by rw [har t (by omega)]; exact hkc) ?_, ?_⟩
   .refine ⟨fun heq => ?_, fun hne => ?_⟩
    .rw [hsucc]; unfold Yf; rw [if_neg (fun hh => by have := hh.2; simp only at this; omega)]
    .have hnz := (Jaj a k c.length (by omega)).1; have hr : nz a k c.length < X.length := by omega
     generalize hrr : nz a k c.length = r at hr hne; rw [show Yf p m v ⟨a, b, c, d⟩ k = es1 p m v k r c.length ⟨a, b, c, d⟩ by unfold Yf; rw [if_pos ⟨by simp only; omega, by simp only; omega⟩, <- hrr]] at hsucc; refine ⟨fun x y d' => x = swq a r c.length /\ y = swq b r c.length /\ d' = (if r = c.length then d else Ng p m d), ⟨fun hrc => ⟨⟨by omega, by omega⟩, ⟨by omega, by omega⟩, ⟨by omega, by omega⟩, ⟨by omega, by omega⟩, ⟨by omega, by omega⟩, ⟨by omega, by omega⟩, ⟨by omega, by omega⟩, ⟨by omega, by omega⟩, Jqz K ?_⟩, fun hrc => ?_⟩, ?_⟩
     .have hrc' : r ≠ c.length := fun e => hrc (by rw [e]); refine ⟨?_, ?_, by rw [if_neg hrc']; rfl⟩
      .unfold swq; rw [if_neg hrc']; rfl
      .unfold swq; rw [if_neg hrc']; rfl
     .have hrc' : r = c.length := by have := Classical.not_not.1 hrc; omega
      refine ⟨?_, ?_, by rw [if_pos hrc']⟩
      .unfold swq; rw [if_pos hrc']
      .unfold swq; rw [if_pos hrc']
     .rintro _ _ _ ⟨rfl, rfl, rfl⟩; have hx1 : ∀ t, t < X.length -> (row (swq a r c.length) t).length = cols := fun t ht => Q2 (by omega) (by omega) (fun t ht => har t (by omega)) (by omega); have hy1 : ∀ t, t < X.length -> (row (swq b r c.length) t).length = wy := fun t ht => Q2 (by omega) (by omega) (fun t ht => hbr t (by omega)) (by omega); have hl1 := J5 a r c.length; have hl2 := J5 b r c.length; have hxs := Jcg (p := p) (m := m) (v := v) k r c.length ⟨a, b, c, d⟩; have hys := Jyh (p := p) (m := m) (v := v) k r c.length ⟨a, b, c, d⟩; have hds : (es1 p m v k r c.length ⟨a, b, c, d⟩).d = Ml p m v (if r = c.length then d else Ng p m d) (vo (row (swq a r c.length) c.length) k) := rfl; have hps : (es1 p m v k r c.length ⟨a, b, c, d⟩).pv = c ++ [(k : Int)] := rfl; simp only at hxs hys; generalize swq a r c.length = x1 at *
      generalize swq b r c.length = y1 at *
      have he1 : gi (gl x1 (c.length : Nat)) (k : Int) = vo (row x1 c.length) k := rfl; refine ⟨⟨by omega, by omega⟩, ⟨by omega, ?_⟩, _, Jk6 K rfl, fun z => z = Iv p m v (vo (row x1 c.length) k), ⟨⟨by omega, by omega⟩, ⟨by omega, ?_⟩, Iv p m v (vo (row x1 c.length) k), ?_⟩, ?_⟩
      .show (k : Int) < ((row x1 c.length).length : Nat); rw [hx1 _ hcur]; omega
      .show (k : Int) < ((row x1 c.length).length : Nat); rw [hx1 _ hcur]; omega
      .by_cases h0 : inE (p ^ m) (vo (row x1 c.length) k) = 0
       .exact ⟨7, v_Inv K (fun _ => by rw [Qcf K.fv.ring h0]) (fun z h1 => absurd h0 h1), rfl⟩
       .exact ⟨0, v_Inv K (fun h1 => absurd h1 h0) (fun z h1 h2 h3 => by have e := Jsh (x := vo (row x1 c.length) k) K.fv.ring (JZ (by have := K.fv.ring.q2; omega) _) h2 h3; rw [e]), rfl⟩
      .rintro _ rfl; have hsx : sll x1 (c.length : Int) (sc p m v (Iv p m v (vo (row x1 c.length) k)) (row x1 c.length)) = scq p m v x1 c.length (vo (row x1 c.length) k) := rfl; have hsy : sll y1 (c.length : Int) (sc p m v (Iv p m v (vo (row x1 c.length) k)) (row y1 c.length)) = scq p m v y1 c.length (vo (row x1 c.length) k) := rfl; refine ⟨⟨by omega, by omega⟩, _, Jqv K (by show (row x1 c.length).length <= 1000; rw [hx1 _ hcur]; omega) rfl, ⟨by omega, by omega⟩, ⟨by omega, by omega⟩, _, Jqv K (by show (row y1 c.length).length <= 1000; rw [hy1 _ hcur]; omega) rfl, ⟨by omega, by omega⟩, ?_⟩; have hx2 : ∀ t, t < X.length -> (row (scq p m v x1 c.length (vo (row x1 c.length) k)) t).length = cols := fun t ht => Q5 (by omega) (fun t ht => hx1 t (by omega)) (by omega); have hy2 : ∀ t, t < X.length -> (row (scq p m v y1 c.length (vo (row x1 c.length) k)) t).length = wy := fun t ht => Q5 (by omega) (fun t ht => hy1 t (by omega)) (by omega); have hl3 := QC (p := p) (m := m) (v := v) x1 c.length (vo (row x1 c.length) k); have hl4 := QC (p := p) (m := m) (v := v) y1 c.length (vo (row x1 c.length) k); generalize scq p m v x1 c.length (vo (row x1 c.length) k) = x2 at *
       generalize scq p m v y1 c.length (vo (row x1 c.length) k) = y2 at *
       have hfm : ∀ t, t < X.length -> vo (row (prt p m v (fun t => Ng p m (vo (row x2 t) k)) c.length t x2) t) k = vo (row x2 t) k := fun t ht => by
        rw [Q9 (by omega), if_neg (by omega)]
       generalize hf : (fun t => Ng p m (vo (row x2 t) k)) = f at *
       refine ⟨fun x y z => ∃ t : Nat, z = t /\ t <= X.length /\ x = prt p m v f c.length t x2 /\ y = prt p m v f c.length t y2, fun x y z => (X.length - z).toNat, ⟨0, rfl, Nat.zero_le _, hsx.trans (Jgt _ _).symm, hsy.trans (Jgt _ _).symm⟩, ?_⟩; rintro _ _ _ ⟨t, rfl, ht, rfl, rfl⟩; refine ⟨fun hlt2 => ?_, fun hge2 => ?_⟩
       .have htX : t < X.length := by omega
        have hg1 : gl (prt p m v f c.length t x2) (t : Int) = row x2 t := by
         show row (prt p m v f c.length t x2) t = _; rw [Q9 (by omega), if_neg (by omega)]
        have hg2 : gl (prt p m v f c.length t y2) (t : Int) = row y2 t := by
         show row (prt p m v f c.length t y2) t = _; rw [Q9 (by omega), if_neg (by omega)]
        have hg3 : gl (prt p m v f c.length t x2) (c.length : Int) = row x2 c.length := by
         show row (prt p m v f c.length t x2) c.length = _; rw [Q9 (by omega), if_neg (by omega)]
        have hg4 : gl (prt p m v f c.length t y2) (c.length : Int) = row y2 c.length := by
         show row (prt p m v f c.length t y2) c.length = _; rw [Q9 (by omega), if_neg (by omega)]
        rw [hg1, hg2, hg3, hg4]; have hft : Ng p m (gi (row x2 t) (k : Int)) = f t := by rw [<- hf]; rfl
        refine ⟨fun x y z => x = prt p m v f c.length (t + 1) x2 /\ y = prt p m v f c.length (t + 1) y2, ⟨⟨by omega, by omega⟩, ⟨by omega, by rw [hx2 t htX]; omega⟩, _, Jqz K rfl, fun hne2 => ?_, fun he2 => ?_⟩, ?_⟩
        .have hne3 : t ≠ c.length := fun e => hne2 (by rw [e]); have hne4 : (c.length : Int).toNat ≠ (t : Int).toNat := by omega
         refine ⟨⟨by omega, by omega⟩, ⟨by omega, by omega⟩, hne4, ZI K (by rw [hx2 t htX, hx2 _ hcur]; exact Nat.le_refl _) (by rw [hx2 t htX]; omega) ⟨⟨by omega, by omega⟩, ⟨by omega, by omega⟩, hne4, ZI K (by rw [hy2 t htX, hy2 _ hcur]; exact Nat.le_refl _) (by rw [hy2 t htX]; omega) ⟨?_, ?_⟩⟩⟩
         .show (prt p m v f c.length t x2).set t (adx p m v (row x2 t) (Ng p m (gi (row x2 t) (k : Int))) (row x2 c.length)) = _; rw [hft, Jdc (by omega) hne3]
         .show (prt p m v f c.length t y2).set t (adx p m v (row y2 t) (Ng p m (gi (row x2 t) (k : Int))) (row y2 c.length)) = _; rw [hft, Jdc (by omega) hne3]
        .have he3 : t = c.length := by have := Classical.not_not.1 he2; omega
         subst he3; exact ⟨prt_same.symm, prt_same.symm⟩
        .rintro _ _ _ ⟨rfl, rfl⟩; refine ⟨JB (by omega) (by omega), ⟨t + 1, by push_cast; rfl, by omega, rfl, rfl⟩, ?_⟩; show ((X.length : Int) - ((t : Int) + 1)).toNat < ((X.length : Int) - (t : Int)).toNat; omega
       .have hte : t = X.length := by omega
        subst hte; refine ⟨by omega, ?_⟩; have e1 := Jjh (p := p) (m := m) (v := v) (X := x2) f c.length; have e2 := Jjh (p := p) (m := m) (v := v) (X := y2) f c.length; rw [show x2.length = X.length by omega] at e1; rw [show y2.length = X.length by omega] at e2; rw [e1, e2, hsucc]; rw [<- hxs, <- hys]; show (⟨_, _, c ++ [(k : Int)], _⟩ : ES) = _; rw [<- hps]; show (⟨(es1 p m v k r c.length ⟨a, b, c, d⟩).X, (es1 p m v k r c.length ⟨a, b, c, d⟩).Y, (es1 p m v k r c.length ⟨a, b, c, d⟩).pv, Ml p m v (if r = c.length then d else Ng p m d) (vo (row x1 c.length) k)⟩ : ES) = _; rw [<- hds]
   .rintro pv x y d' _ _ hE; refine ⟨JB (by omega) (by omega), ⟨k + 1, by push_cast; rfl, by omega, hE⟩, ?_⟩; show ((cols : Int) - ((k : Int) + 1)).toNat < ((cols : Int) - (k : Int)).toNat; omega
  .have hst := hstop (by show ¬ c.length < a.length; omega) (cols - k); rw [show k + (cols - k) = cols by omega] at hst; exact hst.symm
  .show (⟨a, b, c, d⟩ : ES) = _; rw [he, show k = cols by omega]
 .rintro a b c d he; rw [<- he] at h; exact h
end
end Go.Proofs.YtngdhnijkgjhcaaGreat
set_option linter.unusedVariables false
set_option linter.unusedSimpArgs false
namespace Go.Proofs.YtngdhnijkgjhcaaGreat
section
variable {p m v n w wy : Nat}
theorem Jeq {q : Nat} (h : q < p ^ m) : El p m (q : Int) := ⟨by omega, by omega⟩
theorem ZL {l : List Int} (h : Elr p m l) {t : Nat} (ht : t < l.length) : El p m (vo l t) := h _ (Jck ht)
theorem Ql {X : List (List Int)} (h : Els p m X) (t : Nat) : Elr p m (row X t) := by
 rcases Nat.lt_or_ge t X.length with ht | ht
 .exact h _ (Jbk ht)
 .rw [row_hi ht]; exact fun x hx => by cases hx
theorem Jap {X : List (List Int)} (h : ∀ t, t < X.length -> Elr p m (row X t)) : Els p m X := fun r hr => by
 obtain ⟨t, ht, rfl⟩ := Jak hr; exact h t ht
theorem Jj5 {l : List Int} (h : ∀ t, t < l.length -> El p m (vo l t)) : Elr p m l := fun x hx => by
 obtain ⟨t, ht, rfl⟩ := Jof hx; exact h t ht
theorem Jxb (hp : 0 < p) {x : Int} {l : List Int} : Elr p m (sc p m v x l) := Jj5 fun t ht => by
 rw [Jd9] at ht; rw [Jgc ht]; exact Jeq (Jj3 hp _ _)
theorem Qbr (hp : 0 < p) {a o : List Int} {x : Int} (ha : Elr p m a) : Elr p m (adm p m v a x o) := Jj5 fun t ht => by
 rw [Jbw] at ht; rw [Jac ht]; split
 .exact ZL ha ht
 .exact Jeq (Jrp hp _ _)
theorem Jbv (hp : 0 < p) {a o : List Int} {x : Int} (ha : Elr p m a) : Elr p m (adx p m v a x o) := by
 unfold adx; split
 .exact ha
 .exact Qbr hp ha
theorem Jj4 (hp : 0 < p) {c r cur : Nat} {S : ES} (h : Els p m S.X) (hr : r < S.X.length) (hc : cur < S.X.length) : Els p m (es1 p m v c r cur S).X := by
 rw [Jcg]; have h1 : Els p m (swq S.X r cur) := Jap fun t ht => by
  rw [J5] at ht; unfold swq; split
  .exact Ql h t
  .rw [Jaf hr hc]; split
   .exact Ql h _
   .split <;> exact Ql h _
 have h2 : ∀ e, Els p m (scq p m v (swq S.X r cur) cur e) := fun e => Jap fun t ht => by
  unfold scq; rw [Qi]; split
  .exact Jxb hp
  .exact Ql h1 t
 refine Jap fun t ht => ?_; rw [Zb] at ht; rw [Zw ht]; split
 .exact Ql (h2 _) t
 .exact Jbv hp (Ql (h2 _) t)
theorem Jtb (hp : 0 < p) {c : Nat} {S : ES} (h : Els p m S.X) : Els p m (Yf p m v S c).X := by
 unfold Yf; split
 .rename_i hc; exact Jj4 hp h hc.2 hc.1
 .exact h
theorem Jba (hp : 0 < p) {S : ES} (h : Els p m S.X) : ∀ k, Els p m (elim p m v k S).X
 | 0 => h
 | k + 1 => by rw [QW]; exact Jtb hp (Jba hp h k)
end
section
variable {F : GFv} {p m v g : Nat} {P M : Int} {mf : List Int} {X Y : List (List Int)}
theorem Zl {x : Int} (h : El p m x) : ((inE (p ^ m) x : Nat) : Int) = x := by
 unfold inE; rw [if_pos (show 0 <= x /\ x < ((p ^ m : Nat) : Int) from h)]; have := h.1; omega
theorem Jjw (hF : FV P M mf p m v) {x : Int} (h : El p m x) : Ng p m x = 0 ↔ x = 0 := by
 have R := hF.ring; have hp := hF.p2; have hx := JZ (q := p ^ m) (by have := R.q2; omega) x; have h1 := Ye (p := p) (m := m) (by omega) hx; constructor
 .intro h0; have h2 : QN p m (inE (p ^ m) x) = 0 := Int.ofNat.inj h0; rw [h2, R.Az hx] at h1; rw [<- Zl h, h1]; rfl
 .intro h0; have h3 : inE (p ^ m) x = 0 := by rw [h0]; unfold inE; split <;> rfl
  rw [h3] at h1; show ((QN p m (inE (p ^ m) x) : Nat) : Int) = 0; rw [h3]; have h4 : QN p m 0 < p ^ m := Ya (by omega) 0; have h5 : J3 p m 0 (QN p m 0) = QN p m 0 := by rw [R.Ac, R.Az h4]
  rw [h5] at h1; rw [h1]; rfl
theorem ml_one (hF : FV P M mf p m v) {x : Int} (h : El p m x) : Ml p m v 1 x = x := by
 have R := hF.ring; have hq := R.q2; have hx := JZ (q := p ^ m) (by omega) x; unfold Ml; rw [show inE (p ^ m) (1 : Int) = 1 from Qv (x := 1) (by omega), R.Mc (by omega) hx, R.M1 hx]; exact Zl h
theorem Jx5 (hF : FV P M mf p m v) : Iv p m v 1 = 1 := by
 have R := hF.ring; have hq := R.q2; have e1 : inE (p ^ m) (1 : Int) = 1 := Qv (x := 1) (by omega); exact Jsh R (z := 1) (by rw [e1]; omega) (by omega) (by rw [e1]; exact R.M1 (by omega))
theorem Jxa (hF : FV P M mf p m v) {l : List Int} (h : Elr p m l) : sc p m v 1 l = l := QR (Jd9 _ _) fun i hi => by
 rw [Jd9] at hi; rw [Jgc hi, ml_one hF (ZL h hi)]
theorem w_rInv {x : Int} {Q : Int -> Prop} (hF : FV P M mf p m v) (h : Q (Iv p m v x)) : Jkm P M mf x Q := by
 have hq := hF.q; have R := hF.ring; have hq2 := R.q2; have hxl := JZ (q := p ^ m) (by omega) x; refine ⟨fun z => ∃ n : Nat, z = n /\ 1 <= n /\ n <= p ^ m /\ ∀ k, k < n -> JD p m (dv p v) (inE (p ^ m) x) k ≠ 1, fun z => (((p ^ m : Nat) : Int) - z).toNat, ⟨1, rfl, Nat.le_refl 1, by omega, fun k hk => by
  rw [show k = 0 by omega, R.M0 hxl]; omega⟩, ?_⟩
 rintro _ ⟨n, rfl, hn1, hn, hk⟩; refine Jgg ?_; rw [hF.ord]; dsimp only; refine ⟨fun hlt => Jnp hF ?_, fun hge => ?_⟩
 .have hnq : n < p ^ m := Int.ofNat_lt.1 hlt; rw [Qv hnq]; refine ⟨fun he => ?_, fun hne => ⟨JB (by omega) (by omega), ⟨n + 1, by push_cast; rfl, by omega, by omega, fun k hk' => ?_⟩, by omega⟩⟩
  .have h1 : JD p m (dv p v) (inE (p ^ m) x) n = 1 := Int.ofNat.inj he; rw [<- Jsh R hxl hnq (by rw [R.Mc hnq hxl]; exact h1)]; exact h
  .rcases Nat.lt_or_ge k n with h | h
   .exact hk k h
   .rw [show k = n by omega]; exact fun e => hne (by rw [e]; rfl)
 .have e : Iv p m v x = 0 := by
   unfold Iv; cases hf : (List.range (p ^ m)).find? fun z => JD p m (dv p v) z (inE (p ^ m) x) == 1 with
   | none => rfl
   | some y =>
    have h1 := List.find?_some hf; have h2 := List.mem_range.1 (List.mem_of_find?_eq_some hf); have h1' : JD p m (dv p v) y (inE (p ^ m) x) = 1 := by simpa using h1
    exact absurd (by rw [R.Mc hxl h2]; exact h1') (hk y (by omega))
  rw [e] at h; exact h
theorem Jhx {cols W wy : Nat} {d0 : Int} {Q : List (List Int) × List Int -> Prop} (hF : FV P M mf p m v) (hX : X.length <= 300) (hc : cols <= W) (hW : W <= 1000) (hS : Shp X.length W wy ⟨X, Y, [], d0⟩) (hE : Els p m X)
  (h : Q ((elim p m v cols ⟨X, Y, [], d0⟩).X, (elim p m v cols ⟨X, Y, [], d0⟩).pv)) : Yc P M mf X cols Q := by
 have hp2 := hF.p2; have hE0 : ∀ k, Els p m (elim p m v k ⟨X, Y, [], d0⟩).X := Jba (by omega) hE; have hXr : ∀ r ∈ X, r.length <= 1000000 := fun r hr => by
  obtain ⟨t, ht, rfl⟩ := Jak hr; have := hS.xr t ht; simp only at this; omega
 refine Jz6 (by omega) hXr ?_; generalize hS0 : (⟨X, Y, [], d0⟩ : ES) = S0 at h hS hE0; have hX0 : X = S0.X := by rw [<- hS0]
 have hP0 : ([] : List Int) = S0.pv := by rw [<- hS0]
 refine ⟨fun a c => a = (elim p m v cols S0).X /\ c = (elim p m v cols S0).pv, ⟨fun a c z y => ∃ k : Nat, y = k /\ k <= cols /\ a = (elim p m v k S0).X /\ c = (elim p m v k S0).pv /\ z = ((elim p m v k S0).pv.length : Nat), fun _ _ _ y => (cols - y).toNat, ⟨0, rfl, Nat.zero_le _, hX0, hP0, by show (0 : Int) = ((S0.pv.length : Nat) : Int); rw [<- hP0]; rfl⟩, ?_⟩, ?_⟩
 .rintro _ _ _ _ ⟨k, rfl, hk, rfl, rfl, rfl⟩; have hs := Zn (p := p) (m := m) (v := v) hS k; have hstop := Jep (p := p) (m := m) (v := v) (S := S0) (k := k); have hsucc := QW (p := p) (m := m) (v := v) k S0; have hek := hE0 k; generalize hSk : elim p m v k S0 = S at *
  have hal := hs.xl; have har := hs.xr; have hpl := hs.pl; refine ⟨fun hlt => ⟨fun hlc => ?_, fun hge => ?_⟩, fun hge => ?_⟩
  .have hcur : S.pv.length < X.length := by omega
   have hkc : k < cols := by omega
   have hsp := Jaj S.X k S.pv.length (by omega); refine ⟨fun pv x z _ _ _ _ => x = (elim p m v (k + 1) S0).X /\ pv = (elim p m v (k + 1) S0).pv /\ z = ((elim p m v (k + 1) S0).pv.length : Nat), ⟨fun r _ _ => r = ((nz S.X k S.pv.length : Nat) : Int), ⟨fun z _ => ∃ t : Nat, z = t /\ S.pv.length <= t /\ t <= X.length /\ ∀ s, S.pv.length <= s -> s < t -> vo (row S.X s) k = 0, fun z _ => (X.length - z).toNat, ⟨_, rfl, Nat.le_refl _, by omega, fun s h1 h2 => by omega⟩, ?_⟩, ?_⟩, ?_⟩
   .rintro _ _ ⟨t, rfl, h1, h2, h3⟩; dsimp only; refine ⟨fun hlt2 => ⟨⟨by omega, by omega⟩, ⟨by omega, by show (k : Int) < ((row S.X t).length : Nat); rw [har t (by omega)]; omega⟩, fun he => ⟨JB (by omega) (by omega), ⟨t + 1, by push_cast; rfl, by omega, by omega, fun s hs1 hs2 => ?_⟩, by omega⟩, fun hne => ?_⟩, fun hge2 => ?_⟩
    .rcases Nat.lt_or_ge s t with h | h
     .exact h3 s hs1 h
     .rw [show s = t by omega]; exact he
    .exact congrArg _ (Jl3 h1 (by omega) h3 fun _ => hne)
    .exact congrArg _ (Jl3 h1 (by omega) h3 fun h => by omega)
   .rintro _ _ _ rfl; refine ⟨fun heq => ?_, fun hne => ?_⟩
    .have e : elim p m v (k + 1) S0 = S := by
      rw [hsucc]; unfold Yf; rw [if_neg (fun hh => by have := hh.2; omega)]
     rw [e]; exact ⟨rfl, rfl, rfl⟩
    .have hr : nz S.X k S.pv.length < X.length := by have := hsp.1; omega
     have hge := Jrh S.X k S.pv.length; generalize hrr : nz S.X k S.pv.length = r at hr hge hsp; rw [show Yf p m v S k = es1 p m v k r S.pv.length S by unfold Yf; rw [if_pos ⟨by omega, by omega⟩, <- hrr]] at hsucc; have hsw : sll (sll S.X ((S.pv.length : Nat) : Int) (gl S.X (r : Int))) (r : Int) (gl S.X ((S.pv.length : Nat) : Int)) = swq S.X r S.pv.length := by
      show swp S.X S.pv.length r = _; unfold swq; split
      .rename_i e; rw [e]; exact Jw2 (by omega)
      .exact Jw3 (by omega) (by omega)
     refine ⟨True, ⟨⟨by omega, by omega⟩, ⟨by omega, by omega⟩, ⟨by omega, by omega⟩, ⟨by omega, by omega⟩, trivial⟩, fun _ => ?_⟩; rw [hsw]; have hx1 : ∀ t, t < X.length -> (row (swq S.X r S.pv.length) t).length = W := fun t ht => Q2 (by omega) (by omega) (fun t ht => har t (by omega)) (by omega); have hl1 := J5 S.X r S.pv.length; have hes : Els p m (es1 p m v k r S.pv.length S).X := Jj4 (by omega) hek (by omega) (by omega); have hxs := Jcg (p := p) (m := m) (v := v) k r S.pv.length S; have hps : (es1 p m v k r S.pv.length S).pv = S.pv ++ [(k : Int)] := rfl; have hel1 : Els p m (swq S.X r S.pv.length) := Jap fun t ht => by
      rw [J5] at ht; unfold swq; split
      .exact Ql hek t
      .rw [Jaf (by omega) (by omega)]; split
       .exact Ql hek _
       .split <;> exact Ql hek _
     generalize swq S.X r S.pv.length = x1 at *
     refine ⟨⟨by omega, by omega⟩, ⟨by omega, by show (k : Int) < ((row x1 S.pv.length).length : Nat); rw [hx1 _ hcur]; omega⟩, fun x => x = scq p m v x1 S.pv.length (vo (row x1 S.pv.length) k), ⟨fun hne1 => ⟨⟨by omega, by omega⟩, ⟨by omega, by show (k : Int) < ((row x1 S.pv.length).length : Nat); rw [hx1 _ hcur]; omega⟩, _, w_rInv hF rfl, ⟨by omega, by omega⟩, _, Jwb hF (by show (row x1 S.pv.length).length <= 1000; rw [hx1 _ hcur]; omega) rfl, ⟨by omega, by omega⟩, rfl⟩, fun he1 => ?_⟩, ?_⟩
     .have he2 : vo (row x1 S.pv.length) k = 1 := Classical.not_not.1 he1; unfold scq; rw [he2, Jx5 hF, Jxa hF (Ql hel1 _)]; refine (QD (by rw [List.length_set]) fun i hi => ?_).symm; rw [Qi]; split
      .rename_i h; rw [h.1]
      .rfl
     .rintro _ rfl; have hx2 : ∀ t, t < X.length -> (row (scq p m v x1 S.pv.length (vo (row x1 S.pv.length) k)) t).length = W := fun t ht => Q5 (by omega) (fun t ht => hx1 t (by omega)) (by omega); have hl3 := QC (p := p) (m := m) (v := v) x1 S.pv.length (vo (row x1 S.pv.length) k); have hel2 : Els p m (scq p m v x1 S.pv.length (vo (row x1 S.pv.length) k)) := Jap fun t ht => by
       unfold scq; rw [Qi]; split
       .exact Jxb (by omega)
       .exact Ql hel1 t
      generalize scq p m v x1 S.pv.length (vo (row x1 S.pv.length) k) = x2 at *
      generalize hf : (fun t => Ng p m (vo (row x2 t) k)) = f at *
      refine ⟨fun x z => ∃ t : Nat, z = t /\ t <= X.length /\ x = prt p m v f S.pv.length t x2, fun x z => (X.length - z).toNat, ⟨0, rfl, Nat.zero_le _, (Jgt _ _).symm⟩, ?_⟩; rintro _ _ ⟨t, rfl, ht, rfl⟩; refine ⟨fun hlt2 => ?_, fun hge2 => ?_⟩
      .have htX : t < X.length := by omega
       have hg1 : gl (prt p m v f S.pv.length t x2) (t : Int) = row x2 t := by
        show row (prt p m v f S.pv.length t x2) t = _; rw [Q9 (by omega), if_neg (by omega)]
       have hg3 : gl (prt p m v f S.pv.length t x2) ((S.pv.length : Nat) : Int) = row x2 S.pv.length := by
        show row (prt p m v f S.pv.length t x2) S.pv.length = _; rw [Q9 (by omega), if_neg (by omega)]
       rw [hg1, hg3]; have hft : Ng p m (gi (row x2 t) (k : Int)) = f t := by rw [<- hf]; rfl
       have hent : El p m (vo (row x2 t) k) := ZL (Ql hel2 t) (by rw [hx2 t htX]; omega); have hz := Jjw hF hent; refine ⟨fun x _ => x = prt p m v f S.pv.length (t + 1) x2, ⟨fun hne2 => ?_, fun he2 => ?_⟩, ?_⟩
       .have hne3 : t ≠ S.pv.length := fun e => hne2 (by rw [e]); refine ⟨⟨by omega, by omega⟩, ⟨by omega, by rw [hx2 t htX]; omega⟩, fun hnz => ?_, fun hnz => ?_⟩
        .refine ⟨⟨by omega, by omega⟩, ⟨by omega, by omega⟩, ⟨by omega, by rw [hx2 t htX]; omega⟩, _, Jwt hF rfl, ⟨by omega, by omega⟩, _, Jf9 hF (by rw [hx2 t htX, hx2 _ hcur]; exact Nat.le_refl _) (by rw [hx2 t htX]; omega) rfl, ⟨by omega, by omega⟩, ?_⟩; rw [<- Jdc (by omega) hne3, <- hft]; show _ = (prt p m v f S.pv.length t x2).set t (adx p m v (row x2 t) (Ng p m (vo (row x2 t) k)) (row x2 S.pv.length)); unfold adx; rw [if_neg (fun h0 => hnz (hz.1 h0))]; rfl
        .have hnz' : vo (row x2 t) k = 0 := Classical.not_not.1 hnz; rw [<- Jdc (by omega) hne3, <- hft]; show prt p m v f S.pv.length t x2 = (prt p m v f S.pv.length t x2).set t (adx p m v (row x2 t) (Ng p m (vo (row x2 t) k)) (row x2 S.pv.length)); unfold adx; rw [if_pos (hz.2 hnz')]; refine QD (by rw [List.length_set]) fun i hi => ?_; rw [Qi]; split
         .rename_i hh; rw [<- hh.1]; exact hg1
         .rfl
       .have he3 : t = S.pv.length := by have := Classical.not_not.1 he2; omega
        subst he3; exact prt_same.symm
       .rintro _ _ rfl; refine ⟨JB (by omega) (by omega), ⟨t + 1, by push_cast; rfl, by omega, rfl⟩, ?_⟩; show ((X.length : Int) - ((t : Int) + 1)).toNat < ((X.length : Int) - (t : Int)).toNat; omega
      .have hte : t = X.length := by omega
       subst hte; have e1 := Jjh (p := p) (m := m) (v := v) (X := x2) f S.pv.length; rw [show x2.length = X.length by omega] at e1; refine ⟨by omega, JB (by omega) (by omega), ?_⟩; rw [hsucc, e1, hxs, hps]; exact ⟨rfl, rfl, by rw [List.length_append]; simp⟩
   .rintro _ _ _ _ _ _ _ ⟨rfl, rfl, rfl⟩; refine ⟨JB (by omega) (by omega), ⟨k + 1, by push_cast; rfl, by omega, rfl, rfl, rfl⟩, ?_⟩; show ((cols : Int) - ((k : Int) + 1)).toNat < ((cols : Int) - (k : Int)).toNat; omega
  .have hst := hstop (by omega) (cols - k); rw [show k + (cols - k) = cols by omega] at hst; rw [hst]; exact ⟨rfl, rfl⟩
  .have hkc : k = cols := by omega
   subst hkc; exact ⟨by rw [hSk], by rw [hSk]⟩
 .rintro _ _ ⟨rfl, rfl⟩; exact h
theorem Ji2 {cols wy : Nat} {d0 : Int} {Q : List (List Int) × List Int -> Prop} (hF : FV P M mf p m v) (hX : X.length <= 300) (hc : cols <= 300) (hS : Shp X.length cols wy ⟨X, Y, [], d0⟩) (hE : Els p m X)
 (h : Q ((elim p m v cols ⟨X, Y, [], d0⟩).X, (elim p m v cols ⟨X, Y, [], d0⟩).pv)) : Yc P M mf X cols Q := Jhx hF hX (Nat.le_refl _) (by omega) hS hE h
end
end Go.Proofs.YtngdhnijkgjhcaaGreat
set_option linter.unusedVariables false
set_option linter.unusedSimpArgs false
namespace Go.Proofs.YtngdhnijkgjhcaaGreat
section
variable {F : GFv} {p m v g : Nat} {P M : Int} {mf : List Int} {X Y : List (List Int)} {C : Int}
def Jv8 (P M : Int) (mf : List Int) (X : List (List Int)) : Prop := ∃ p m v, FV P M mf p m v /\ Els p m X
open Classical in
noncomputable def mck (P M : Int) (mf : List Int) (C : Int) (X : List (List Int)) : Int := if ¬ Y0 P M mf then 1 else if ¬ shp C X then 3 else if ¬ Jv8 P M mf X then 2 else 0
theorem FV.uniq {p' m' v' : Nat} (h : FV P M mf p m v) (h' : FV P M mf p' m' v') : p = p' /\ m = m' := ⟨by have := h.eP; have := h'.eP; omega, by have := h.eM; have := h'.eM; omega⟩
theorem QM (h : FV P M mf p m v) : Jv8 P M mf X ↔ Els p m X := ⟨fun ⟨p', m', v', h1, h2⟩ => by obtain ⟨rfl, rfl⟩ := h.uniq h1; exact h2, fun h2 => ⟨p, m, v, h, h2⟩⟩
theorem Jg5 (h : ¬ Y0 P M mf) : mck P M mf C X = 1 := if_pos h
theorem Jbp (h : Y0 P M mf) (hs : ¬ shp C X) : mck P M mf C X = 3 := by unfold mck; rw [if_neg (fun hh => hh h), if_pos hs]
theorem Jfu (h : Y0 P M mf) (hs : shp C X) (he : ¬ Jv8 P M mf X) : mck P M mf C X = 2 := by unfold mck; rw [if_neg (fun hh => hh h), if_neg (fun hh => hh hs), if_pos he]
theorem Jcs (h : Y0 P M mf) (hs : shp C X) (he : Jv8 P M mf X) : mck P M mf C X = 0 := by unfold mck; rw [if_neg (fun hh => hh h), if_neg (fun hh => hh hs), if_neg (fun hh => hh he)]
theorem Ja6 (h : mck P M mf C X = 0) : Y0 P M mf /\ shp C X /\ Jv8 P M mf X := by
 by_cases h1 : Y0 P M mf
 .by_cases h2 : shp C X
  .by_cases h3 : Jv8 P M mf X
   .exact ⟨h1, h2, h3⟩
   .rw [Jfu h1 h2 h3] at h; exact absurd h (by decide)
  .rw [Jbp h1 h2] at h; exact absurd h (by decide)
 .rw [Jg5 h1] at h; exact absurd h (by decide)
theorem Yi (h : shp C X) : X.length <= 256 := h.2.2.1
theorem Qk (h : shp C X) {t : Nat} (ht : t < X.length) : (row X t).length = C.toNat := by
 have := h.2.2.2 _ (Jbk ht); have := h.1; omega
noncomputable def Jgw (P M : Int) (mf : List Int) : List Mt -> Int
  | [] => 0
  | (C, X) :: ms => if mck P M mf C X = 0 then Jgw P M mf ms else mck P M mf C X
theorem Jwf {ms : List Mt} {Q : Option GFv × Int -> Prop} (hl : ms.length <= 1000) (hno : ¬ Y0 P M mf -> Q (none, 1))
  (h : ∀ (F : GFv) (p m v g : Nat), GFk F p m v g -> FV P M mf p m v -> Jgw P M mf ms = 0 -> Q (some F, 0)) (hb : Y0 P M mf -> Jgw P M mf ms ≠ 0 -> Q (none, Jgw P M mf ms)) : ZN P M mf ms Q := by
 refine v_New (fun hn => ⟨fun h0 => ⟨h0, hno hn⟩, fun h0 => absurd (show (1 : Int) ≠ 0 by decide) h0⟩) fun F p m v g K eP eM emf => ⟨fun h0 => absurd rfl h0, fun _ => ?_⟩
 have hF : FV P M mf p m v := by rw [<- eP, <- eM, <- emf]; exact K.fv
 have hV : Y0 P M mf := ⟨p, m, v, hF⟩
 refine ⟨fun z => ∃ t : Nat, z = t /\ t <= ms.length /\ Jgw P M mf (ms.drop t) = Jgw P M mf ms, fun z => (ms.length - z).toNat, ⟨0, rfl, Nat.zero_le _, rfl⟩, ?_⟩; rintro _ ⟨t, rfl, ht, he⟩; refine ⟨fun hlt => ?_, fun hge => ?_⟩
 .have htl : t < ms.length := by omega
  have hd : ms.drop t = gm ms t :: ms.drop (t + 1) := by
   rw [List.drop_eq_getElem_cons htl]
   congr 1
   unfold gm; show _ = ms.getD t (0, []); rw [List.getD_eq_getElem?_getD, List.getElem?_eq_getElem htl]; rfl
  rw [hd] at he; generalize gm ms t = mt at *
  obtain ⟨C, X⟩ := mt; simp only [Jgw] at he; dsimp only; refine ⟨⟨by omega, by omega⟩, Jnk (fun hs => ⟨fun h => absurd h (by decide), fun _ => ?_⟩) (fun hs => ⟨fun _ => ⟨by decide, ?_⟩, fun h => absurd h (by decide)⟩)⟩
  .refine ⟨fun z => ∃ s : Nat, z = s /\ s <= X.length /\ ∀ k, k < s -> Elr p m (row X k), fun z => (X.length - z).toNat, ⟨0, rfl, Nat.zero_le _, fun k hk => by omega⟩, ?_⟩; rintro _ ⟨s, rfl, hs1, hs2⟩; have hX : X.length <= 256 := Yi hs; dsimp only; refine ⟨fun hlt2 => ⟨⟨by omega, by omega⟩, Jhz K (by show (row X s).length <= _; rw [Qk hs (by omega)]; have := hs.2.1; omega) (fun hel => ⟨fun h => absurd h (by decide), fun _ => ⟨JB (by omega) (by omega), ⟨s + 1, by push_cast; rfl, by omega, fun k hk => ?_⟩, by omega⟩⟩) (fun hel => ⟨fun _ => ⟨by decide, ?_⟩, fun h => absurd h (by decide)⟩)⟩, fun hge2 => ?_⟩
   .rcases Nat.lt_or_ge k s with h | h
    .exact hs2 k h
    .rw [show k = s by omega]; exact hel
   .have e : mck P M mf C X = 2 := Jfu hV hs fun hv => hel (Ql ((QM hF).1 hv) s); rw [e, if_neg (by decide)] at he; have := hb hV (by rw [<- he]; decide)
    rwa [<- he] at this
   .have e : mck P M mf C X = 0 := Jcs hV hs ((QM hF).2 (Jap fun k hk => hs2 k (by omega))); rw [e, if_pos rfl] at he; exact ⟨JB (by omega) (by omega), ⟨t + 1, by push_cast; rfl, by omega, he⟩, by omega⟩
  .have e : mck P M mf C X = 3 := Jbp hV hs; rw [e, if_neg (by decide)] at he; have := hb hV (by rw [<- he]; decide)
   rwa [<- he] at this
 .rw [show t = ms.length by omega, List.drop_length] at he; exact h F p m v g K hF he.symm
theorem Jgv : Jgw P M mf [(C, X)] = mck P M mf C X := by
 simp only [Jgw]; split
 .rename_i h; exact h.symm
 .rfl
theorem Jlo {C' : Int} {X' : List (List Int)} : Jgw P M mf [(C, X), (C', X')] = if mck P M mf C X = 0 then mck P M mf C' X' else mck P M mf C X := by
 show (if mck P M mf C X = 0 then Jgw P M mf [(C', X')] else mck P M mf C X) = _; rw [Jgv]
theorem Jc4 {Q : Option GFv × Int -> Prop} (hb : mck P M mf C X ≠ 0 -> Q (none, mck P M mf C X))
    (h : ∀ (F : GFv) (p m v g : Nat), GFk F p m v g -> FV P M mf p m v -> shp C X -> Els p m X -> mck P M mf C X = 0 -> Q (some F, 0)) : ZN P M mf [(C, X)] Q := by
  refine Jwf (by simp) (fun hn => ?_) (fun F p m v g K hF he => ?_) (fun hV he => ?_)
  . have := hb (by rw [Jg5 hn]; decide); rwa [Jg5 hn] at this
  . rw [Jgv] at he
    obtain ⟨_, h2, h3⟩ := Ja6 he
    exact h F p m v g K hF h2 ((QM hF).1 h3) he
  . rw [Jgv] at he ⊢; exact hb he
theorem Jkz {Q : Int -> Prop} (h : Q (mck P M mf C X)) : Jbf P M mf C X Q := Jc4 (fun _ _ => h) (fun F p m v g K hF h1 h2 h3 => by show Q 0; rw [<- h3]; exact h)
theorem Jic {Q : Int -> Prop} (h : Q (mck P M mf C X)) : ZY P M mf C X Q := by
 refine Jwu ?_; by_cases hV : Y0 P M mf
 .rw [Jiu hV]; refine ⟨fun h0 => absurd rfl h0, fun _ => ⟨fun h0 => ?_, fun h0 => ⟨fun h1 => ?_, fun h1 => ⟨fun h2 => ?_, fun h2 => ?_⟩⟩⟩⟩
  .rw [Jbp hV fun s => by have := s.1; omega] at h; exact h
  .rw [Jbp hV fun s => by have := s.2.1; omega] at h; exact h
  .rw [Jbp hV fun s => by have := s.2.2.1; omega] at h; exact h
  .refine ⟨fun z => ∃ t : Nat, z = t /\ t <= X.length /\ ∀ k, k < t -> ((row X k).length : Int) = C, fun z => (X.length - z).toNat, ⟨0, rfl, Nat.zero_le _, fun k hk => by omega⟩, ?_⟩; rintro _ ⟨t, rfl, ht, hk⟩; dsimp only; refine ⟨fun hlt => ⟨⟨by omega, by omega⟩, fun hne => ?_, fun he => ⟨JB (by omega) (by omega), ⟨t + 1, by push_cast; rfl, by omega, fun k hk' => ?_⟩, by omega⟩⟩, fun hge => ?_⟩
   .rw [Jbp hV fun s => hne (s.2.2.2 _ (Jbk (by omega)))] at h; exact h
   .rcases Nat.lt_or_ge k t with h | h
    .exact hk k h
    .rw [show k = t by omega]; exact Classical.not_not.1 he
   .have hs : shp C X := ⟨by omega, by omega, by omega, fun r hr => by obtain ⟨s, h3, rfl⟩ := Jak hr; exact hk s (by omega)⟩
    obtain ⟨p, m, v, hF⟩ := hV; refine ⟨fun r z => r = 0 /\ ∃ s : Nat, z = s /\ s <= X.length /\ ∀ k, k < s -> Elr p m (row X k), fun _ z => (X.length - z).toNat, ⟨rfl, 0, rfl, Nat.zero_le _, fun k hk => by omega⟩, ?_⟩; rintro _ _ ⟨rfl, s, rfl, hs1, hs2⟩; dsimp only; refine ⟨fun hlt2 => ⟨⟨by omega, by omega⟩, ?_⟩, fun hge2 => ?_⟩
    .have hrl : (row X s).length <= 1000000 := by rw [Qk hs (by omega)]; have := hs.2.1; omega
     by_cases hel : Elr p m (row X s)
     .refine ⟨0, Jcj hF hrl (fun _ => rfl) (fun h => absurd hel h), fun h0 => absurd rfl h0, fun _ => ⟨JB (by omega) (by omega), ⟨rfl, s + 1, by push_cast; rfl, by omega, fun k hk' => ?_⟩, by omega⟩⟩; rcases Nat.lt_or_ge k s with h | h
      .exact hs2 k h
      .rw [show k = s by omega]; exact hel
     .refine ⟨2, Jcj hF hrl (fun h => absurd h hel) (fun _ => rfl), fun _ => ?_, fun h0 => absurd (by decide) h0⟩; rw [Jfu ⟨p, m, v, hF⟩ hs fun hv => hel (Ql ((QM hF).1 hv) s)] at h; exact h
    .rw [Jcs ⟨p, m, v, hF⟩ hs ((QM hF).2 (Jap fun k hk' => hs2 k (by omega)))] at h; exact h
 .rw [YX hV]; rw [Jg5 hV] at h; exact ⟨fun _ => h, fun h0 => absurd (by decide) h0⟩
def ec (p m v : Nat) (C : Int) (X : List (List Int)) : ES := elim p m v C.toNat ⟨X, List.replicate X.length [], [], 1⟩
def Qb (p m v : Nat) (C : Int) (X : List (List Int)) : List (List Int) := (ec p m v C X).X.take (ec p m v C X).pv.length
def J8 (p m v : Nat) (C : Int) (X : List (List Int)) : List Int := (ec p m v C X).pv
theorem Qai {n t : Nat} {l : List Int} (h : t < n) : row (List.replicate n l) t = l := by
 unfold row; rw [List.getD_eq_getElem?_getD, List.getElem?_replicate, if_pos h]; rfl
theorem shp_S0 (hs : shp C X) {Z : List (List Int)} {wz : Nat} {d : Int} (hZ : Z.length = X.length) (hz : ∀ t, t < X.length -> (row Z t).length = wz) : Shp X.length C.toNat wz ⟨X, Z, [], d⟩ := ⟨rfl, fun t ht => Qk hs ht, hZ, hz, Nat.zero_le _⟩
theorem Jbi (hs : shp C X) : Shp X.length C.toNat 0 ⟨X, List.replicate X.length [], [], 1⟩ := shp_S0 hs (by simp) fun t ht => by rw [Qai ht]; rfl
theorem Q4 (hs : shp C X) : X.length <= 256 /\ C.toNat <= 256 /\ ((C.toNat : Nat) : Int) = C := ⟨hs.2.2.1, by have := hs.2.1; omega, by have := hs.1; omega⟩
theorem Jlh (hs : shp C X) : ∀ r ∈ X, r.length <= 1000000 := fun r hr => by have := hs.2.2.2 r hr; have := hs.2.1; omega
theorem Jbb (hs : shp C X) : Shp X.length C.toNat 0 (ec p m v C X) := Zn (Jbi hs) _
theorem Ja0 {Q : Int × List (List Int) × List Int -> Prop} (K : GFk F p m v g) (hs : shp C X) (h : Q (C, Qb p m v C X, J8 p m v C X)) : Ys F C X Q := by
 obtain ⟨h1, h2, h3⟩ := Q4 hs; refine Jwg (by omega) (Jlh hs) ⟨⟨by omega, by omega, by omega⟩, ?_⟩; show Y3 F C X (List.replicate X.length ([] : List Int)) _; rw [<- h3]; refine Jk0 K (by omega) (by omega) (wy := 0) (by omega) (Jbi hs) ?_; rw [h3]; have := (Jbb (p := p) (m := m) (v := v) hs).pl; exact ⟨⟨by omega, by show ((ec p m v C X).pv.length : Int) <= _; omega⟩, h⟩
theorem Je1 {Q : Int × List (List Int) × List Int × Int -> Prop} (hb : mck P M mf C X ≠ 0 -> Q (0, [], [], mck P M mf C X))
  (h : ∀ p m v, FV P M mf p m v -> shp C X -> Els p m X -> mck P M mf C X = 0 -> Q (C, Qb p m v C X, J8 p m v C X, 0)) : Y5 P M mf C X Q :=
 Jc4 (fun h0 _ => hb h0) fun F p m v g K hF hs he h0 => Ja0 K hs (h p m v hF hs he h0)
theorem Jwe {Q : List (List Int) × List Int -> Prop} (hF : FV P M mf p m v) (hs : shp C X) (he : Els p m X) (h : Q (Qb p m v C X, J8 p m v C X)) : Jdw P M mf X C Q := by
 obtain ⟨h1, h2, h3⟩ := Q4 hs; show Yc P M mf X C _; rw [<- h3]; refine Ji2 hF (by omega) (by omega) (Jbi hs) he ?_; have h4 := Jbb (p := p) (m := m) (v := v) hs; exact ⟨⟨by omega, by have := h4.pl; have := h4.xl; show ((ec p m v C X).pv.length : Int) <= ((ec p m v C X).X.length : Nat); omega⟩, h⟩
theorem FV.uniq3 {p' m' v' : Nat} (h : FV P M mf p m v) (h' : FV P M mf p' m' v') : p = p' /\ m = m' /\ v = v' := by
 obtain ⟨e1, e2⟩ := h.uniq h'; subst e1; subst e2; refine ⟨rfl, rfl, ?_⟩; by_cases hm : m = 1
 .rw [(h.m1 hm).2, (h'.m1 hm).2]
 .have e1 := h.m2 hm; have e2 := h'.m2 hm; have hp := h.p2; have h3 : dv p v = dv p v' := by rw [<- h.vo, <- h'.vo]
  have h4 := Jce (p := p) (m := m) (x := v) (by omega) h.vlt; have h5 := Jce (p := p) (m := m) (x := v') (by omega) h'.vlt; rw [<- h4, <- h5, h3]
end
end Go.Proofs.YtngdhnijkgjhcaaGreat
set_option linter.unusedVariables false
set_option linter.unusedSimpArgs false
namespace Go.Proofs.YtngdhnijkgjhcaaGreat
section
variable {p m v : Nat}
def Asc (k : Nat) (l : List Int) : Prop := (∀ i, i < l.length -> 0 <= vo l i /\ vo l i < (k : Int)) /\ ∀ i j, i < j -> j < l.length -> vo l i < vo l j
theorem Jc6 {l : List Int} {x : Int} {i : Nat} : vo (l ++ [x]) i = if i < l.length then vo l i else if i = l.length then x else 0 := by
 unfold vo; rw [List.getD_eq_getElem?_getD, List.getD_eq_getElem?_getD, List.getElem?_append]; by_cases h : i < l.length
 .rw [if_pos h, if_pos h]
 .rw [if_neg h, if_neg h]; by_cases h2 : i = l.length
  .subst h2; simp
  .rw [if_neg h2]; have : i - l.length ≠ 0 := by omega
   cases hh : i - l.length with
   | zero => omega
   | succ n => simp
theorem Asc.snoc {k : Nat} {l : List Int} (h : Asc k l) : Asc (k + 1) (l ++ [(k : Int)]) := by
 refine ⟨fun i hi => ?_, fun i j hij hj => ?_⟩
 .rw [List.length_append] at hi; rw [Jc6]; split
  .rename_i h1; have := h.1 i h1; omega
  .split
   .omega
   .simp at hi; omega
 .rw [List.length_append] at hj; have hj' : j < l.length + 1 := by simpa using hj
  rw [Jc6, Jc6, if_pos (show i < l.length by omega)]; split
  .rename_i h1; exact h.2 i j hij h1
  .rw [if_pos (show j = l.length by omega)]; exact (h.1 i (by omega)).2
theorem Asc.up {k : Nat} {l : List Int} (h : Asc k l) : Asc (k + 1) l := ⟨fun i hi => by have := h.1 i hi; omega, h.2⟩
theorem Jhg {S : ES} (h : S.pv = []) : ∀ k, Asc k (elim p m v k S).pv
 | 0 => by
  show Asc 0 S.pv; rw [h]; exact ⟨fun i hi => absurd hi (Nat.not_lt_zero i), fun i j _ hj => absurd hj (Nat.not_lt_zero j)⟩
 | k + 1 => by
  have ih := Jhg h k; rw [QW]; unfold Yf; split
  .exact ih.snoc
  .exact ih.up
theorem YZ (C : Int) (X : List (List Int)) : Asc C.toNat (J8 p m v C X) := Jhg rfl _
end
section
variable {F : GFv} {p m v g : Nat} {P M : Int} {mf : List Int} {X Y : List (List Int)} {C : Int}
theorem Jkx {l : List Int} {x : Int} {k : Nat} {Q : Int × Bool -> Prop} (hl : l.length <= 1000000) (hs : Asc k l) (h1 : ∀ i, (∃ j, j < l.length /\ vo l j = x) -> Q (i, true)) (h2 : ∀ i, (¬ ∃ j, j < l.length /\ vo l j = x) -> Q (i, false)) : Jbe l x Q := by
 refine ⟨fun a b => ∃ s t : Nat, a = s /\ b = t /\ s <= t /\ t <= l.length /\ (∀ j, j < s -> vo l j < x) /\ ∀ j, t <= j -> j < l.length -> x <= vo l j, fun a b => (b - a).toNat, ⟨0, l.length, rfl, rfl, Nat.zero_le _, Nat.le_refl _, fun j hj => by omega, fun j hj1 hj2 => by omega⟩, ?_⟩; rintro _ _ ⟨s, t, rfl, rfl, hst, htl, hlo, hhi⟩; dsimp only; refine ⟨fun hlt => ?_, fun hge => ?_⟩
 .obtain ⟨q, hq⟩ : ∃ q : Nat, ((s : Int) + t).fdiv 2 = q := ⟨(s + t) / 2, by
   rw [Int.fdiv_eq_ediv_of_nonneg _ (by decide)]; omega⟩
  have hq2 : q = (s + t) / 2 := by
   have : ((s : Int) + t).fdiv 2 = (((s + t) / 2 : Nat) : Int) := by rw [Int.fdiv_eq_ediv_of_nonneg _ (by decide)]; omega
   omega
  rw [hq]; have hql : q < l.length := by omega
  rw [JT]; refine ⟨JB (by omega) (by omega), ⟨by omega, by omega⟩, JB (by omega) (by omega), ⟨by omega, by omega⟩, ?_⟩; show (decide (vo l q ≠ vo l q) = true -> _) /\ (decide (vo l q ≠ vo l q) = false -> _)
  refine ⟨fun h => absurd (of_decide_eq_true h) (fun h => h rfl), fun _ => ⟨fun h => ?_, fun h => ?_⟩⟩
  .have hlt2 := of_decide_eq_true h; refine ⟨JB (by omega) (by omega), ⟨q + 1, t, by push_cast; rfl, rfl, by omega, htl, fun j hj => ?_, hhi⟩, by omega⟩; rcases Nat.lt_or_ge j q with h3 | h3
   .have := hs.2 j q h3 hql; omega
   .rw [show j = q by omega]; exact hlt2
  .have hge2 := of_decide_eq_false h; refine ⟨⟨s, q, rfl, rfl, by omega, by omega, hlo, fun j hj1 hj2 => ?_⟩, by omega⟩; rcases Nat.eq_or_lt_of_le hj1 with h3 | h3
   .subst h3; omega
   .have := hs.2 q j h3 hj2; omega
 .have hse : s = t := by omega
  subst hse; rw [JT]; refine ⟨fun hlt2 => ⟨⟨by omega, by omega⟩, fun he => h1 _ ⟨s, by omega, he⟩, fun hne => ⟨⟨by omega, by omega⟩, ?_⟩⟩, fun hge2 => ?_⟩
  .have hno : ¬ ∃ j, j < l.length /\ vo l j = x := fun ⟨j, hj, he⟩ => by
    rcases Nat.lt_trichotomy j s with h3 | h3 | h3
    .have := hlo j h3; omega
    .subst h3; exact hne he
    .have := hs.2 s j h3 hj; have := hhi s (Nat.le_refl _) (by omega); omega
   show (decide (vo l s ≠ vo l s) = true -> _) /\ (decide (vo l s ≠ vo l s) = false -> _)
   exact ⟨fun h => absurd (of_decide_eq_true h) (fun h => h rfl), fun _ => h2 _ hno⟩
  .refine h2 _ fun ⟨j, hj, he⟩ => ?_; have := hlo j (by omega); omega
def Jgp (p m : Nat) (C : Nat) (R : List (List Int)) (pv : List Int) (t k : Nat) : List Int := (List.range k).foldl (fun x i => x.set (vo pv i).toNat (Ng p m (vo (row R i) t))) ((List.replicate C 0).set t 1)
theorem Jd8 (C : Nat) (R : List (List Int)) (pv : List Int) (t k : Nat) : Jgp p m C R pv t (k + 1) = (Jgp p m C R pv t k).set (vo pv k).toNat (Ng p m (vo (row R k) t)) := by
 unfold Jgp; rw [List.range_succ, List.foldl_append]; rfl
theorem Jlf (C : Nat) (R : List (List Int)) (pv : List Int) (t : Nat) : ∀ k, (Jgp p m C R pv t k).length = C
 | 0 => by simp [Jgp]
 | k + 1 => by rw [Jd8, List.length_set]; exact Jlf C R pv t k
theorem Jlg (hq : 1 < p ^ m) (hp : 0 < p) (C : Nat) (R : List (List Int)) (pv : List Int) (t : Nat) : ∀ k, Elr p m (Jgp p m C R pv t k)
 | 0 => fun x hx => by
  rcases List.mem_or_eq_of_mem_set hx with h | h
  .rw [List.eq_of_mem_replicate h]; exact Jeq (q := 0) (by omega)
  .rw [h]; exact Jeq (q := 1) (by omega)
 | k + 1 => fun x hx => by
  rw [Jd8] at hx; rcases List.mem_or_eq_of_mem_set hx with h | h
  .exact Jlg hq hp C R pv t k x h
  .rw [h]; exact Jeq (Ya hp _)
theorem Jnh {R : List (List Int)} {pv : List Int} {t : Nat} {Q : List Int -> Prop} (K : GFk F p m v g) (hC : 0 <= C /\ C <= 256) (ht : t < C.toNat) (hR : pv.length <= R.length) (hl : pv.length <= 1000000) (hr : ∀ i, i < R.length -> t < (row R i).length) (hp : Asc C.toNat pv)
  (h : Q (Jgp p m C.toNat R pv t pv.length)) : Jau F C R pv t Q := by
 refine ⟨⟨by omega, by omega, by omega⟩, ⟨by omega, by omega⟩, fun x z => ∃ k : Nat, z = k /\ k <= pv.length /\ x = Jgp p m C.toNat R pv t k, fun _ z => (pv.length - z).toNat, ⟨0, rfl, Nat.zero_le _, rfl⟩, ?_⟩; rintro _ _ ⟨k, rfl, hk, rfl⟩; dsimp only; rw [JT]; refine ⟨fun hlt => ⟨⟨by omega, by omega⟩, ⟨by omega, by omega⟩, ⟨by omega, by show (t : Int) < ((row R k).length : Nat); have := hr k (by omega); omega⟩, Jqz K ?_⟩, fun hge => by rw [show k = pv.length by omega]; exact h⟩; have hv : 0 <= gi pv (k : Int) /\ gi pv (k : Int) < ((C.toNat : Nat) : Int) := hp.1 k (by omega); refine ⟨⟨hv.1, by have := hv.2; omega⟩, JB (by omega) (by omega), ⟨k + 1, by push_cast; rfl, by omega, ?_⟩, by omega⟩; rw [Jd8]; rfl
def inP (pv : List Int) (c : Nat) : Bool := (List.range pv.length).any fun i => vo pv i == (c : Int)
theorem Jfw {pv : List Int} {c : Nat} : inP pv c = true ↔ ∃ j, j < pv.length /\ vo pv j = (c : Int) := by
 unfold inP; rw [List.any_eq_true]; exact ⟨fun ⟨i, hi, h⟩ => ⟨i, List.mem_range.1 hi, by simpa using h⟩, fun ⟨i, hi, h⟩ => ⟨i, List.mem_range.2 hi, by simpa using h⟩⟩
def bas (p m : Nat) (C : Nat) (R : List (List Int)) (pv : List Int) (k : Nat) : List (List Int) := (List.range k).foldl (fun B c => if inP pv c then B else B ++ [Jgp p m C R pv c pv.length]) []
theorem Jdo (C : Nat) (R : List (List Int)) (pv : List Int) (k : Nat) : bas p m C R pv (k + 1) = if inP pv k then bas p m C R pv k else bas p m C R pv k ++ [Jgp p m C R pv k pv.length] := by
 unfold bas; rw [List.range_succ, List.foldl_append]; rfl
theorem Jkf (C : Nat) (R : List (List Int)) (pv : List Int) : ∀ k, (bas p m C R pv k).length <= k
 | 0 => Nat.le_refl _
 | k + 1 => by
  rw [Jdo]; have := Jkf C R pv k; split
  .omega
  .rw [List.length_append]; simp; omega
theorem Jfx (C : Nat) (R : List (List Int)) (pv : List Int) : ∀ k, ∀ r ∈ bas p m C R pv k, ∃ c, c < k /\ inP pv c = false /\ r = Jgp p m C R pv c pv.length
 | 0, r, h => by cases h
 | k + 1, r, h => by
  rw [Jdo] at h; split at h
  .obtain ⟨c, h1, h2⟩ := Jfx C R pv k r h; exact ⟨c, by omega, h2⟩
  .rename_i hn
   rcases List.mem_append.1 h with h | h
   .obtain ⟨c, h1, h2⟩ := Jfx C R pv k r h; exact ⟨c, by omega, h2⟩
   .exact ⟨k, by omega, by simpa using hn, by simpa using h⟩
def Jms (p m v : Nat) (C : Int) (X : List (List Int)) : List (List Int) := bas p m C.toNat (Qb p m v C X) (J8 p m v C X) C.toNat
theorem Jhn (hs : shp C X) : shp C (Jms p m v C X) := by
 obtain ⟨h1, h2, h3⟩ := Q4 hs; refine ⟨hs.1, hs.2.1, by have := Jkf (p := p) (m := m) C.toNat (Qb p m v C X) (J8 p m v C X) C.toNat; unfold Jms; omega, fun r hr => ?_⟩; obtain ⟨c, _, _, rfl⟩ := Jfx _ _ _ _ r hr; rw [Jlf]; exact h3
theorem Jmr (hF : FV P M mf p m v) : Els p m (Jms p m v C X) := fun r hr => by
 obtain ⟨c, _, _, rfl⟩ := Jfx _ _ _ _ r hr; exact Jlg (by have := hF.ring.q2; omega) (by have := hF.p2; omega) _ _ _ _ _
theorem Yg (hs : shp C X) : (Qb p m v C X).length = (J8 p m v C X).length := by
 have h0 := Jbb (p := p) (m := m) (v := v) hs; unfold Qb J8; rw [List.length_take]; have h1 := h0.pl; have h2 := h0.xl; omega
theorem Ja1 {Z : List (List Int)} {n t : Nat} (h : t < n) : row (Z.take n) t = row Z t := by
 unfold row; rw [List.getD_eq_getElem?_getD, List.getD_eq_getElem?_getD, List.getElem?_take, if_pos h]
theorem Jmq (hs : shp C X) {t : Nat} (ht : t < (Qb p m v C X).length) : (row (Qb p m v C X) t).length = C.toNat := by
 have h1 := Jbb (p := p) (m := m) (v := v) hs; rw [Yg hs] at ht; unfold Qb; rw [Ja1 (n := (ec p m v C X).pv.length) ht]; exact h1.xr t (Nat.lt_of_lt_of_le ht h1.pl)
theorem YC (hs : shp C X) : shp C (Qb p m v C X) := by
 obtain ⟨h1, h2, h3⟩ := Q4 hs; have h4 := Jbb (p := p) (m := m) (v := v) hs; refine ⟨hs.1, hs.2.1, by rw [Yg hs]; have := h4.pl; show (ec p m v C X).pv.length <= 256; omega, fun r hr => ?_⟩; obtain ⟨t, ht, rfl⟩ := Jak hr; rw [Jmq hs ht]; exact h3
theorem Jhl (hs : shp C X) : (J8 p m v C X).length <= X.length := (Jbb (p := p) (m := m) (v := v) hs).pl
theorem Jwh {Q : Int × List (List Int) × Int -> Prop} (hb : mck P M mf C X ≠ 0 -> Q (0, [], mck P M mf C X))
  (h : ∀ p m v, FV P M mf p m v -> shp C X -> Els p m X -> mck P M mf C X = 0 -> Q (C, Qb p m v C (Jms p m v C X), 0)) : YK P M mf C X Q := by
 refine Jc4 (fun h0 _ => hb h0) fun F p m v g K hF hs he h0 => Ja0 K hs ?_; obtain ⟨h1, h2, h3⟩ := Q4 hs; have hpl := Jhl (p := p) (m := m) (v := v) hs; have hcl := Yg (p := p) (m := m) (v := v) hs; have hasc := YZ (p := p) (m := m) (v := v) C X; have hrow := fun i (hi : i < (Qb p m v C X).length) => Jmq (p := p) (m := m) (v := v) hs hi; have hfin := Ja0 (Q := fun q => Q (q.1, q.2.1, 0)) K (Jhn (p := p) (m := m) (v := v) hs) (h p m v hF hs he h0); unfold Jms at hfin; generalize Qb p m v C X = R at *
 generalize J8 p m v C X = pv at *
 refine ⟨fun x z => ∃ k : Nat, z = k /\ k <= C.toNat /\ x = bas p m C.toNat R pv k, fun _ z => (C - z).toNat, ⟨0, rfl, Nat.zero_le _, rfl⟩, ?_⟩; rintro _ _ ⟨k, rfl, hk, rfl⟩; have hbl := Jkf (p := p) (m := m) C.toNat R pv k; dsimp only; refine ⟨fun hlt => ⟨fun x _ _ => x = bas p m C.toNat R pv (k + 1), Jkx (by omega) hasc (fun i hin => ⟨fun h => absurd h (by simp), fun _ => ?_⟩) (fun i hin => ⟨fun _ => ⟨_, Jnh K ⟨hs.1, hs.2.1⟩ (by omega) (by omega) (by omega) (fun i hi => by rw [hrow i hi]; omega) hasc rfl, by omega, ?_⟩, fun h => absurd h (by simp)⟩), ?_⟩, fun hge => ?_⟩
 .rw [Jdo, if_pos (Jfw.2 hin)]
 .rw [Jdo, if_neg (fun hh => hin (Jfw.1 hh))]
 .rintro _ _ _ rfl; exact ⟨JB (by omega) (by omega), ⟨k + 1, by push_cast; rfl, by omega, rfl⟩, by omega⟩
 .rw [show k = C.toNat by omega]; exact hfin
end
end Go.Proofs.YtngdhnijkgjhcaaGreat
set_option linter.unusedVariables false
set_option linter.unusedSimpArgs false
namespace Go.Proofs.YtngdhnijkgjhcaaGreat
section
variable {F : GFv} {p m v g : Nat} {P M : Int} {mf : List Int} {X Y : List (List Int)} {C : Int}
open Classical in
noncomputable def sqe (P M : Int) (mf : List Int) (C : Int) (X : List (List Int)) : Int := if mck P M mf C X ≠ 0 then mck P M mf C X else if (X.length : Int) ≠ C then 3 else 0
def idm (n : Nat) : List (List Int) := (List.range n).map fun i => (List.replicate n (0 : Int)).set i 1
def cmb (p m v : Nat) (x : List Int) (C : Nat) (X : List (List Int)) (k : Nat) : List Int := (List.range k).foldl (fun s i => adx p m v s (vo x i) (row X i)) (List.replicate C 0)
theorem Zo (x : List Int) (C : Nat) (k : Nat) : cmb p m v x C X (k + 1) = adx p m v (cmb p m v x C X k) (vo x k) (row X k) := by
 unfold cmb; rw [List.range_succ, List.foldl_append]; rfl
theorem Jbt (x : List Int) (C : Nat) : ∀ k, (cmb p m v x C X k).length = C
 | 0 => by simp [cmb]
 | k + 1 => by rw [Zo, ZD]; exact Jbt x C k
theorem Jsk {x : List Int} {Q : List Int -> Prop} (K : GFk F p m v g) (hs : shp C X) (hx : x.length = X.length) (h : Q (cmb p m v x C.toNat X X.length)) : Jb2 F x C X Q := by
 obtain ⟨h1, h2, h3⟩ := Q4 hs; refine ⟨⟨by omega, by omega, by omega⟩, fun y z => ∃ t : Nat, z = t /\ t <= X.length /\ y = cmb p m v x C.toNat X t, fun _ z => (X.length - z).toNat, ⟨0, rfl, Nat.zero_le _, rfl⟩, ?_⟩; rintro _ _ ⟨t, rfl, ht, rfl⟩; refine ⟨fun hlt => ?_, fun hge => by rw [show t = X.length by omega]; exact h⟩; have hr := Qk hs (t := t) (by omega); have hc := Jbt (p := p) (m := m) (v := v) (X := X) x C.toNat t; refine ⟨⟨by omega, by omega⟩, ⟨by omega, by omega⟩, ZI K (by show (row X t).length <= _; omega) (by omega) ⟨JB (by omega) (by omega), ⟨t + 1, by push_cast; rfl, by omega, ?_⟩, ?_⟩⟩
 .rw [Zo]; rfl
 .show ((X.length : Int) - ((t : Int) + 1)).toNat < ((X.length : Int) - (t : Int)).toNat; omega
open Classical in
noncomputable def vce (p m : Nat) (x : List Int) (n : Nat) : Int := if x.length ≠ n then 3 else if ¬ Elr p m x then 2 else 0
theorem Jgf {x : List Int} {n : Nat} (h : vce p m x n = 0) : x.length = n /\ Elr p m x := by
 unfold vce at h; split at h
 .exact absurd h (by decide)
 .rename_i h1
  split at h
  .exact absurd h (by decide)
  .rename_i h2; exact ⟨Classical.not_not.1 h1, Classical.not_not.1 h2⟩
def rgt (b : List Int) : List (List Int) := b.map fun y => [y]
def eb (p m v : Nat) (C : Int) (X : List (List Int)) (b : List Int) : ES := elim p m v C.toNat ⟨X, rgt b, [], 1⟩
end
theorem islf2 : IsLf 2 2 := ⟨by decide, by decide, fun e h _ => h⟩
theorem fv2 : FV 2 1 [] 2 1 0 := Jd4 islf2 (by decide)
def A3 : List (List Int) := [[1, 1, 0], [0, 1, 1], [1, 0, 1]]
def A2 : List (List Int) := [[1, 2], [3, 4]]
instance (p m : Nat) (x : Int) : Decidable (El p m x) := inferInstanceAs (Decidable (_ /\ _))
theorem vce_ok {p m : Nat} {x : List Int} {n : Nat} (h : x.length = n) (he : Elr p m x) : vce p m x n = 0 := by
 unfold vce; rw [if_neg (fun hh => hh h), if_neg (fun hh => hh he)]
end Go.Proofs.YtngdhnijkgjhcaaGreat
set_option linter.unusedVariables false
set_option linter.unusedSimpArgs false
namespace Go.Proofs.YtngdhnijkgjhcaaGreat
end Go.Proofs.YtngdhnijkgjhcaaGreat
set_option linter.unusedVariables false
set_option linter.unusedSimpArgs false
namespace Go.Proofs.YtngdhnijkgjhcaaGreat
section
variable {F : GFv} {p m v g : Nat} {P M : Int} {mf : List Int} {X : List (List Int)} {C : Int} {set y : List Int}
def pkr (y set : List Int) : List Int := (List.range set.length).map fun i => vo y (vo set i).toNat
def pks (X : List (List Int)) (set : List Int) : List (List Int) := (List.range X.length).map fun t => pkr (row X t) set
theorem Jbm : (pkr y set).length = set.length := by simp [pkr]
theorem Jdd : (pks X set).length = X.length := by simp [pks]
theorem Ji5 {i : Nat} (h : i < set.length) : vo (pkr y set) i = vo y (vo set i).toNat := Jd3 h
theorem Jje {t : Nat} (h : t < X.length) : row (pks X set) t = pkr (row X t) set := Jda h
def bad (C : Int) (set : List Int) : Bool := set.any fun c => if c < 0 then true else decide (C <= c)
theorem bad_no (h : bad C set = false) : ∀ i, i < set.length -> 0 <= vo set i /\ vo set i < C := fun i hi => by
 have := List.any_eq_false.1 h (vo set i) (Jck hi); split at this
 .exact absurd rfl this
 .rw [decide_eq_true_eq] at this; omega
noncomputable def colR (P M : Int) (mf : List Int) (C : Int) (X : List (List Int)) (set : List Int) : Int × List (List Int) × Int := if mck P M mf C X ≠ 0 then (0, [], mck P M mf C X) else if 256 < set.length then (0, [], 8) else if bad C set = true then (0, [], 6) else ((set.length : Int), pks X set, 0)
theorem Jsl {Q : Int × List (List Int) × Int -> Prop} (h : ∀ c Z e, colR P M mf C X set = (c, Z, e) -> Q (c, Z, e)) : Jb3 P M mf C X set Q := by
 refine Jc4 (fun h0 _ => h _ _ _ (if_pos h0)) fun F p m v g K hF hs he h0 => ?_; have e0 : colR P M mf C X set = if 256 < set.length then (0, [], 8) else if bad C set = true then (0, [], 6) else ((set.length : Int), pks X set, 0) := if_neg (fun hh => hh h0)
 refine ⟨fun h1 => h _ _ _ (by rw [e0, if_pos (by omega)]), fun h1 => Jcm (f := fun x => if x < 0 then true else decide (C <= x)) (by omega) (fun x R hR => ⟨fun hx => by simpa [hx] using hR, fun hx => by simpa [hx] using hR⟩) ⟨fun hb6 => h _ _ _ (by rw [e0, if_neg (by omega), if_pos (show bad C set = true from hb6)]), fun hb6 => ?_⟩⟩; have hin := bad_no hb6; have hfin := h _ _ _ (by rw [e0, if_neg (by omega), if_neg (by rw [show bad C set = false from hb6]; decide)]); obtain ⟨hX, hC, hC'⟩ := Q4 hs; refine ⟨⟨by omega, by omega, by omega⟩, fun x z => ∃ t : Nat, z = t /\ t <= X.length /\ x.length = X.length /\ ∀ k, k < t -> row x k = row (pks X set) k, fun _ z => (X.length - z).toNat, ⟨0, rfl, Nat.zero_le _, by simp, fun k hk => by omega⟩, ?_⟩; rintro x _ ⟨t, rfl, ht, hx, hk⟩; dsimp only; refine ⟨fun hlt => ?_, fun hge => ?_⟩
 .have htl : t < X.length := by omega
  have hr := Qk hs htl; refine ⟨⟨by omega, by omega⟩, ⟨by omega, by omega, by omega⟩, ⟨by omega, by omega⟩, fun y z => ∃ s : Nat, z = s /\ s <= set.length /\ y.length = X.length /\ (∀ k, k < t -> row y k = row (pks X set) k) /\ (row y t).length = set.length /\ ∀ k, k < s -> vo (row y t) k = vo (pkr (row X t) set) k, fun _ z => (set.length - z).toNat, ⟨0, rfl, Nat.zero_le _, by rw [Zv]; exact hx, fun k hk' => ?_, ?_, fun k hk' => by omega⟩, ?_⟩
  .show row (x.set t _) k = _; rw [Qi, if_neg (fun h => by omega)]; exact hk k hk'
  .show (row (x.set t _) t).length = _; rw [Qi, if_pos ⟨rfl, by omega⟩]; simp
  rintro y _ ⟨s, rfl, hs1, hy, hk1, hyl, hk2⟩; dsimp only; refine ⟨fun hlt2 => ?_, fun hge2 => ⟨JB (by omega) (by omega), ⟨t + 1, by push_cast; rfl, by omega, hy, fun k hk' => ?_⟩, by omega⟩⟩
  .have hsl : s < set.length := by omega
   have hc := hin s hsl; refine ⟨⟨by omega, by omega⟩, ⟨by omega, by omega⟩, ⟨hc.1, by show vo set s < ((row X t).length : Int); omega⟩, ⟨by omega, by show (s : Int) < ((row y t).length : Int); omega⟩, JB (by omega) (by omega), ⟨s + 1, by push_cast; rfl, by omega, by rw [Zv]; exact hy, fun k hk' => ?_, ?_, fun k hk' => ?_⟩, by omega⟩
   .show row (y.set t _) k = _; rw [Qi, if_neg (fun h => by omega)]; exact hk1 k hk'
   .show (row (y.set t ((row y t).set s _)) t).length = _; rw [Qi, if_pos ⟨rfl, by omega⟩, List.length_set]; exact hyl
   .show vo (row (y.set t ((row y t).set s (vo (row X t) (vo set s).toNat))) t) k = _; rw [Qi, if_pos ⟨rfl, by omega⟩, Qj]; by_cases e : s = k
    .subst e; rw [if_pos ⟨rfl, by omega⟩, Ji5 hsl]
    .rw [if_neg (fun h => e h.1)]; exact hk2 k (by omega)
  .rcases Nat.lt_or_ge k t with h | h
   .exact hk1 k h
   .rw [show k = t by omega, Jje htl]; exact QR (by rw [Jbm]; exact hyl) fun i hi => hk2 i (by omega)
 .rw [show x = pks X set from QD (by rw [Jdd]; exact hx) fun i hi => hk i (by omega)]; exact hfin
theorem Jz5 {n : Int} {Q : List (List Int) -> Prop} (hn : 0 <= n /\ n <= 256) (h : Q (idm n.toNat)) : Jf3 n Q := by
 refine ⟨fun x z => ∃ t : Nat, z = t /\ t <= n.toNat /\ x = (List.range t).map fun i => (List.replicate n.toNat (0 : Int)).set i 1, fun _ z => (n - z).toNat, ⟨0, rfl, Nat.zero_le _, rfl⟩, ?_⟩; rintro _ _ ⟨t, rfl, ht, rfl⟩; dsimp only; refine ⟨fun hlt => ⟨⟨by omega, by omega, by omega⟩, ⟨by omega, by omega⟩, by simp; omega, JB (by omega) (by omega), ⟨t + 1, by push_cast; rfl, by omega, ?_⟩, by omega⟩, fun hge => ?_⟩
 .rw [List.range_succ, List.map_append]; rfl
 .rw [show t = n.toNat by omega]; exact h
theorem Jid {x : List Int} {n : Nat} {Q : Int -> Prop} (hF : FV P M mf p m v) (hn : n <= 1000000) (h : Q (vce p m x n)) : Yo P M mf x (n : Int) Q := by
  refine ⟨fun hne => ?_, fun he => ?_⟩
  . have hne' : x.length ≠ n := by omega
    unfold vce at h; rw [if_pos hne'] at h; exact h
  . have he' : x.length = n := by have := Classical.not_not.1 he; omega
    unfold vce at h; rw [if_neg (fun hh => hh he')] at h
    refine Jcj hF (by omega) (fun h1 => ?_) (fun h1 => ?_)
    . rw [if_neg (fun hh => hh h1)] at h; exact h
    . rw [if_pos h1] at h; exact h
theorem Jni {x : List Int} {Q : List Int -> Prop} (hF : FV P M mf p m v) (hs : shp C X) (hx : x.length = X.length) (h : Q (cmb p m v x C.toNat X X.length)) : Zs P M mf x X C Q := by
 obtain ⟨h1, h2, h3⟩ := Q4 hs; refine ⟨⟨by omega, by omega, by omega⟩, fun y => y = cmb p m v x C.toNat X X.length, ⟨fun y z => ∃ t : Nat, z = t /\ t <= X.length /\ y = cmb p m v x C.toNat X t, fun _ z => (X.length - z).toNat, ⟨0, rfl, Nat.zero_le _, rfl⟩, ?_⟩, fun y hy => by rw [hy]; exact h⟩; rintro _ _ ⟨t, rfl, ht, rfl⟩; dsimp only; refine ⟨fun hlt => ⟨fun hlt2 => ⟨fun y => y = cmb p m v x C.toNat X (t + 1), ⟨⟨by omega, by omega⟩, fun hne => ?_, fun he => ?_⟩, ?_⟩, fun hge => by omega⟩, fun hge => by rw [show t = X.length by omega]⟩
 .have hr := Qk hs (t := t) (by omega); have hc := Jbt (p := p) (m := m) (v := v) (X := X) x C.toNat t; refine ⟨⟨by omega, by omega⟩, ⟨by omega, by omega⟩, _, Jf9 hF (by show _ <= (row X t).length; omega) (by omega) rfl, ?_⟩; rw [Zo]; unfold adx; have hne' : vo x t ≠ 0 := hne; rw [if_neg hne']; rfl
 .rw [Zo]; unfold adx; have he' : vo x t = 0 := Classical.not_not.1 he; rw [if_pos he']
 .rintro _ rfl; exact ⟨JB (by omega) (by omega), ⟨t + 1, by push_cast; rfl, by omega, rfl⟩, by omega⟩
end
end Go.Proofs.YtngdhnijkgjhcaaGreat
set_option linter.unusedVariables false
set_option linter.unusedSimpArgs false
namespace Go.Proofs.YtngdhnijkgjhcaaGreat
section
variable {p m v : Nat} {P M : Int} {mf : List Int} {X Y : List (List Int)} {C : Int} {w : Nat}
def en (p m : Nat) (l : List Int) : Nat -> Nat := fun c => inE (p ^ m) (vo l c)
structure Lin (p m v w : Nat) (f : (Nat -> Nat) -> Nat) : Prop where
  lt : ∀ a, f a < p ^ m
  cg : ∀ {a b : Nat -> Nat}, (∀ c, c < w -> a c = b c) -> f a = f b
  ad : ∀ {a b : Nat -> Nat} {x : Nat}, (∀ c, a c < p ^ m) -> (∀ c, b c < p ^ m) -> x < p ^ m -> f (fun c => J3 p m (a c) (JD p m (dv p v) x (b c))) = J3 p m (f a) (JD p m (dv p v) x (f b))
  ml : ∀ {a : Nat -> Nat} {x : Nat}, (∀ c, a c < p ^ m) -> x < p ^ m -> f (fun c => JD p m (dv p v) x (a c)) = JD p m (dv p v) x (f a)
def Ann (p m : Nat) (f : (Nat -> Nat) -> Nat) (X : List (List Int)) : Prop := ∀ t, t < X.length -> f (en p m (row X t)) = 0
theorem Q1 (hF : FV P M mf p m v) (l : List Int) (c : Nat) : en p m l c < p ^ m := JZ (by have := hF.ring.q2; omega) _
theorem Jhf (hF : FV P M mf p m v) {a o : List Int} {x : Int} {c : Nat} (hc : c < a.length) : en p m (adx p m v a x o) c = J3 p m (en p m a c) (JD p m (dv p v) (inE (p ^ m) x) (en p m o c)) := by
 have R := hF.ring; have hq : 0 < p ^ m := by have := R.q2; omega
 have e0 : inE (p ^ m) 0 = 0 := Qv (x := 0) hq; have hz : ∀ y, y < p ^ m -> JD p m (dv p v) 0 y = 0 := fun y hy => by rw [R.Mc hq hy]; exact R.M0 hy
 unfold en adx; split
 .rename_i h; subst h
  rw [e0, hz _ (JZ hq _), R.Az (JZ hq _)]
 .rw [Jac hc]; split
  .rename_i h; rw [h, e0, R.M0 (JZ hq _), R.Az (JZ hq _)]
  .unfold Ad Ml; rw [Qv (R.Al _ _), Qv (R.Ml _ _)]
theorem en_sc (hF : FV P M mf p m v) {l : List Int} {x : Int} {c : Nat} (hc : c < l.length) : en p m (sc p m v x l) c = JD p m (dv p v) (inE (p ^ m) x) (en p m l c) := by
 unfold en; rw [Jgc hc]; unfold Ml; rw [Qv (hF.ring.Ml _ _)]
theorem Lin.adx {f : (Nat -> Nat) -> Nat} (L : Lin p m v w f) (hF : FV P M mf p m v) {a o : List Int} {x : Int} (ha : a.length = w) : f (en p m (adx p m v a x o)) = J3 p m (f (en p m a)) (JD p m (dv p v) (inE (p ^ m) x) (f (en p m o))) := by
 rw [<- L.ad (Q1 hF a) (Q1 hF o) (JZ (by have := hF.ring.q2; omega) x)]; exact L.cg fun c hc => Jhf hF (by omega)
theorem Lin.sc {f : (Nat -> Nat) -> Nat} (L : Lin p m v w f) (hF : FV P M mf p m v) {l : List Int} {x : Int} (hl : l.length = w) : f (en p m (sc p m v x l)) = JD p m (dv p v) (inE (p ^ m) x) (f (en p m l)) := by
 rw [<- L.ml (Q1 hF l) (JZ (by have := hF.ring.q2; omega) x)]; exact L.cg fun c hc => en_sc hF (by omega)
theorem Jae {r cur t : Nat} (hr : r < X.length) (hc : cur < X.length) : row (swq X r cur) t = if t = cur then row X r else if t = r then row X cur else row X t := by
  unfold swq
  split
  . rename_i h; subst h
    split
    . rename_i h; rw [h]
    . rfl
  . exact Jaf hr hc
theorem Jjd {cur t : Nat} {e : Int} (hc : cur < X.length) : row (scq p m v X cur e) t = if t = cur then sc p m v (Iv p m v e) (row X cur) else row X t := by
 unfold scq; rw [Qi]; by_cases h : cur = t
 .rw [if_pos ⟨h, hc⟩, if_pos h.symm]
 .rw [if_neg (fun hh => h hh.1), if_neg (fun hh => h hh.symm)]
theorem Qbo {f : (Nat -> Nat) -> Nat} {r cur : Nat} (hr : r < X.length) (hc : cur < X.length) (h : Ann p m f (swq X r cur)) : Ann p m f X := fun t ht => by
 rw [Ann, J5] at h; by_cases h1 : t = r
 .have := h cur hc; rw [Jae hr hc, if_pos rfl] at this; rw [h1]; exact this
 .by_cases h2 : t = cur
  .have := h r hr; rw [Jae hr hc] at this; rw [if_neg (fun e => h1 (h2.trans e.symm)), if_pos rfl] at this; rw [h2]; exact this
  .have := h t ht; rw [Jae hr hc, if_neg h2, if_neg h1] at this; exact this
theorem Qbp {f : (Nat -> Nat) -> Nat} (L : Lin p m v w f) (hF : FV P M mf p m v) {cur : Nat} {e : Int} {z : Nat} (hz : z < p ^ m) (he : JD p m (dv p v) z (inE (p ^ m) (Iv p m v e)) = 1) (hc : cur < X.length) (hw : (row X cur).length = w) (h : Ann p m f (scq p m v X cur e)) : Ann p m f X := fun t ht => by
 have R := hF.ring; have q1 : 1 < p ^ m := R.q2; rw [Ann, QC] at h; have h3 := h t ht; rw [Jjd hc] at h3; split at h3
 .rename_i h1; subst h1
  rw [L.sc hF hw] at h3; have hi := JZ (q := p ^ m) (by omega) (Iv p m v e); have h4 := R.Ma hz hi (L.lt (en p m (row X t))); rw [he, h3, R.M0 hz, R.Mc q1 (L.lt _), R.M1 (L.lt _)] at h4; exact h4
 .exact h3
theorem Qbq {f : (Nat -> Nat) -> Nat} (L : Lin p m v w f) (hF : FV P M mf p m v) {cur : Nat} {g : Nat -> Int} (hc : cur < X.length) (hw : ∀ t, t < X.length -> (row X t).length = w) (h : Ann p m f (clr p m v g cur X)) : Ann p m f X := fun t ht => by
 have R := hF.ring; have hq : 0 < p ^ m := by have := R.q2; omega
 rw [Ann, Zb] at h; have hcur := h cur hc; rw [Zw hc, if_pos rfl] at hcur; have h3 := h t ht; rw [Zw ht] at h3; split at h3
 .exact h3
 .rw [L.adx hF (hw t ht), hcur, R.M0 (JZ hq _), R.Az (L.lt _)] at h3; exact h3
theorem iv_ex {g : Nat} (K : Gn (p ^ m) (JD p m (dv p v)) g) (hF : FV P M mf p m v) {x : Int} (h0 : x ≠ 0) (hx : El p m x) : inE (p ^ m) x < p ^ m /\ JD p m (dv p v) (inE (p ^ m) x) (inE (p ^ m) (Iv p m v x)) = 1 := by
 have R := hF.ring; have q1 : 1 < p ^ m := R.q2; have hx1 := JZ (q := p ^ m) (by omega) x; have hne : 0 < inE (p ^ m) x := by
  have := Zl hx; omega
 have h1 := K.xone R hne hx1; refine ⟨hx1, ?_⟩; have hz : pw (JD p m (dv p v)) (inE (p ^ m) x) (p ^ m - 1 - 1) < p ^ m := by
  cases p ^ m - 1 - 1 with
  | zero => exact q1
  | succ n => exact R.Ml _ _
 have h2 : JD p m (dv p v) (pw (JD p m (dv p v)) (inE (p ^ m) x) (p ^ m - 1 - 1)) (inE (p ^ m) x) = 1 := by
  rw [show p ^ m - 1 = (p ^ m - 1 - 1) + 1 by omega] at h1; exact h1
 rw [Jsh R hx1 hz h2, Qv hz, R.Mc hx1 hz]; exact h2
theorem Jy3 {g : Nat} (K : Gn (p ^ m) (JD p m (dv p v)) g) (hF : FV P M mf p m v) {f : (Nat -> Nat) -> Nat} (L : Lin p m v w f) {S : ES} {c : Nat} (he : Els p m S.X) (hw : ∀ t, t < S.X.length -> (row S.X t).length = w) (h : Ann p m f (Yf p m v S c).X) : Ann p m f S.X := by
  unfold Yf at h
  split at h
  . rename_i h1
    obtain ⟨hc, hr⟩ := h1
    rw [Jcg] at h
    have hw1 : ∀ t, t < (swq S.X (nz S.X c S.pv.length) S.pv.length).length -> (row (swq S.X (nz S.X c S.pv.length) S.pv.length) t).length = w := fun t ht => by
      rw [J5] at ht; exact Q2 hr hc hw ht
    have hrow : row (swq S.X (nz S.X c S.pv.length) S.pv.length) S.pv.length = row S.X (nz S.X c S.pv.length) := by rw [Jae hr hc, if_pos rfl]
    have hne := (Jaj S.X c S.pv.length (by omega)).2.2 hr
    have hcl : c < (row S.X (nz S.X c S.pv.length)).length := by
      rcases Nat.lt_or_ge c (row S.X (nz S.X c S.pv.length)).length with h | h
      . exact h
      . exact absurd (Jca h) hne
    have hel : El p m (vo (row S.X (nz S.X c S.pv.length)) c) := Ql he _ _ (Jck hcl)
    obtain ⟨h4, h5⟩ := iv_ex K hF hne hel
    have h2 := Qbq L hF (by rw [QC, J5]; exact hc) (fun t ht => by rw [QC] at ht; exact Q5 (by rw [J5]; exact hc) hw1 ht) h
    rw [hrow] at h2
    have h3 := Qbp L hF h4 h5 (by rw [J5]; exact hc) (hw1 _ (by rw [J5]; exact hc)) h2
    exact Qbo hr hc h3
  . exact h
theorem Jmu {g : Nat} (K : Gn (p ^ m) (JD p m (dv p v)) g) (hF : FV P M mf p m v) {f : (Nat -> Nat) -> Nat} (L : Lin p m v w f) {n wy : Nat} {S : ES} (hS : Shp n w wy S) (he : Els p m S.X) : ∀ k, Ann p m f (elim p m v k S).X -> Ann p m f S.X
 | 0, h => h
 | k + 1, h => by
  rw [QW] at h; have hk := Zn (p := p) (m := m) (v := v) hS k; refine Jmu K hF L hS he k (Jy3 K hF L (Jba (by have := hF.p2; omega) he k) (fun t ht => hk.xr t (by have := hk.xl; omega)) h)
end
end Go.Proofs.YtngdhnijkgjhcaaGreat
set_option linter.unusedVariables false
set_option linter.unusedSimpArgs false
namespace Go.Proofs.YtngdhnijkgjhcaaGreat
section
variable {p m v g : Nat} {P M : Int} {mf : List Int} {X Y : List (List Int)} {C : Int} {w : Nat}
structure Red (k : Nat) (S : ES) : Prop where
  one : ∀ i, i < S.pv.length -> ∀ t, t < S.X.length -> vo (row S.X t) (vo S.pv i).toNat = if t = i then 1 else 0
  lo : ∀ t, S.pv.length <= t -> t < S.X.length -> ∀ c, c < k -> vo (row S.X t) c = 0
  lf : ∀ i, i < S.pv.length -> ∀ c : Nat, (c : Int) < vo S.pv i -> vo (row S.X i) c = 0
theorem Jqx {a o : List Int} {x : Int} {c : Nat} (h : vo o c = 0) : vo (adx p m v a x o) c = vo a c := by
 unfold adx; split
 .rfl
 .rcases Nat.lt_or_ge c a.length with hc | hc
  .rw [Jac hc, if_pos h]
  .rw [Jca hc, Jca (by rw [Jbw]; exact hc)]
theorem Jwj (hF : FV P M mf p m v) {l : List Int} {x : Int} {c : Nat} (h : vo l c = 0) : vo (sc p m v x l) c = 0 := by
 have hq : 0 < p ^ m := by have := hF.ring.q2; omega
 rcases Nat.lt_or_ge c l.length with hc | hc
 .rw [Jgc hc, h]; unfold Ml; rw [show inE (p ^ m) 0 = 0 from Qv (x := 0) hq, hF.ring.M0 (JZ hq _)]; rfl
 .exact Jca (by unfold sc; rw [List.length_map]; exact hc)
theorem Jxl (K : Gn (p ^ m) (JD p m (dv p v)) g) (hF : FV P M mf p m v) {S : ES} {k : Nat} (hA : Asc k S.pv) (hl : S.pv.length <= S.X.length) (he : Els p m S.X) (h : Red k S) : Red (k + 1) (Yf p m v S k) := by
 have R := hF.ring; have q1 : 1 < p ^ m := R.q2; have hp : 0 < p := by have := hF.p2; omega
 unfold Yf; split
 case isFalse h1 =>
  refine ⟨h.one, fun t ht1 ht2 c hc => ?_, h.lf⟩; rcases Nat.lt_or_ge c k with hck | hck
  .exact h.lo t ht1 ht2 c hck
  .have e : c = k := by omega
   subst e; have hs := Jaj S.X c S.pv.length hl; exact hs.2.1 t ht1 (by
    rcases Nat.lt_or_ge t (nz S.X c S.pv.length) with h | h
    .exact h
    .exact absurd ⟨by omega, by omega⟩ h1)
 case isTrue h1 =>
  obtain ⟨hc, hr⟩ := h1; have hrs := Jrh S.X k S.pv.length; have hne := (Jaj S.X k S.pv.length hl).2.2 hr; have hkl : k < (row S.X (nz S.X k S.pv.length)).length := by
   rcases Nat.lt_or_ge k (row S.X (nz S.X k S.pv.length)).length with h | h
   .exact h
   .exact absurd (Jca h) hne
  have hel : El p m (vo (row S.X (nz S.X k S.pv.length)) k) := Ql he _ _ (Jck hkl); obtain ⟨h4, h5⟩ := iv_ex K hF hne hel; have hE3 : Els p m (es1 p m v k (nz S.X k S.pv.length) S.pv.length S).X := Jj4 hp he hr hc; have hn : (es1 p m v k (nz S.X k S.pv.length) S.pv.length S).X.length = S.X.length := by rw [Jcg, Zb, QC, J5]
  generalize hrr : nz S.X k S.pv.length = r at *
  have hx2 : ∀ t, row (scq p m v (swq S.X r S.pv.length) S.pv.length (vo (row (swq S.X r S.pv.length) S.pv.length) k)) t = if t = S.pv.length then sc p m v (Iv p m v (vo (row S.X r) k)) (row S.X r) else if t = r then row S.X S.pv.length else row S.X t := fun t => by
   rw [Jjd (by rw [J5]; exact hc), Jae hr hc, Jae hr hc, if_pos rfl]; split <;> rfl
  have hx3 : ∀ t, t < S.X.length -> row (es1 p m v k r S.pv.length S).X t = if t = S.pv.length then sc p m v (Iv p m v (vo (row S.X r) k)) (row S.X r) else adx p m v (if t = r then row S.X S.pv.length else row S.X t) (Ng p m (vo (if t = r then row S.X S.pv.length else row S.X t) k)) (sc p m v (Iv p m v (vo (row S.X r) k)) (row S.X r)) := fun t ht => by
   rw [Jcg, Zw (by rw [QC, J5]; exact ht), hx2, hx2, if_pos rfl]; split
   .rfl
   .rfl
  -- the columns before stay
  have hold : ∀ t, t < S.X.length -> ∀ c, c < k -> vo (row (es1 p m v k r S.pv.length S).X t) c = vo (row S.X t) c := fun t ht c hck => by
   have z1 : vo (row S.X r) c = 0 := h.lo r hrs hr c hck; have z2 : vo (row S.X S.pv.length) c = 0 := h.lo _ (Nat.le_refl _) hc c hck; rw [hx3 t ht]; split
   .rename_i e; rw [Jwj hF z1, e, z2]
   .rw [Jqx (Jwj hF z1)]; split
    .rename_i e; rw [z2, e, z1]
    .rfl
  have hone : vo (sc p m v (Iv p m v (vo (row S.X r) k)) (row S.X r)) k = 1 := by
   rw [Jgc hkl]; unfold Ml; rw [R.Mc (JZ (by omega) _) h4, h5]; rfl
  have hnew : ∀ t, t < S.X.length -> vo (row (es1 p m v k r S.pv.length S).X t) k = if t = S.pv.length then 1 else 0 := fun t ht => by
   have hEt := Ql hE3 t; have hx := hx3 t ht; by_cases e : t = S.pv.length
   .rw [if_pos e] at hx ⊢; rw [hx]; exact hone
   .rw [if_neg e] at hx ⊢; rcases Nat.lt_or_ge k (if t = r then row S.X S.pv.length else row S.X t).length with hkt | hkt
    .have h6 := Jhf hF (x := Ng p m (vo (if t = r then row S.X S.pv.length else row S.X t) k)) (o := sc p m v (Iv p m v (vo (row S.X r) k)) (row S.X r)) hkt; rw [<- hx] at h6; have h7 : en p m (sc p m v (Iv p m v (vo (row S.X r) k)) (row S.X r)) k = 1 := by unfold en; rw [hone]; exact Qv (x := 1) q1
     rw [h7] at h6; unfold Ng at h6; have h8 : QN p m (inE (p ^ m) (vo (if t = r then row S.X S.pv.length else row S.X t) k)) < p ^ m := Ya hp _; rw [Qv h8, R.M1 h8] at h6; have h9 : en p m (row (es1 p m v k r S.pv.length S).X t) k = 0 := by rw [h6]; exact Ye hp (JZ (by omega) _)
     have h10 : El p m (vo (row (es1 p m v k r S.pv.length S).X t) k) := hEt _ (Jck (by rw [hx, ZD]; exact hkt)); rw [<- Zl h10]; show ((en p m (row (es1 p m v k r S.pv.length S).X t) k : Nat) : Int) = 0; rw [h9]; rfl
    .rw [hx]; exact Jca (by rw [ZD]; exact hkt)
  have hpv : (es1 p m v k r S.pv.length S).pv = S.pv ++ [(k : Int)] := rfl; refine ⟨fun i hi t ht => ?_, fun t ht1 ht2 c hck => ?_, fun i hi c hci => ?_⟩
  .rw [hn] at ht; rw [hpv, List.length_append, List.length_singleton] at hi; rw [hpv, Jc6]; by_cases e : i < S.pv.length
   .rw [if_pos e, hold t ht _ (by have := hA.1 i e; omega)]; exact h.one i e t ht
   .have e2 : i = S.pv.length := by omega
    rw [if_neg e, if_pos e2, e2]; exact hnew t ht
  .rw [hn] at ht2; rw [hpv, List.length_append, List.length_singleton] at ht1; rcases Nat.lt_or_ge c k with h6 | h6
   .rw [hold t ht2 c h6]; exact h.lo t (by omega) ht2 c h6
   .rw [show c = k by omega, hnew t ht2, if_neg (by omega)]
  .rw [hpv, List.length_append, List.length_singleton] at hi; rw [hpv, Jc6] at hci; by_cases e : i < S.pv.length
   .rw [if_pos e] at hci; rw [hold i (by omega) c (by have := hA.1 i e; omega)]; exact h.lf i e c hci
   .have e2 : i = S.pv.length := by omega
    rw [if_neg e, if_pos e2] at hci; rw [hold i (by omega) c (by omega), e2]; exact h.lo _ (Nat.le_refl _) hc c (by omega)
theorem Jll (K : Gn (p ^ m) (JD p m (dv p v)) g) (hF : FV P M mf p m v) {n wy : Nat} {S : ES} (hS : Shp n w wy S) (he : Els p m S.X) (h0 : S.pv = []) : ∀ k, Red k (elim p m v k S)
 | 0 => ⟨fun i hi => by
   have : (elim p m v 0 S).pv = [] := h0; rw [this] at hi; exact absurd hi (Nat.not_lt_zero _), fun t _ _ c hc => absurd hc (Nat.not_lt_zero _), fun i hi => by
   have : (elim p m v 0 S).pv = [] := h0; rw [this] at hi; exact absurd hi (Nat.not_lt_zero _)⟩
 | k + 1 => by
  rw [QW]; have hk := Zn (p := p) (m := m) (v := v) hS k; exact Jxl K hF (Jhg h0 k) (by have := hk.pl; have := hk.xl; omega) (Jba (by have := hF.p2; omega) he k) (Jll K hF hS he h0 k)
end
end Go.Proofs.YtngdhnijkgjhcaaGreat
set_option linter.unusedVariables false
set_option linter.unusedSimpArgs false
namespace Go.Proofs.YtngdhnijkgjhcaaGreat
section
variable {p m v g : Nat} {P M : Int} {mf : List Int} {X Y : List (List Int)} {C : Int} {w : Nat}
def fs (p m : Nat) (f : Nat -> Nat) : Nat -> Nat
  | 0 => 0
  | n + 1 => J3 p m (fs p m f n) (f n)
theorem Jdi (hF : FV P M mf p m v) (f : Nat -> Nat) : ∀ n, fs p m f n < p ^ m
 | 0 => by have := hF.ring.q2; show 0 < _; omega
 | n + 1 => hF.ring.Al _ _
theorem fs_cg {f h : Nat -> Nat} : ∀ n, (∀ i, i < n -> f i = h i) -> fs p m f n = fs p m h n
 | 0, _ => rfl
 | n + 1, e => by show J3 p m _ _ = J3 p m _ _; rw [fs_cg n fun i hi => e i (by omega), e n (by omega)]
theorem mix (hF : FV P M mf p m v) {a b c d : Nat} (ha : a < p ^ m) (hb : b < p ^ m) (hc : c < p ^ m) (hd : d < p ^ m) : J3 p m (J3 p m a b) (J3 p m c d) = J3 p m (J3 p m a c) (J3 p m b d) := by
 have R := hF.ring; rw [R.Aa ha hb (R.Al _ _), <- R.Aa hb hc hd, R.Ac b c, R.Aa hc hb hd, <- R.Aa ha hc (R.Al _ _)]
theorem Jon (hF : FV P M mf p m v) {f h : Nat -> Nat} {x : Nat} (hf : ∀ i, f i < p ^ m) (hh : ∀ i, h i < p ^ m) (hx : x < p ^ m) : ∀ n, fs p m (fun i => J3 p m (f i) (JD p m (dv p v) x (h i))) n = J3 p m (fs p m f n) (JD p m (dv p v) x (fs p m h n))
 | 0 => by
  have R := hF.ring; show 0 = J3 p m 0 (JD p m (dv p v) x 0); rw [R.M0 hx, R.Az (by have := R.q2; omega)]
 | n + 1 => by
  have R := hF.ring; show J3 p m (fs p m _ n) _ = J3 p m (J3 p m _ _) (JD p m (dv p v) x (J3 p m _ _)); rw [Jon hF hf hh hx n, R.Md hx (Jdi hF h n) (hh n), mix hF (Jdi hF f n) (R.Ml _ _) (hf n) (R.Ml _ _)]
theorem fs_ml (hF : FV P M mf p m v) {f : Nat -> Nat} {x : Nat} (hf : ∀ i, f i < p ^ m) (hx : x < p ^ m) : ∀ n, fs p m (fun i => JD p m (dv p v) x (f i)) n = JD p m (dv p v) x (fs p m f n)
 | 0 => by show 0 = JD p m (dv p v) x 0; rw [hF.ring.M0 hx]
 | n + 1 => by
  show J3 p m (fs p m _ n) _ = JD p m (dv p v) x (J3 p m _ _); rw [fs_ml hF hf hx n, hF.ring.Md hx (Jdi hF f n) (hf n)]
theorem Jbr (hF : FV P M mf p m v) {f : Nat -> Nat} : ∀ n, (∀ i, i < n -> f i = 0) -> fs p m f n = 0
 | 0, _ => rfl
 | n + 1, h => by
  show J3 p m (fs p m f n) (f n) = 0; rw [Jbr hF n fun i hi => h i (by omega), h n (by omega), hF.ring.Az (by have := hF.ring.q2; omega)]
theorem Jhc (hF : FV P M mf p m v) {f : Nat -> Nat} {j : Nat} (hj : f j < p ^ m) : ∀ n, j < n -> (∀ i, i < n -> i ≠ j -> f i = 0) -> fs p m f n = f j
 | 0, h, _ => absurd h (Nat.not_lt_zero _)
 | n + 1, h, e => by
  have R := hF.ring; show J3 p m (fs p m f n) (f n) = f j; by_cases en : n = j
  .subst en; rw [Jbr hF n fun i hi => e i (by omega) (by omega), R.Ac, R.Az hj]
  .rw [Jhc hF hj n (by omega) fun i hi => e i (by omega), e n (by omega) en, R.Az hj]
def cof (p m v c r : Nat) (pv : Nat -> Nat) (nR : Nat -> Nat) (a : Nat -> Nat) : Nat := J3 p m (a c) (fs p m (fun i => JD p m (dv p v) (nR i) (a (pv i))) r)
theorem Qbj (hF : FV P M mf p m v) {c r : Nat} {pv nR : Nat -> Nat} (hc : c < w) (hpv : ∀ i, i < r -> pv i < w) (hn : ∀ i, nR i < p ^ m) : Lin p m v w (cof p m v c r pv nR) where
 lt a := hF.ring.Al _ _
 cg h := by
  unfold cof; rw [h c hc, fs_cg r fun i hi => by rw [h _ (hpv i hi)]]
 ad {a b x} ha hb hx := by
  have R := hF.ring; unfold cof; have e : (fun i => JD p m (dv p v) (nR i) (J3 p m (a (pv i)) (JD p m (dv p v) x (b (pv i))))) = fun i => J3 p m (JD p m (dv p v) (nR i) (a (pv i))) (JD p m (dv p v) x (JD p m (dv p v) (nR i) (b (pv i)))) := funext fun i => by
   rw [R.Md (hn i) (ha _) (R.Ml _ _), <- R.Ma (hn i) hx (hb _), R.Mc (hn i) hx, R.Ma hx (hn i) (hb _)]
  rw [e, Jon hF (fun i => R.Ml _ _) (fun i => R.Ml _ _) hx, mix hF (ha c) (R.Ml _ _) (Jdi hF _ _) (R.Ml _ _), <- R.Md hx (hb c) (Jdi hF _ _)]
 ml {a x} ha hx := by
  have R := hF.ring; unfold cof; have e : (fun i => JD p m (dv p v) (nR i) (JD p m (dv p v) x (a (pv i)))) = fun i => JD p m (dv p v) x (JD p m (dv p v) (nR i) (a (pv i))) := funext fun i => by
   rw [<- R.Ma (hn i) hx (ha _), R.Mc (hn i) hx, R.Ma hx (hn i) (ha _)]
  rw [e, fs_ml hF (fun i => R.Ml _ _) hx, <- R.Md hx (ha c) (Jdi hF _ _)]
theorem Jyd (hF : FV P M mf p m v) : ∃ g, Gn (p ^ m) (JD p m (dv p v)) g := hF.gen
end
end Go.Proofs.YtngdhnijkgjhcaaGreat
set_option linter.unusedVariables false
set_option linter.unusedSimpArgs false
namespace Go.Proofs.YtngdhnijkgjhcaaGreat
section
variable {p m v g : Nat} {P M : Int} {mf : List Int} {X Y : List (List Int)} {C : Int} {w : Nat}
theorem Jdj (hF : FV P M mf p m v) {l : List Int} {c : Nat} {z : Nat} (hz : z < p ^ m) (h : vo l c = (z : Int)) : en p m l c = z := by unfold en; rw [h]; exact Qv hz
theorem Jkd (hF : FV P M mf p m v) (hs : shp C X) (he : Els p m X) : Red C.toNat (ec p m v C X) := by
 obtain ⟨g, G⟩ := Jyd hF; exact Jll G hF (Jbi hs) he rfl _
theorem Jyo (hF : FV P M mf p m v) {x : List Int} {n c : Nat} {Z : List (List Int)} (hc : c < n) : ∀ k, en p m (cmb p m v x n Z k) c = fs p m (fun i => JD p m (dv p v) (inE (p ^ m) (vo x i)) (en p m (row Z i) c)) k
 | 0 => by
  show en p m (List.replicate n 0) c = 0; exact Jdj hF (by have := hF.ring.q2; omega) (Jd2 n c)
 | k + 1 => by
  rw [Zo, Jhf hF (by rw [Jbt]; exact hc), Jyo hF hc k]; rfl
theorem Jkb (hF : FV P M mf p m v) {x : List Int} {n : Nat} {Z : List (List Int)} : ∀ k, Elr p m (cmb p m v x n Z k)
 | 0 => Jj5 fun t ht => by
  have : vo (cmb p m v x n Z 0) t = 0 := Jd2 n t; rw [this]; exact Jeq (q := 0) (by have := hF.ring.q2; omega)
 | k + 1 => by rw [Zo]; exact Jbv (by have := hF.p2; omega) (Jkb hF k)
theorem YY (hF : FV P M mf p m v) (he : Els p m X) : Els p m (Qb p m v C X) := fun r hr => Jba (S := ⟨X, List.replicate X.length [], [], 1⟩) (by have := hF.p2; omega) he C.toNat r (List.mem_of_mem_take hr)
theorem Jdm (hF : FV P M mf p m v) (hs : shp C X) (he : Els p m X) {i t : Nat} (hi : i < (J8 p m v C X).length) (ht : t < (J8 p m v C X).length) : vo (row (Qb p m v C X) t) (vo (J8 p m v C X) i).toNat = if t = i then 1 else 0 := by
 have hS := Jbb (p := p) (m := m) (v := v) hs; have := Jhl (p := p) (m := m) (v := v) hs; rw [show row (Qb p m v C X) t = row (ec p m v C X).X t from Ja1 ht]; exact (Jkd hF hs he).one i hi t (by have := hS.xl; omega)
theorem Jhj (hF : FV P M mf p m v) (hs : shp C X) (he : Els p m X) {i c : Nat} (hi : i < (J8 p m v C X).length) (hc : (c : Int) < vo (J8 p m v C X) i) : vo (row (Qb p m v C X) i) c = 0 := by
 rw [show row (Qb p m v C X) i = row (ec p m v C X).X i from Ja1 hi]; exact (Jkd hF hs he).lf i hi c hc
end
end Go.Proofs.YtngdhnijkgjhcaaGreat
set_option linter.unusedVariables false
set_option linter.unusedSimpArgs false
namespace Go.Proofs.YtngdhnijkgjhcaaGreat
end Go.Proofs.YtngdhnijkgjhcaaGreat
set_option linter.unusedVariables false
set_option linter.unusedSimpArgs false
namespace Go.Proofs.YtngdhnijkgjhcaaGreat
section
variable {p m v : Nat} {P M : Int} {mf : List Int} {X Y : List (List Int)} {C : Int} {w : Nat}
theorem Jy2 {f : (Nat -> Nat) -> Nat} {r cur : Nat} (hr : r < X.length) (hc : cur < X.length) (h : Ann p m f X) : Ann p m f (swq X r cur) := fun t ht => by
  rw [J5] at ht
  rw [Jae hr hc]
  split
  . exact h r hr
  . split
    . exact h cur hc
    . exact h t ht
theorem Jy4 {f : (Nat -> Nat) -> Nat} (L : Lin p m v w f) (hF : FV P M mf p m v) {cur : Nat} {e : Int} (hc : cur < X.length) (hw : (row X cur).length = w) (h : Ann p m f X) : Ann p m f (scq p m v X cur e) := fun t ht => by
 rw [QC] at ht; rw [Jjd hc]; split
 .rw [L.sc hF hw, h cur hc, hF.ring.M0 (JZ (by have := hF.ring.q2; omega) _)]
 .exact h t ht
theorem Jy5 {f : (Nat -> Nat) -> Nat} (L : Lin p m v w f) (hF : FV P M mf p m v) {cur : Nat} {g : Nat -> Int} (hc : cur < X.length) (hw : ∀ t, t < X.length -> (row X t).length = w) (h : Ann p m f X) : Ann p m f (clr p m v g cur X) := fun t ht => by
 have R := hF.ring; have hq : 0 < p ^ m := by have := R.q2; omega
 rw [Zb] at ht; rw [Zw ht]; split
 .exact h t ht
 .rw [L.adx hF (hw t ht), h cur hc, h t ht, R.M0 (JZ hq _), R.Az hq]
theorem Jtt (hF : FV P M mf p m v) {f : (Nat -> Nat) -> Nat} (L : Lin p m v w f) {S : ES} {c : Nat} (hw : ∀ t, t < S.X.length -> (row S.X t).length = w) (h : Ann p m f S.X) : Ann p m f (Yf p m v S c).X := by
 unfold Yf; split
 .rename_i h1
  obtain ⟨hc, hr⟩ := h1; rw [Jcg]; have hw1 : ∀ t, t < (swq S.X (nz S.X c S.pv.length) S.pv.length).length -> (row (swq S.X (nz S.X c S.pv.length) S.pv.length) t).length = w := fun t ht => by
   rw [J5] at ht; exact Q2 hr hc hw ht
  exact Jy5 L hF (by rw [QC, J5]; exact hc) (fun t ht => by rw [QC] at ht; exact Q5 (by rw [J5]; exact hc) hw1 ht) (Jy4 L hF (by rw [J5]; exact hc) (hw1 _ (by rw [J5]; exact hc)) (Jy2 hr hc h))
 .exact h
theorem Jiw (hF : FV P M mf p m v) {f : (Nat -> Nat) -> Nat} (L : Lin p m v w f) {n wy : Nat} {S : ES} (hS : Shp n w wy S) (h : Ann p m f S.X) : ∀ k, Ann p m f (elim p m v k S).X
 | 0 => h
 | k + 1 => by
  rw [QW]; have hk := Zn (p := p) (m := m) (v := v) hS k; exact Jtt hF L (fun t ht => hk.xr t (by have := hk.xl; omega)) (Jiw hF L hS h k)
theorem Jdp (hF : FV P M mf p m v) (hs : shp C X) (he : Els p m X) {f : (Nat -> Nat) -> Nat} (L : Lin p m v C.toNat f) : Ann p m f (Qb p m v C X) ↔ Ann p m f X := by
  have R := hF.ring
  have hq : 0 < p ^ m := by have := R.q2; omega
  obtain ⟨g, G⟩ := Jyd hF
  have hS := Jbb (p := p) (m := m) (v := v) hs
  have red := Jkd hF hs he
  have hl := Yg (p := p) (m := m) (v := v) hs
  have hpl := Jhl (p := p) (m := m) (v := v) hs
  have f0 : ∀ a : Nat -> Nat, (∀ c, c < C.toNat -> a c = 0) -> f a = 0 := fun a ha => by
    have h1 := L.ml (a := fun _ => 0) (x := 0) (fun _ => hq) hq
    rw [R.Mc hq (L.lt _), R.M0 (L.lt _)] at h1
    rw [<- h1]
    exact L.cg fun c hc => by rw [ha c hc, R.M0 hq]
  refine ⟨fun h => Jmu G hF L (Jbi hs) he C.toNat fun t ht => ?_, fun h t ht => ?_⟩
  . by_cases hr : t < (J8 p m v C X).length
    . have := h t (by omega)
      rwa [show row (Qb p m v C X) t = row (ec p m v C X).X t from Ja1 hr] at this
    . exact f0 _ fun c hc => Jdj hF hq (red.lo t (by show (J8 p m v C X).length <= t; omega) ht c hc)
  . rw [show row (Qb p m v C X) t = row (ec p m v C X).X t from Ja1 (by show t < (J8 p m v C X).length; omega)]
    exact Jiw hF L (Jbi hs) h C.toNat t (by have := hS.xl; show t < (ec p m v C X).X.length; omega)
end
end Go.Proofs.YtngdhnijkgjhcaaGreat
set_option linter.unusedVariables false
set_option linter.unusedSimpArgs false
namespace Go.Proofs.YtngdhnijkgjhcaaGreat
section
variable {p m v : Nat} {P M : Int} {mf : List Int} {X Y : List (List Int)} {C : Int} {w : Nat}
end
end Go.Proofs.YtngdhnijkgjhcaaGreat
set_option linter.unusedVariables false
set_option linter.unusedSimpArgs false
namespace Go.Proofs.YtngdhnijkgjhcaaGreat
section
variable {p m v : Nat} {P M : Int} {mf : List Int} {X Y : List (List Int)} {C : Int} {w : Nat}
end
end Go.Proofs.YtngdhnijkgjhcaaGreat
set_option linter.unusedVariables false
set_option linter.unusedSimpArgs false
namespace Go.Proofs.YtngdhnijkgjhcaaGreat
section
variable {p m v : Nat} {P M : Int} {mf : List Int} {X Y : List (List Int)} {C : Int} {w : Nat}
end
end Go.Proofs.YtngdhnijkgjhcaaGreat
set_option linter.unusedVariables false
set_option linter.unusedSimpArgs false
namespace Go.Proofs.YtngdhnijkgjhcaaGreat
section
variable {p m v : Nat} {P M : Int} {mf : List Int} {X Y : List (List Int)} {C : Int} {w wy : Nat}
def e2 (p m w : Nat) (a b : List Int) : Nat -> Nat := fun c => if c < w then en p m a c else en p m b (c - w)
end
end Go.Proofs.YtngdhnijkgjhcaaGreat
set_option linter.unusedVariables false
set_option linter.unusedSimpArgs false
namespace Go.Proofs.YtngdhnijkgjhcaaGreat
section
variable {p m v : Nat} {P M : Int} {mf : List Int} {X Y : List (List Int)} {C : Int} {w wy : Nat}
theorem Jri (hF : FV P M mf p m v) {A z : Nat} (hA : A < p ^ m) (hz : z < p ^ m) : J3 p m A (JD p m (dv p v) (QN p m 1) z) = 0 ↔ A = z := by
  have R := hF.ring
  have hp : 0 < p := by have := hF.p2; omega
  have q1 : 1 < p ^ m := R.q2
  have hn := Ya (m := m) hp 1
  have h0 : J3 p m (JD p m (dv p v) (QN p m 1) z) z = 0 := by
    have : J3 p m (JD p m (dv p v) z (QN p m 1)) (JD p m (dv p v) z 1) = 0 := by rw [<- R.Md hz hn q1, R.Ac, Ye hp q1, R.M0 hz]
    rwa [R.M1 hz, R.Mc hz hn] at this
  constructor
  . intro h
    have e : J3 p m (J3 p m A (JD p m (dv p v) (QN p m 1) z)) z = J3 p m 0 z := by rw [h]
    rw [R.Aa hA (R.Ml _ _) hz, h0, R.Az hA, R.Ac, R.Az hz] at e
    exact e
  . rintro rfl; rw [R.Ac]; exact h0
def u1 (p m w : Nat) (u : Nat -> Nat) : Nat -> Nat := fun c => if c < w then u c else QN p m 1
end
end Go.Proofs.YtngdhnijkgjhcaaGreat
set_option linter.unusedVariables false
set_option linter.unusedSimpArgs false
namespace Go.Proofs.YtngdhnijkgjhcaaGreat
end Go.Proofs.YtngdhnijkgjhcaaGreat
set_option linter.unusedVariables false
set_option linter.unusedSimpArgs false
namespace Go.Proofs.YtngdhnijkgjhcaaGreat
section
variable {p m v : Nat} {P M : Int} {mf : List Int} {X Y : List (List Int)} {C D : Int} {w wy : Nat}
theorem Jl4 (hF : FV P M mf p m v) {f : (Nat -> Nat) -> Nat} (L : Lin p m v w f) {a : Nat -> Nat} (ha : ∀ c, c < w -> a c = 0) : f a = 0 := by
  have hq : 0 < p ^ m := by have := hF.ring.q2; omega
  have h := L.ml (a := fun _ => 0) (x := 0) (fun _ => hq) hq
  have e : f (fun _ => JD p m (dv p v) 0 0) = f a := L.cg fun c hc => by rw [ha c hc, hF.ring.M0 hq]
  rw [<- e, h, hF.ring.Mc hq (L.lt _), hF.ring.M0 (L.lt _)]
theorem Jrm (hF : FV P M mf p m v) {f : (Nat -> Nat) -> Nat} (L : Lin p m v w f) (x : List Int) (B : List (List Int)) : ∀ k, f (en p m (cmb p m v x w B k)) = fs p m (fun i => JD p m (dv p v) (inE (p ^ m) (vo x i)) (f (en p m (row B i)))) k
 | 0 => Jl4 hF L fun c hc => by
  show inE (p ^ m) (vo (List.replicate w 0) c) = 0; rw [Jd2]; exact Qv (x := 0) (by have := hF.ring.q2; omega)
 | k + 1 => by
  rw [Zo, L.adx hF (Jbt x w k), Jrm hF L x B k]; rfl
def mm (p m v w : Nat) (A B : List (List Int)) : List (List Int) := (List.range A.length).map fun t => cmb p m v (row A t) w B B.length
theorem mm_len (A B : List (List Int)) : (mm p m v w A B).length = A.length := by simp [mm]
theorem row_mm {A B : List (List Int)} {t : Nat} (h : t < A.length) : row (mm p m v w A B) t = cmb p m v (row A t) w B B.length := Jda h
theorem Qa3 {A B : List (List Int)} (hl : A.length = B.length) (ha : Els p m A) (hb : Els p m B) (hw : ∀ t, t < A.length -> (row A t).length = w /\ (row B t).length = w) (h : ∀ t c, t < A.length -> c < w -> en p m (row A t) c = en p m (row B t) c) : A = B :=
  QD hl fun t ht => QR (by rw [(hw t ht).1, (hw t ht).2]) fun c hc => by
    rw [(hw t ht).1] at hc
    have e := h t c ht hc
    have e1 := Zl (ZL (Ql ha t) (t := c) (by rw [(hw t ht).1]; exact hc))
    have e2 := Zl (ZL (Ql hb t) (t := c) (by rw [(hw t ht).2]; exact hc))
    unfold en at e
    rw [<- e1, <- e2, e]
def tr (n : Nat) (A : List (List Int)) : List (List Int) := (List.range n).map fun c => (List.range A.length).map fun t => vo (row A t) c
theorem Jwx (n : Nat) (A : List (List Int)) : (tr n A).length = n := by simp [tr]
theorem Jxj {n c : Nat} {A : List (List Int)} (h : c < n) : row (tr n A) c = (List.range A.length).map fun t => vo (row A t) c := Jda h
theorem Jnq {n c : Nat} {A : List (List Int)} (h : c < n) : (row (tr n A) c).length = A.length := by rw [Jxj h]; simp
theorem tr_at {n c t : Nat} {A : List (List Int)} (h : c < n) (ht : t < A.length) : vo (row (tr n A) c) t = vo (row A t) c := by rw [Jxj h]; exact Jd3 ht
theorem tr_shp (hs : shp C X) : shp (X.length : Int) (tr C.toNat X) := by
 obtain ⟨h1, h2, h3⟩ := Q4 hs; refine ⟨by omega, by omega, by rw [Jwx]; exact h2, fun r hr => ?_⟩; obtain ⟨c, _, rfl⟩ := List.mem_map.1 hr; simp
theorem tr_els (hs : shp C X) (he : Els p m X) : Els p m (tr C.toNat X) := fun r hr => by
 obtain ⟨c, hc, rfl⟩ := List.mem_map.1 hr; have hc := List.mem_range.1 hc; intro x hx; obtain ⟨t, ht, rfl⟩ := List.mem_map.1 hx; have ht := List.mem_range.1 ht; exact ZL (Ql he t) (by rw [Qk hs ht]; exact hc)
end
end Go.Proofs.YtngdhnijkgjhcaaGreat
set_option linter.unusedVariables false
set_option linter.unusedSimpArgs false
namespace Go.Proofs.YtngdhnijkgjhcaaGreat
section
variable {P M : Int} {mf : List Int} {X : List (List Int)} {C : Int}
theorem w_mMul {Ca Cb : Int} {A B : List (List Int)} {Q : Int × List (List Int) × Int -> Prop} (hb : ∀ e, e ≠ 0 -> (mck P M mf Ca A ≠ 0 ∨ mck P M mf Cb B ≠ 0 ∨ Ca ≠ (B.length : Int)) -> Q (0, [], e))
    (h : ∀ p m v, FV P M mf p m v -> shp Ca A -> Els p m A -> shp Cb B -> Els p m B -> Ca = (B.length : Int) -> Q (Cb, mm p m v Cb.toNat A B, 0)) : Jko P M mf Ca A Cb B Q := by
  refine Jwf (ms := [(Ca, A), (Cb, B)]) (by simp) (fun hn _ => hb 1 (by decide) (.inl (by rw [Jg5 hn]; decide))) (fun F p m v g K hF h0 => ?_) (fun hV hne _ => hb _ hne ?_)
  . rw [Jlo] at h0
    have hA : mck P M mf Ca A = 0 := by
      by_cases e : mck P M mf Ca A = 0
      . exact e
      . rw [if_neg e] at h0; exact h0
    rw [if_pos hA] at h0
    obtain ⟨_, sA, eA⟩ := Ja6 hA
    obtain ⟨_, sB, eB⟩ := Ja6 h0
    have eA := (QM hF).1 eA
    have eB := (QM hF).1 eB
    obtain ⟨a1, a2, a3⟩ := Q4 sA
    refine ⟨fun hne => hb 10 (by decide) (.inr (.inr hne)), fun he => ?_⟩
    have hC : Ca = (B.length : Int) := Classical.not_not.1 he
    refine ⟨⟨by omega, by omega, by omega⟩, fun x z => ∃ t : Nat, z = t /\ t <= A.length /\ x.length = A.length /\ ∀ s, s < t -> row x s = row (mm p m v Cb.toNat A B) s, fun _ z => (A.length - z).toNat, ⟨0, rfl, Nat.zero_le _, by simp, fun s hs => absurd hs (Nat.not_lt_zero _)⟩, ?_⟩
    rintro x _ ⟨t, rfl, ht, hx, hv⟩
    dsimp only
    refine ⟨fun hlt => ⟨⟨by omega, by omega⟩, _, Jsk K sB (by show (row A t).length = _; rw [Qk sA (by omega)]; omega) rfl, ⟨by omega, by omega⟩, JB (by omega) (by omega), ⟨t + 1, by push_cast; rfl, by omega, by rw [Zv]; exact hx, fun s hs => ?_⟩, by omega⟩, fun hge => ?_⟩
    . show row (x.set t _) s = _
      rw [Qi]
      by_cases e : t = s
      . subst e; rw [if_pos ⟨rfl, by omega⟩, row_mm (by omega)]; rfl
      . rw [if_neg (fun q => e q.1)]; exact hv s (by omega)
    . rw [show x = mm p m v Cb.toNat A B from QD (by rw [mm_len]; exact hx) fun i hi => hv i (by omega)]
      exact h p m v hF sA eA sB eB hC
  . rw [Jlo] at hne
    by_cases e : mck P M mf Ca A = 0
    . rw [if_pos e] at hne; exact .inr (.inl hne)
    . exact .inl e
theorem Jk1 {Q : Int × List (List Int) × Int -> Prop} (hb : mck P M mf C X ≠ 0 -> Q (0, [], mck P M mf C X))
  (h : ∀ p m v, FV P M mf p m v -> shp C X -> Els p m X -> mck P M mf C X = 0 -> Q ((X.length : Int), tr C.toNat X, 0)) : ZF P M mf C X Q := by
 refine Jc4 (fun h0 _ => hb h0) fun F p m v g K hF hs he h0 => ?_; have hfin := h p m v hF hs he h0; obtain ⟨a1, a2, a3⟩ := Q4 hs; generalize hn : C.toNat = n at *
 refine ⟨⟨by omega, by omega, by omega⟩, fun x z => ∃ c : Nat, z = c /\ c <= n /\ x.length = n /\ ∀ d, d < c -> row x d = row (tr n X) d, fun _ z => (n - z).toNat, ⟨0, rfl, Nat.zero_le _, by simp, fun d hd => absurd hd (Nat.not_lt_zero _)⟩, ?_⟩; rintro x _ ⟨c, rfl, hc, hx, hv⟩; dsimp only; refine ⟨fun hlt => ?_, fun hge => ?_⟩
 .have hcn : c < n := by omega
  refine ⟨⟨by omega, by omega, by omega⟩, ⟨by omega, by omega⟩, fun y z => ∃ t : Nat, z = t /\ t <= X.length /\ y.length = n /\ (∀ d, d < c -> row y d = row (tr n X) d) /\ (row y c).length = X.length /\ ∀ s, s < t -> vo (row y c) s = vo (row X s) c, fun _ z => (X.length - z).toNat, ⟨0, rfl, Nat.zero_le _, by rw [Zv]; exact hx, fun d hd => ?_, ?_, fun s hs => absurd hs (Nat.not_lt_zero _)⟩, ?_⟩
  .show row (x.set c _) d = _; rw [Qi, if_neg (fun q => by omega)]; exact hv d hd
  .show (row (x.set c _) c).length = _; rw [Qi, if_pos ⟨rfl, by omega⟩]; simp
  rintro y _ ⟨t, rfl, ht, hy, h1, h2, h3⟩; dsimp only; refine ⟨fun hlt2 => ?_, fun hge2 => ⟨JB (by omega) (by omega), ⟨c + 1, by push_cast; rfl, by omega, hy, fun d hd => ?_⟩, by omega⟩⟩
  .have htx : t < X.length := by omega
   have hrl : (row X t).length = n := by rw [Qk hs htx]; exact hn
   refine ⟨⟨by omega, by omega⟩, ⟨by omega, by omega⟩, ⟨by omega, by show (c : Int) < ((row X t).length : Int); omega⟩, ⟨by omega, by show (t : Int) < ((row y c).length : Int); omega⟩, JB (by omega) (by omega), ⟨t + 1, by push_cast; rfl, by omega, by rw [Zv]; exact hy, fun d hd => ?_, ?_, fun s hs' => ?_⟩, by omega⟩
   .show row (y.set c _) d = _; rw [Qi, if_neg (fun q => by omega)]; exact h1 d hd
   .show (row (y.set c ((row y c).set t (vo (row X t) c))) c).length = _; rw [Qi, if_pos ⟨rfl, by omega⟩, List.length_set]; exact h2
   .show vo (row (y.set c ((row y c).set t (vo (row X t) c))) c) s = _; rw [Qi, if_pos ⟨rfl, by omega⟩, Qj]; by_cases e : t = s
    .subst e; rw [if_pos ⟨rfl, by omega⟩]
    .rw [if_neg (fun q => e q.1)]; exact h3 s (by omega)
  .by_cases e : d = c
   .subst e; exact QR (by rw [h2, Jnq hcn]) fun s hs' => by rw [h3 s (by omega), tr_at hcn (by omega)]
   .exact h1 d (by omega)
 .rw [show x = tr n X from QD (by rw [Jwx]; exact hx) fun i hi => hv i (by omega)]; exact hfin
end
end Go.Proofs.YtngdhnijkgjhcaaGreat
