/- Contracts of functions of the program, and what they lean on: V4, V5, V6, M1, M2, M3, M4, M5, M6, M7, M8, M9, M10, M11. -/
import Derived.Test.YtlfeialpcdoleaaMatrixTransformG9
set_option linter.unusedVariables false
set_option linter.unusedSimpArgs false
namespace Go.Proofs.Ytlfeialpcdoleaa
theorem gb_nat (l : List Bool) (i : Nat) : gb l (i : Int) = l.getD i false := rfl
theorem Jqt (l : List Bool) (i : Nat) (x : Bool) : sb l (i : Int) x = l.set i x := rfl
theorem Ja8 (l : List Bool) (i j : Nat) (x : Bool) : (l.set i x).getD j false = if i = j /\ i < l.length then x else l.getD j false := by
 rw [List.getD_eq_getElem?_getD, List.getD_eq_getElem?_getD, List.getElem?_set]; by_cases h : i = j
 .subst h; by_cases h2 : i < l.length
  .simp [h2]
  .simp [h2]
 .simp [h]
theorem Jth {P M : Int} {mf : List Int} {p m v : Nat} (F : FV P M mf p m v) {Q : List Int -> Prop}
  (h : ∀ g, Gn (p ^ m) (Jv p m (dv p v)) g -> Q (pwl (Jv p m (dv p v)) g (p ^ m - 1))) : Jen ⟨P, M, mf, ((p ^ m : Nat) : Int), [], [], []⟩ Q := by
 have hq := F.q; have R := F.ring; have hq2 := R.q2; obtain ⟨g0, G0⟩ := F.gen; generalize hqq : p ^ m = q at *
 generalize hMM : Jv p m (dv p v) = Mu at *
 refine ⟨⟨by show (0 : Int) <= q; omega, by show (q : Int) * 1 <= _; omega, by show (q : Int) <= _; omega⟩, ⟨by omega, by show (0 : Int) < ((((q : Nat) : Int).toNat : Nat) : Int); omega⟩, ?_⟩; refine ⟨ZD (by omega), fun i x s => s.length = q /\ s.getD 0 false = true /\ (∀ j, j < i -> ¬ Gn q Mu j) /\ ∀ j, j < q -> s.getD j false = true -> ¬ Gn q Mu j, fun x s => ∃ g, Gn q Mu g /\ x = pwl Mu g (q - 1), ?_, ?_, ?_, ?_⟩
 .have h0 : ¬ Gn q Mu 0 := fun G => by
   have := G.one; rw [R.zero_pw (by omega)] at this; omega
  dsimp only; rw [show (0 : Int) = ((0 : Nat) : Int) from rfl, Jqt]; refine ⟨by rw [List.length_set, List.length_replicate]; exact Int.toNat_natCast q, ?_, fun j hj => by omega, fun j hj hs => ?_⟩
  .rw [Ja8, if_pos ⟨rfl, by rw [List.length_replicate, Int.toNat_natCast]; omega⟩]
  .rw [Ja8] at hs; by_cases hj0 : 0 = j
   .rw [<- hj0]; exact h0
   .rw [if_neg (fun h => hj0 h.1), List.getD_eq_getElem?_getD, List.getElem?_replicate] at hs; split at hs <;> exact absurd hs (by decide)
 .rintro i hi x s ⟨hs, hs0, hno, hsn⟩; dsimp only at hi ⊢; rw [Int.toNat_natCast] at hi; rw [gb_nat]; refine ⟨⟨by omega, by rw [Int.toNat_natCast]; omega⟩, fun hb => ⟨hs, hs0, fun j hj => ?_, hsn⟩, fun hb => ?_⟩
  .by_cases hji : j = i
   .subst hji; exact hsn j hi hb
   .exact hno j (by omega)
  .have hi0 : 0 < i := by
    rcases Nat.eq_zero_or_pos i with h0 | h0
    .subst h0; rw [hs0] at hb; exact absurd hb (by decide)
    .exact h0
   refine Jqd F hi0 (by rw [hqq]; exact hi) fun n O hn => ?_; rw [hMM] at O ⊢; rw [hqq] at hn; rw [Ja4]; refine ⟨Jz (by omega) (by omega), fun he => ?_, fun hne => ?_⟩
   .have hnq : n = q - 1 := by omega
    subst hnq; exact ⟨i, ⟨hi, O.one, O.least⟩, rfl⟩
   .have hnq : n < q - 1 := by omega
    have hnG : ∀ k, ¬ Gn q Mu (pw Mu i k) := fun k G => by
     have h1 : pw Mu (pw Mu i k) n = 1 := by rw [R.pw_pw hi, Nat.mul_comm, <- R.pw_pw hi, O.one, R.one_pw]
     exact G.no n O.pos hnq h1
    refine ⟨fun s' z => ∃ k : Nat, z = k /\ k <= n /\ s'.length = q /\ s'.getD 0 false = true /\ ∀ j, j < q -> s'.getD j false = true -> ¬ Gn q Mu j, fun s' z => (n - z).toNat, ⟨0, rfl, Nat.zero_le _, hs, hs0, hsn⟩, ?_⟩; rintro s' _ ⟨k, rfl, hk, hs', hs0', hsn'⟩; dsimp only; rw [JW]; refine ⟨fun hlt => ?_, fun hge => ⟨hs', hs0', fun j hj => ?_, hsn'⟩⟩
    .rw [Je9 (by omega), Jqt]; have hlt2 := R.pw_lt i k; refine ⟨⟨by omega, by omega⟩, ⟨by omega, by rw [Int.toNat_natCast]; omega⟩, Jz (by omega) (by omega), ⟨k + 1, by push_cast; rfl, by omega, by rw [List.length_set, hs'], ?_, fun j hj hj2 => ?_⟩, by omega⟩
     .rw [Ja8]; split
      .rfl
      .exact hs0'
     .rw [Ja8] at hj2; by_cases hjk : pw Mu i k = j
      .rw [<- hjk]; exact hnG k
      .rw [if_neg (fun h => hjk h.1)] at hj2; exact hsn' j hj hj2
    .by_cases hji : j = i
     .subst hji; have := hnG 1
      rwa [R.pw_one hi] at this
     .exact hno j (by omega)
 .rintro x s ⟨hs, hs0, hno, hsn⟩; have := G0.lt; exact absurd G0 (hno g0 (by show g0 < ((q : Nat) : Int).toNat; rw [Int.toNat_natCast]; exact this))
 .rintro x s ⟨g, G, rfl⟩; exact h g G
structure GFk (F : GFv) (p m v g : Nat) : Prop where
  fv : FV F.P F.M F.mod p m v
  q : F.q = ((p ^ m : Nat) : Int)
  G : Gn (p ^ m) (Jv p m (dv p v)) g
  el : F.exp.length = 2 * (p ^ m - 1)
  ev : ∀ k, k < 2 * (p ^ m - 1) -> vo F.exp k = ((pw (Jv p m (dv p v)) g k : Nat) : Int)
  ll : F.log.length = p ^ m
  l0 : vo F.log 0 = -1
  lv : ∀ k, k < p ^ m - 1 -> vo F.log (pw (Jv p m (dv p v)) g k) = (k : Int)
  al : F.above.length = p ^ m - 1
  av : ∀ k, k < p ^ m - 1 -> vo F.above k = vo F.log (JU p m (pw (Jv p m (dv p v)) g k) 1)
theorem Jod {p m x : Nat} (hp : 2 <= p) (hm : 0 < m) (hx : x < p ^ m) : (if x % p = p - 1 then x - x % p else x + 1) = JU p m x 1 := by
 have hmd := Nat.mod_add_div x p; have hlt := Nat.mod_lt x (show 0 < p by omega); obtain ⟨n, rfl⟩ : ∃ n, m = n + 1 := ⟨m - 1, by omega⟩
 have hxd : x / p < p ^ n := by rw [Nat.div_lt_iff_lt_mul (by omega), <- Nat.pow_succ]; exact hx
 generalize hA : x / p = a at *
 generalize hR : x % p = r at *
 have key : ∀ y s, y = s + p * a -> s < p -> s = (r + 1) % p -> y = JU p (n + 1) x 1 := fun y s hy hs hsr => by
  have hyd : y / p = a := by rw [hy, Nat.add_mul_div_left _ _ (by omega), Nat.div_eq_of_lt hs, Nat.zero_add]
  have hym : y % p = s := by rw [hy, Nat.add_mul_mod_self_left, Nat.mod_eq_of_lt hs]
  have hyl : y < p ^ (n + 1) := by
   have h1 : p * (a + 1) <= p * p ^ n := Nat.mul_le_mul_left p hxd; rw [Nat.pow_succ', hy]; rw [Nat.mul_add, Nat.mul_one] at h1; omega
  refine (nm_eq (by omega) hyl fun i hi => ?_).symm; cases i with
  | zero =>
   simp only [J6]; rw [Zw, Zw, Zw, hym, hR, Nat.mod_eq_of_lt (show 1 < p by omega), hsr]; push_cast; rfl
  | succ i =>
   simp only [J6]; rw [Jad, Jad, Jad, hyd, hA, Nat.div_eq_of_lt (show 1 < p by omega), Jfs]; simp only [vz]; rw [Int.add_zero, Jby]
 by_cases hc : r = p - 1
 .rw [if_pos hc]; refine key (x - r) 0 (by omega) (by omega) ?_; rw [hc, show p - 1 + 1 = p by omega, Nat.mod_self]
 .rw [if_neg hc]; exact key (x + 1) (r + 1) (by omega) (by omega) (Nat.mod_eq_of_lt (by omega)).symm
theorem vo_app {a b : List Int} {i : Nat} : vo (a ++ b) i = if i < a.length then vo a i else vo b (i - a.length) := by
 unfold vo; rw [List.getD_eq_getElem?_getD]; split
 .rename_i h
  rw [List.getElem?_append_left h, List.getD_eq_getElem?_getD]
 .rename_i h
  rw [List.getElem?_append_right (by omega), List.getD_eq_getElem?_getD]
theorem v_New {P M : Int} {mf : List Int} {Q : Option GFv × Int -> Prop} (hno : ¬ YR P M mf -> Q (none, 1)) (h : ∀ (F : GFv) (p m v g : Nat), GFk F p m v g -> F.P = P -> F.M = M -> F.mod = mf -> Q (some F, 0)) : Jn5 P M mf Q := by
 refine Jtj ?_; by_cases hV : YR P M mf
 .rw [Jgx hV]; refine ⟨fun h1 => absurd rfl h1, fun _ => ?_⟩; obtain ⟨p, m, v, F⟩ := hV; obtain rfl := F.eP; obtain rfl := F.eM; have hp := F.p2; have hp2 := F.p256; have hm0 := F.m0; have hm8 := F.m8; have hq := F.q; have R := F.ring; have hq2 := R.q2; have hml : mf.length <= 1000000 := by
   by_cases hm1 : m = 1
   .rw [(F.m1 hm1).1]; simp
   .rw [F.m2 hm1, Qb]; omega
  have hJ : Jc1 p m mf (fun q => match q with | (r27, r28, x29) => Jah p m mf (fun r34 => r27 = p /\ r28 = m /\ x29 = mf /\ r34 = ((p ^ m : Nat) : Int))) := Jeb hml (Jg7 hp hp2 fun r hr _ => by
   rw [Int.toNat_natCast] at hr; exact ⟨rfl, rfl, rfl, hr hq⟩)
  refine ⟨fun a b c d => a = p /\ b = m /\ c = mf /\ d = ((p ^ m : Nat) : Int), hJ, ?_⟩; rintro _ _ _ _ ⟨rfl, rfl, rfl, rfl⟩; refine Jth F fun g G => ?_; have hg := G.lt; generalize hqq : p ^ m = q at *
  generalize hMM : Jv p m (dv p v) = Mu at *
  rw [Ja4]; have hql : (List.replicate ((q : Nat) : Int).toNat (0 : Int)).length = q := by rw [List.length_replicate, Int.toNat_natCast]
  rw [Int.toNat_natCast, Int.toNat_natCast]; rw [Int.toNat_natCast] at hql; refine ⟨⟨by omega, by omega, by omega⟩, ⟨by omega, by omega, by omega⟩, ⟨by omega, by omega⟩, ?_⟩; refine ⟨fun l z => ∃ k : Nat, z = k /\ k <= q - 1 /\ l.length = q /\ vo l 0 = -1 /\ ∀ t, t < k -> vo l (pw Mu g t) = (t : Int), fun l z => (q - z).toNat, ⟨0, rfl, Nat.zero_le _, ?_, ?_, fun t ht => by omega⟩, ?_⟩
  .rw [show (0 : Int) = ((0 : Nat) : Int) from rfl, QD, List.length_set]; exact hql
  .rw [show si (List.replicate q (0 : Int)) 0 (-1) = (List.replicate q (0 : Int)).set 0 (-1) from rfl, J8, if_pos ⟨rfl, by rw [hql]; omega⟩]
  .rintro l _ ⟨k, rfl, hk, hl, hl0, hlv⟩; dsimp only; rw [JW]; refine ⟨fun hlt => ?_, fun hge => ?_⟩
   .rw [Je9 (by omega), QD]; have hlt2 := R.pw_lt g k; refine ⟨⟨by omega, by omega⟩, ⟨by omega, by omega⟩, Jz (by omega) (by omega), ⟨k + 1, by push_cast; rfl, by omega, by rw [List.length_set, hl], ?_, fun t ht => ?_⟩, by omega⟩
    .rw [J8, if_neg (fun h => G.ne0 R k h.1)]; exact hl0
    .rw [J8]; by_cases htk : t = k
     .subst htk; rw [if_pos ⟨rfl, by rw [hl]; exact hlt2⟩]
     .rw [if_neg (fun h => G.inj R (show t < k by omega) (by omega) h.1.symm)]; exact hlv t (by omega)
   .have hkq : k = q - 1 := by omega
    subst hkq; refine ⟨⟨by omega, by omega, by omega⟩, fun a z => ∃ k : Nat, z = k /\ k <= q - 1 /\ a.length = q - 1 /\ ∀ t, t < k -> vo a t = vo l (JU p m (pw Mu g t) 1), fun a z => (q - z).toNat, ⟨0, rfl, Nat.zero_le _, by simp, fun t ht => by omega⟩, ?_⟩; rintro a _ ⟨k, rfl, hk, hal, hav⟩; dsimp only; rw [JW]; refine ⟨fun hlt => ?_, fun hge => ?_⟩
    .rw [Je9 (by omega)]; have hlt2 := R.pw_lt g k; have hsl := R.Al (pw Mu g k) 1; have hsf := Jod hp hm0 (x := pw Mu g k) (by rw [hqq]; exact hlt2); refine ⟨⟨by omega, by omega⟩, _, Jiu hp hp2 (by omega) rfl, ?_⟩; rw [hsf, JW, QD]; refine ⟨⟨by omega, by omega⟩, ⟨by omega, by omega⟩, Jz (by omega) (by omega), ⟨k + 1, by push_cast; rfl, by omega, by rw [List.length_set, hal], fun t ht => ?_⟩, by omega⟩; rw [J8]; by_cases htk : k = t
     .subst htk; rw [if_pos ⟨rfl, by omega⟩]
     .rw [if_neg (fun h => htk h.1)]; exact hav t (by omega)
    .have hkq : k = q - 1 := by omega
     subst hkq; subst hMM; subst hqq; refine h _ p m v g ⟨F, rfl, G, ?_, fun k hk2 => ?_, hl, hl0, hlv, hal, hav⟩ rfl rfl rfl
     .simp only [List.length_append, Ja4]; omega
     .show vo (pwl _ g _ ++ pwl _ g _) k = _; rw [vo_app, Ja4]; by_cases hkl : k < p ^ m - 1
      .rw [if_pos hkl, Je9 hkl]
      .rw [if_neg hkl, Je9 (by omega)]; have := G.per R (k - (p ^ m - 1)) 1; rw [Nat.mul_one, show k - (p ^ m - 1) + (p ^ m - 1) = k by omega] at this; rw [this]
 .rw [YP hV]; exact ⟨fun _ => hno hV, fun h1 => absurd (show (1 : Int) ≠ 0 by decide) h1⟩
end Go.Proofs.Ytlfeialpcdoleaa
set_option linter.unusedVariables false
set_option linter.unusedSimpArgs false
namespace Go.Proofs.Ytlfeialpcdoleaa
def inE (q : Nat) (x : Int) : Nat := if 0 <= x /\ x < q then x.toNat else 0
theorem Qe {q : Nat} (hq : 0 < q) (x : Int) : inE q x < q := by unfold inE; split <;> omega
theorem QA {q x : Nat} (h : x < q) : inE q (x : Int) = x := by unfold inE; rw [if_pos (by omega)]; rfl
section
variable {P M : Int} {mf : List Int} {p m v : Nat}
theorem FV.ord (F : FV P M mf p m v) : Jf8 P M = ((p ^ m : Nat) : Int) := by
 rw [F.eP, F.eM, Jf8, if_pos]
 .simp
 .have := F.p2; have := F.m0; have := F.q; exact ⟨by omega, by omega, by simpa using this⟩
theorem FV.i64 (F : FV P M mf p m v) : I64 P := by
 have := F.p256; rw [F.eP]; exact Jz (by omega) (by omega)
theorem v_rIs (F : FV P M mf p m v) {x : Int} {Q : Bool -> Prop} (h : Q (decide (0 <= x /\ x < ((p ^ m : Nat) : Int)))) : Jkg P M mf x Q := by
 refine ⟨fun h0 => Jey ?_, fun h0 => ?_⟩
 .rw [F.ord]; simpa [h0] using h
 .simpa [h0] using h
theorem v_rIn (F : FV P M mf p m v) {x : Int} {Q : Int -> Prop} (h : Q ((inE (p ^ m) x : Nat) : Int)) : Jn3 P M mf x Q := by
 refine v_rIs F ⟨fun hb => ?_, fun hb => ?_⟩
 .have hb := of_decide_eq_true hb; unfold inE at h; rw [if_pos hb] at h
  rwa [Int.toNat_of_nonneg hb.1] at h
 .have hb := of_decide_eq_false hb; unfold inE at h; rw [if_neg hb] at h; exact h
theorem ZH (F : FV P M mf p m v) {x : Int} {Q : List Int -> Prop} (h : Q (dgi p m (inE (p ^ m) x))) : Yg P M mf x Q := by
 have hp := F.p2; have hq := F.q; have hm8 := F.m8; have hlt := Qe F.ring.pos x; refine ⟨_, v_rIn F rfl, _, ?_, h⟩; rw [F.eP, F.eM]; exact Jgj (by omega) (by omega) (by omega) rfl
theorem Jkr (F : FV P M mf p m v) {l : List Int} {u : Vec} {Q : Int -> Prop} (hl : l.length = m) (hv : ∀ i, i < m -> vo l i = u i % (p : Int)) (h : Q ((nm p m u : Nat) : Int)) : Zi P M mf l Q := by
 have hp := F.p2; rw [Jcr (by omega) hl hv, F.eP]; have hlt := Jbp (p := p) (m := m) (by omega) u; refine Jqb hp F.p256 (by rw [Qb]; have := F.m8; omega) (by rw [Qb]; exact Jdo (by omega) hlt _) (by rw [Qb]; exact F.q) ?_; rw [Jp7 (by omega) hlt]; exact h
theorem v_rAdd (F : FV P M mf p m v) {x y : Int} {Q : Int -> Prop} (h : Q ((JU p m (inE (p ^ m) x) (inE (p ^ m) y) : Nat) : Int)) : Jik P M mf x y Q := by
 have hp := F.p2; have hp2 := F.p256; have hm8 := F.m8; have hx := Qe F.ring.pos x; have hy := Qe F.ring.pos y; refine ZH F (ZH F ?_); generalize inE (p ^ m) x = a at *
 generalize inE (p ^ m) y = b at *
 have hla := Qb p m a; have hlb := Qb p m b; rw [hla]; refine ⟨fun l z => ∃ k : Nat, z = k /\ k <= m /\ l.length = m /\ ∀ i, i < m -> vo l i = if i < k then (J6 (dv p a) (dv p b)) i % (p : Int) else dv p a i, fun l z => (m - z).toNat, ⟨0, rfl, Nat.zero_le _, hla, fun i hi => by rw [if_neg (by omega), Ye hi]⟩, ?_⟩; rintro l _ ⟨k, rfl, hk, hl, hv⟩; dsimp only; rw [JW, JW, QD]; refine ⟨fun hlt => ?_, fun hge => Jkr F hl (fun i hi => by rw [hv i hi, if_pos (by omega)]) h⟩; rw [hv k (by omega), if_neg (by omega), Ye (by omega)]; have c1 := Jft (p := p) (by omega) a k; have c2 := Jft (p := p) (by omega) b k; refine ⟨⟨by omega, by omega⟩, ⟨by omega, by omega⟩, Jz (by omega) (by omega), by rw [F.eP]; omega, ⟨by omega, by omega⟩, Jz (by omega) (by omega), ⟨k + 1, by push_cast; rfl, by omega, by rw [List.length_set, hl], fun i hi => ?_⟩, by omega⟩; rw [J8]; by_cases hki : k = i
 .subst hki; rw [if_pos ⟨rfl, by omega⟩, if_pos (by omega), F.eP, Int.tmod_eq_emod_of_nonneg (by omega)]; rfl
 .rw [if_neg (fun h => hki h.1), hv i hi]; by_cases hik : i < k
  .rw [if_pos hik, if_pos (by omega)]
  .rw [if_neg hik, if_neg (by omega)]
theorem v_rNeg (F : FV P M mf p m v) {x : Int} {Q : Int -> Prop} (h : Q ((QY p m (inE (p ^ m) x) : Nat) : Int)) : Jih P M mf x Q := by
 have hp := F.p2; have hp2 := F.p256; have hm8 := F.m8; have hx := Qe F.ring.pos x; refine ZH F ?_; generalize inE (p ^ m) x = a at *
 have hla := Qb p m a; rw [hla]; refine ⟨fun l z => ∃ k : Nat, z = k /\ k <= m /\ l.length = m /\ ∀ i, i < m -> vo l i = if i < k then (vsm (-1) (dv p a)) i % (p : Int) else dv p a i, fun l z => (m - z).toNat, ⟨0, rfl, Nat.zero_le _, hla, fun i hi => by rw [if_neg (by omega), Ye hi]⟩, ?_⟩; rintro l _ ⟨k, rfl, hk, hl, hv⟩; dsimp only; rw [JW, QD]; refine ⟨fun hlt => ?_, fun hge => Jkr F hl (fun i hi => by rw [hv i hi, if_pos (by omega)]) h⟩; rw [hv k (by omega), if_neg (by omega)]; have c1 := Jft (p := p) (by omega) a k; rw [F.eP]; refine ⟨⟨by omega, by omega⟩, Jz (by omega) (by omega), by omega, ⟨by omega, by omega⟩, Jz (by omega) (by omega), ⟨k + 1, by push_cast; rfl, by omega, by rw [List.length_set, hl], fun i hi => ?_⟩, by omega⟩; rw [J8]; by_cases hki : k = i
 .subst hki; rw [if_pos ⟨rfl, by omega⟩, if_pos (by omega), Int.tmod_eq_emod_of_nonneg (by omega)]; show _ = (-1 * dv p a k) % (p : Int); rw [show (p : Int) - dv p a k = -1 * dv p a k + p * 1 by omega, Int.add_mul_emod_self_left]
 .rw [if_neg (fun h => hki h.1), hv i hi]; by_cases hik : i < k
  .rw [if_pos hik, if_pos (by omega)]
  .rw [if_neg hik, if_neg (by omega)]
end
theorem Jhh {p m : Nat} {c w w' u : Vec} {s : Int} {k : Nat} (hk : w' k % (p : Int) = (w k + s) % (p : Int)) (ho : ∀ i, i ≠ k -> w' i = w i) : ∀ n, vcg p (opr m c w' n u) (J6 (opr m c w n u) (if k < n then vsm s (tXn m c k u) else vz))
  | 0 => fun i => by simp [opr, J6, vz]
  | n + 1 => fun i => by
    have ih := Jhh hk ho (m := m) (c := c) (u := u) n i
    show (opr m c w' n u i + w' n * tXn m c n u i) % (p : Int) = ((opr m c w n u i + w n * tXn m c n u i) + (if k < n + 1 then vsm s (tXn m c k u) else vz) i) % (p : Int)
    rcases Nat.lt_trichotomy k n with h | h | h
    . rw [if_pos (by omega)]
      rw [if_pos h] at ih
      rw [ho n (by omega)]
      have := Jdp ih (rfl : (w n * tXn m c n u i) % (p : Int) = _)
      rw [this]
      congr 1
      show opr m c w n u i + (vsm s (tXn m c k u)) i + _ = _
      omega
    . subst h
      rw [if_pos (by omega)]
      rw [if_neg (by omega)] at ih
      have := Jdp ih (Jde hk (rfl : (tXn m c k u i) % (p : Int) = _))
      rw [this]
      congr 1
      show opr m c w k u i + 0 + (w k + s) * tXn m c k u i = _ + s * tXn m c k u i
      rw [Int.add_mul]; omega
    . rw [if_neg (by omega)]
      rw [if_neg (by omega)] at ih
      rw [ho n (by omega)]
      have := Jdp ih (rfl : (w n * tXn m c n u i) % (p : Int) = _)
      rw [this]
      congr 1
      show opr m c w n u i + 0 + _ = _ + 0
      omega
theorem Xm {m : Nat} {c : Vec} (hm : 0 < m) : tXn m c m e0 = vsm (-1) (opr m c c m e0) := by
 obtain ⟨n, rfl⟩ : ∃ n, m = n + 1 := ⟨m - 1, by omega⟩
 show tX (n + 1) c (tXn (n + 1) c n e0) = _; rw [Jku (by omega)]; funext i; simp only [vsm]; rw [Jhi (Nat.le_refl _)]; simp only [tX, vei]; by_cases hi : i < n + 1
 .rw [if_pos hi, if_pos hi]; have e1 : (if i = 0 then (0 : Int) else if i - 1 = n then 1 else 0) = 0 := by
   split
   .rfl
   .rw [if_neg (by omega)]
  rw [e1, show n + 1 - 1 = n by omega, if_pos rfl]; omega
 .rw [if_neg hi, if_neg hi]; rfl
section
variable {P M : Int} {mf : List Int} {p m v : Nat}
theorem Jks (F : FV P M mf p m v) {x y : Int} {Q : Int -> Prop} (h : Q ((Jv p m (dv p v) (inE (p ^ m) x) (inE (p ^ m) y) : Nat) : Int)) : Jdr P M mf x y Q := by
 have hp := F.p2; have hp2 := F.p256; have hm0 := F.m0; have hm8 := F.m8; have hx := Qe F.ring.pos x; have hy := Qe F.ring.pos y; refine ZH F (ZH F ?_); obtain rfl := F.eP; obtain rfl := F.eM; generalize inE (p ^ m) x = a at *
 generalize inE (p ^ m) y = b at *
 rw [Jdh hx hy] at h; have hla := Qb p m a; have hlb := Qb p m b; have hva := ZG hx; have hvb := ZG hy; have hsa := Yt hx; have hsb := Yt hy; have hN : (2 * (m : Int) - 1).toNat = 2 * m - 1 := by omega
 have e2 : (2 * (m : Int) - 1) = ((2 * m - 1 : Nat) : Int) := by omega
 rw [e2]; generalize hNN : 2 * m - 1 = N at *
 rw [Int.toNat_natCast]; have hself := ZK (c := dv p v) hsb; refine ⟨Jz (by omega) (by omega), ZD (by omega), ⟨by omega, by omega, by omega⟩, ?_⟩; refine ⟨fun l z => ∃ k : Nat, z = k /\ k <= m /\ l.length = N /\ Cn p N (vo l) /\ vcg p (opr m (dv p v) (vo l) N e0) (opr m (dv p v) (dv p a) k (dv p b)), fun l z => (m - z).toNat, ⟨0, rfl, Nat.zero_le _, by simp, fun i hi => by rw [ZC]; omega, ?_⟩, ?_⟩
 .have : vo (List.replicate N (0 : Int)) = vz := by funext i; rw [ZC]; rfl
  rw [this]; have h0 : ∀ n, opr m (dv p v) vz n e0 = vz := fun n => by
   induction n with
   | zero => rfl
   | succ n ih => show J6 (opr m (dv p v) vz n e0) (vsm (vz n) _) = vz; rw [ih]; funext i; simp [J6, vsm, vz]
  rw [h0]; exact vcg.refl _
 rintro l _ ⟨i, rfl, hi, hl, hcn, hE⟩; dsimp only; refine ⟨fun hlt => ?_, fun hge => ?_⟩
 .refine ⟨fun r z => ∃ j : Nat, z = j /\ j <= m /\ r.length = N /\ Cn p N (vo r) /\ vcg p (opr m (dv p v) (vo r) N e0) (J6 (opr m (dv p v) (dv p a) i (dv p b)) (vsm (dv p a i) (tXn m (dv p v) i (opr m (dv p v) (dv p b) j e0)))), fun r z => (m - z).toNat, ⟨0, rfl, Nat.zero_le _, hl, hcn, ?_⟩, ?_⟩
  .show vcg p _ (J6 _ (vsm _ (tXn m (dv p v) i vz))); rw [Jix, Jmm, Jbs]; exact hE
  rintro r _ ⟨j, rfl, hj, hr, hcr, hEr⟩; dsimp only; rw [show (i : Int) + (j : Int) = ((i + j : Nat) : Int) by push_cast; rfl, JW, JW, JW, QD, hva, hvb]; refine ⟨fun hltj => ?_, fun hgej => ?_⟩
  .have c1 := Jft (p := p) (by omega) a i; have c2 := Jft (p := p) (by omega) b j; have c3 := hcr (i + j) (by omega); have c4 := Jaz (a := dv p a i) (b := dv p b j) hp2 ⟨c1.1, by omega⟩ ⟨c2.1, by omega⟩; refine ⟨ZD (by omega), ZD (by omega), ⟨by omega, by omega⟩, ⟨by omega, by omega⟩, ⟨by omega, by omega⟩, Jz (by omega) (by omega), Jz (by omega) (by omega), by omega, ⟨by omega, by omega⟩, Jz (by omega) (by omega), ⟨j + 1, by push_cast; rfl, by omega, by rw [List.length_set, hr], fun t ht => ?_, ?_⟩, by omega⟩
   .rw [J8]; split
    .rw [Int.tmod_eq_emod_of_nonneg (by omega)]; exact ⟨Int.emod_nonneg _ (by omega), Int.emod_lt_of_pos _ (by omega)⟩
    .exact hcr t ht
   .have hup := Jhh (p := p) (m := m) (c := dv p v) (w := vo r) (w' := vo (r.set (i + j) ((vo r (i + j) + dv p a i * dv p b j).tmod p))) (u := e0) (s := dv p a i * dv p b j) (k := i + j) (by
     rw [J8, if_pos ⟨rfl, by omega⟩, Int.tmod_eq_emod_of_nonneg (by omega), Int.emod_emod]) (fun t ht => by rw [J8, if_neg (fun h => ht h.1.symm)]) N
    rw [if_pos (by omega)] at hup; refine hup.trans ((hEr.add (vcg.refl _)).trans ?_); show vcg p _ (J6 _ (vsm _ (tXn m (dv p v) i (J6 (opr m (dv p v) (dv p b) j e0) (vsm (dv p b j) (tXn m (dv p v) j e0)))))); rw [Jcb, Jc4, Jec, Jd7, Jg6, <- Z2]; exact vcg.refl _
  .have hjm : j = m := by omega
   subst hjm; rw [hself] at hEr; exact ⟨Jz (by omega) (by omega), ⟨i + 1, by push_cast; rfl, by omega, hr, hcr, hEr⟩, by omega⟩
 .have him : i = m := by omega
  subst him; have hE2 : vcg p (opr i (dv p v) (vo l) N e0) (Yz i (dv p v) (dv p b) (dv p a)) := hE; refine ⟨Jz (by omega) (by omega), Jz (by omega) (by omega), ?_⟩; refine ⟨fun r z => ∃ t : Nat, z = (t : Int) - 1 /\ i <= t /\ t <= N /\ r.length = N /\ Cn p N (vo r) /\ vcg p (opr i (dv p v) (vo r) t e0) (Yz i (dv p v) (dv p b) (dv p a)), fun r z => (z + 1).toNat, ⟨N, by omega, by omega, by omega, hl, hcn, hE2⟩, ?_⟩; rintro r _ ⟨t, rfl, hit, htN, hr, hcr, hEr⟩; dsimp only; refine ⟨fun hle => ?_, fun hgt => ?_⟩
  .obtain ⟨k, rfl⟩ : ∃ k, t = k + 1 := ⟨t - 1, by omega⟩
   have ek : ((k + 1 : Nat) : Int) - 1 = (k : Int) := by omega
   rw [ek] at hle ⊢; have hm1 : i ≠ 1 := by omega
   have hmf : vo mf = dv p v := F.vo; have hml : mf.length = i := (F.cn hm1).1; have hwk := hcr k (by omega); refine ⟨fun s z => ∃ j : Nat, z = j /\ j <= i /\ s.length = N /\ Cn p N (vo s) /\ vo s k = vo r k /\ vcg p (opr i (dv p v) (vo s) k e0) (J6 (opr i (dv p v) (vo r) k e0) (vsm (-(vo r k)) (tXn i (dv p v) (k - i) (opr i (dv p v) (dv p v) j e0)))), fun s z => (i - z).toNat, ⟨0, rfl, Nat.zero_le _, hr, hcr, rfl, ?_⟩, ?_⟩
   .show vcg p _ (J6 _ (vsm _ (tXn i (dv p v) (k - i) vz))); rw [Jix, Jmm, Jbs]; exact vcg.refl _
   rintro s _ ⟨j, rfl, hj, hs, hcs, hsk, hEs⟩; dsimp only; rw [show (k : Int) - (i : Int) + (j : Int) = ((k - i + j : Nat) : Int) by omega, JW, JW, JW, QD, hmf, hsk]; refine ⟨fun hltj => ?_, fun hgej => ?_⟩
   .have c1 := Jft (p := p) (by omega) v j; have c3 := hcs (k - i + j) (by omega); have c4 := Jaz (a := (p : Int) - vo r k) (b := dv p v j) hp2 ⟨by omega, by omega⟩ ⟨c1.1, by omega⟩; refine ⟨Jz (by omega) (by omega), ZD (by omega), Jz (by omega) (by omega), ZD (by omega), ⟨by omega, by omega⟩, ⟨by omega, by omega⟩, Jz (by omega) (by omega), ⟨by omega, by omega⟩, Jz (by omega) (by omega), Jz (by omega) (by omega), by omega, ⟨by omega, by omega⟩, Jz (by omega) (by omega), ⟨j + 1, by push_cast; rfl, by omega, by rw [List.length_set, hs], fun u hu => ?_, ?_, ?_⟩, by omega⟩
    .rw [J8]; split
     .rw [Int.tmod_eq_emod_of_nonneg (by omega)]; exact ⟨Int.emod_nonneg _ (by omega), Int.emod_lt_of_pos _ (by omega)⟩
     .exact hcs u hu
    .rw [J8, if_neg (by omega)]; exact hsk
    .have hup := Jhh (p := p) (m := i) (c := dv p v) (w := vo s) (w' := vo (s.set (k - i + j) ((vo s (k - i + j) + ((p : Int) - vo r k) * dv p v j).tmod p))) (u := e0) (s := -(vo r k) * dv p v j) (k := k - i + j) (by
      rw [J8, if_pos ⟨rfl, by omega⟩, Jhd (by omega) c3.1 (by omega) c1.1, Int.emod_emod, Int.neg_mul]; rfl) (fun t ht => by rw [J8, if_neg (fun h => ht h.1.symm)]) k
     rw [if_pos (by omega)] at hup; refine hup.trans ((hEs.add (vcg.refl _)).trans ?_); show vcg p _ (J6 _ (vsm _ (tXn i (dv p v) (k - i) (J6 (opr i (dv p v) (dv p v) j e0) (vsm (dv p v j) (tXn i (dv p v) j e0)))))); rw [Jcb, Jc4, Jec, Jd7, Jg6, <- Z2]; exact vcg.refl _
   .have hji : j = i := by omega
    subst hji; refine ⟨Jz (by omega) (by omega), ⟨k, by omega, by omega, by omega, hs, hcs, ?_⟩, by omega⟩; refine hEs.trans (vcg.trans ?_ hEr); show vcg p _ (J6 (opr j (dv p v) (vo r) k e0) (vsm (vo r k) (tXn j (dv p v) k e0))); have e1 : tXn j (dv p v) k e0 = tXn j (dv p v) (k - j) (tXn j (dv p v) j e0) := by rw [Jec, show k - j + j = k by omega]
    rw [e1, Xm hm0, Jc4, Jg6, show vo r k * -1 = -(vo r k) by omega]; exact vcg.refl _
  .have hti : t = i := by omega
   subst hti; refine ⟨⟨by omega, by omega⟩, _, Jkr F (u := opr t (dv p v) (vo r) t e0) ?_ (fun j hj => ?_) rfl, ?_⟩
   .rw [List.length_take, Int.toNat_natCast, hr]; omega
   .rw [Int.toNat_natCast, Jha hj, Jhi (Nat.le_refl _), if_pos hj]; have := hcr j (by omega); exact (Int.emod_eq_of_lt this.1 this.2).symm
   .rw [ZE hEr]; exact h
end
end Go.Proofs.Ytlfeialpcdoleaa
set_option linter.unusedVariables false
set_option linter.unusedSimpArgs false
namespace Go.Proofs.Ytlfeialpcdoleaa
section
variable {F : GFv} {p m v g : Nat}
theorem v_Is {x : Int} {Q : Bool -> Prop} (K : GFk F p m v g) (h : Q (decide (0 <= x /\ x < ((p ^ m : Nat) : Int)))) : V_Is F x Q := by
 refine ⟨fun h0 => ?_, fun h0 => ?_⟩
 .rw [K.q]; simpa [h0] using h
 .simpa [h0] using h
theorem Je0 {x : Int} {Q : Bool -> Prop} (K : GFk F p m v g) (h : Q (decide (inE (p ^ m) x ≠ 0))) : ZT F x Q := by
 unfold inE at h; refine ⟨fun h0 => ?_, fun h0 => ?_⟩
 .rw [K.q]; by_cases hx : x < ((p ^ m : Nat) : Int)
  .rw [if_pos ⟨by omega, hx⟩] at h; rw [decide_eq_true hx]; rw [decide_eq_true (by omega)] at h; exact h
  .rw [if_neg (by omega)] at h; rw [decide_eq_false hx]; exact h
 .by_cases hx : 0 <= x /\ x < ((p ^ m : Nat) : Int)
  .rw [if_pos hx] at h; rw [decide_eq_false (by omega)] at h; exact h
  .rw [if_neg hx] at h; exact h
theorem Jgk {x : Int} {Q : Int -> Prop} (K : GFk F p m v g) (h : Q ((inE (p ^ m) x : Nat) : Int)) : ZU F x Q := by
 refine v_Is K ⟨fun hb => ?_, fun hb => ?_⟩
 .have hb := of_decide_eq_true hb; unfold inE at h; rw [if_pos hb, Int.toNat_of_nonneg hb.1] at h; exact h
 .have hb := of_decide_eq_false hb; unfold inE at h; rw [if_neg hb] at h; exact h
theorem Jrj {q : Nat} {x : Int} (h : inE q x ≠ 0) : x = ((inE q x : Nat) : Int) := by
 unfold inE at h ⊢; split
 .rename_i hc; exact (Int.toNat_of_nonneg hc.1).symm
 .rename_i hc; rw [if_neg hc] at h; exact absurd rfl h
theorem GFk.lg (K : GFk F p m v g) {x : Int} (h : inE (p ^ m) x ≠ 0) : ∃ a : Nat, a < p ^ m - 1 /\ inE (p ^ m) x = pw (Jv p m (dv p v)) g a /\ gi F.log x = (a : Int) /\ (0 <= x /\ x < (F.log.length : Nat)) := by
  have R := K.fv.ring
  have hlt := Qe R.pos x
  obtain ⟨a, ha, he⟩ := K.G.surj R (Nat.pos_of_ne_zero h) hlt
  have hx := Jrj h
  refine ⟨a, ha, he.symm, ?_, ?_⟩
  . rw [hx, <- he, JW, K.lv a ha]
  . rw [K.ll]; omega
theorem Jmp {x y : Int} {Q : Int -> Prop} (K : GFk F p m v g) (h : Q ((Jv p m (dv p v) (inE (p ^ m) x) (inE (p ^ m) y) : Nat) : Int)) : Jf5 F x y Q := by
 have R := K.fv.ring; have hq := K.fv.q; have hx := Qe R.pos x; have hy := Qe R.pos y; refine Je0 K ⟨fun hb => ?_, fun hb => Je0 K ⟨fun hb2 => ?_, fun hb2 => ?_⟩⟩
 .have h0 : inE (p ^ m) x = 0 := by simpa using hb
  rw [h0, R.Z0 hy] at h; exact h
 .have h0 : inE (p ^ m) y = 0 := by simpa using hb2
  rw [h0, R.M0 hx] at h; exact h
 .obtain ⟨a, ha, ea, la, bx⟩ := K.lg (x := x) (by simpa using hb); obtain ⟨b, hb', eb, lb, by_⟩ := K.lg (x := y) (by simpa using hb2); rw [la, lb]; have hel := K.el; refine ⟨bx, by_, Jz (by omega) (by omega), ⟨by omega, by omega⟩, ?_⟩; rw [show (a : Int) + (b : Int) = ((a + b : Nat) : Int) by push_cast; rfl, JW, K.ev _ (by omega), R.pw_add K.G.lt, <- ea, <- eb]; exact h
theorem Jt6 {p m : Nat} {c : Vec} {x : Nat} (hp : 2 <= p) (hm : 0 < m) (hx : x < p ^ m) : Jv p m c (p - 1) x = QY p m x := by
 unfold Jv QY; have hd : vcg p (dv p (p - 1)) (vsm (-1) e0) := fun i => by
  cases i with
  | zero =>
   rw [Zw, Nat.mod_eq_of_lt (by omega)]; show ((p - 1 : Nat) : Int) % p = (-1 * 1) % p; rw [show ((p - 1 : Nat) : Int) = -1 * 1 + p * 1 by omega, Int.add_mul_emod_self_left]
  | succ i =>
   rw [Jad, Nat.div_eq_of_lt (by omega), Jfs]; simp [vz, vsm, e0]
 rw [ZE (vcg.mul (vcg.refl c) hd (vcg.refl _))]; have : Yz m c (vsm (-1) e0) (dv p x) = vsm (-1) (dv p x) := by
  show opr m c (dv p x) m (vsm (-1) e0) = _; rw [Jk6, ZK (Yt hx)]
 rw [this]
theorem Jqf {x : Int} {Q : Int -> Prop} (K : GFk F p m v g) (h : Q ((QY p m (inE (p ^ m) x) : Nat) : Int)) : ZY F x Q := by
 have hp := K.fv.p2; have hpq := K.fv.pq; have h256 := K.fv.p256; have R := K.fv.ring; unfold ZY; rw [K.fv.eP]; refine ⟨Jz (by omega) (by omega), Jmp K ?_⟩; rw [show (p : Int) - 1 = ((p - 1 : Nat) : Int) by omega, QA (by omega), Jt6 hp K.fv.m0 (Qe R.pos x)]; exact h
theorem Jpu {m x y : Nat} (hx : x < 2 ^ m) (hy : y < 2 ^ m) : x ^^^ y = JU 2 m x y := by
 refine (nm_eq (by decide) (Nat.xor_lt_two_pow hx hy) fun i hi => ?_).symm; have h := Nat.testBit_xor x y i; rw [Nat.testBit_eq_decide_div_mod_eq, Nat.testBit_eq_decide_div_mod_eq, Nat.testBit_eq_decide_div_mod_eq] at h; simp only [dv, J6]; have h1 := Nat.mod_two_eq_zero_or_one (x / 2 ^ i); have h2 := Nat.mod_two_eq_zero_or_one (y / 2 ^ i); have h3 := Nat.mod_two_eq_zero_or_one ((x ^^^ y) / 2 ^ i); rcases h1 with h1 | h1 <;> rcases h2 with h2 | h2 <;> rcases h3 with h3 | h3 <;> rw [h1, h2, h3] at h <;> rw [h1, h2, h3] <;> first | rfl | exact absurd h (by decide)
theorem v_Add {x y : Int} {Q : Int -> Prop} (K : GFk F p m v g) (h : Q ((JU p m (inE (p ^ m) x) (inE (p ^ m) y) : Nat) : Int)) : Jn8 F x y Q := by
 have R := K.fv.ring; have hq := K.fv.q; have hx := Qe R.pos x; have hy := Qe R.pos y; have hq2 := R.q2; refine Jgk K (Jgk K ⟨fun h2 => ⟨⟨by omega, by omega, by omega, by omega⟩, ?_⟩, fun h2 => ⟨fun h0 => ?_, fun h0 => ⟨fun h1 => ?_, fun h1 => ?_⟩⟩⟩)
 .have hp2 : p = 2 := by have := K.fv.eP; omega
  subst hp2; rw [<- Jpu hx hy] at h; exact h
 .rw [show inE (p ^ m) x = 0 by omega, R.zA hy] at h; exact h
 .rw [show inE (p ^ m) y = 0 by omega, R.Az hx] at h; exact h
 .have hi : ∀ z : Nat, z < p ^ m -> inE (p ^ m) (z : Int) = z := fun z hz => QA hz; obtain ⟨a, ha, ea, la, bx⟩ := K.lg (x := ((inE (p ^ m) x : Nat) : Int)) (by rw [hi _ hx]; omega); obtain ⟨b, hb, eb, lb, by_⟩ := K.lg (x := ((inE (p ^ m) y : Nat) : Int)) (by rw [hi _ hy]; omega); rw [hi _ hx] at ea; rw [hi _ hy] at eb; rw [la, lb]; have hal := K.al; have hel := K.el; refine ⟨by_, bx, Jz (by omega) (by omega), fun z => ∃ d : Nat, z = d /\ d < p ^ m - 1 /\ pw (Jv p m (dv p v)) g (a + d) = pw (Jv p m (dv p v)) g b, ⟨fun hn => ?_, fun hn => ?_⟩, ?_⟩
  .rw [K.q]; refine ⟨Jz (by omega) (by omega), Jz (by omega) (by omega), b + (p ^ m - 1) - a, by omega, by omega, ?_⟩; have := K.G.per R b 1; rw [Nat.mul_one] at this; rw [show a + (b + (p ^ m - 1) - a) = b + (p ^ m - 1) by omega]; exact this
  .exact ⟨b - a, by omega, by omega, by rw [show a + (b - a) = b by omega]⟩
  .rintro _ ⟨d, rfl, hd, hpd⟩; rw [JW, K.av d hd]; have hgd := R.pw_lt g d; have hga := R.pw_lt g a
   -- x + y = x (g^d + 1)
   have hsum : JU p m (inE (p ^ m) x) (inE (p ^ m) y) = Jv p m (dv p v) (pw (Jv p m (dv p v)) g a) (JU p m (pw (Jv p m (dv p v)) g d) 1) := by
    rw [R.Md hga hgd R.one_lt, R.M1 hga, <- R.pw_add K.G.lt, hpd, <- ea, <- eb, R.Ac]
   rw [hsum] at h; have hsl := R.Al (pw (Jv p m (dv p v)) g d) 1; refine ⟨⟨by omega, by omega⟩, fun hm1 => ?_, fun hm1 => ?_⟩
   .have hz : JU p m (pw (Jv p m (dv p v)) g d) 1 = 0 := by
     rcases Nat.eq_zero_or_pos (JU p m (pw (Jv p m (dv p v)) g d) 1) with h3 | h3
     .exact h3
     .obtain ⟨s, hs, hse⟩ := K.G.surj R h3 hsl; rw [<- hse, K.lv s hs] at hm1; omega
    rw [hz, R.M0 hga] at h; exact h
   .have hnz : 0 < JU p m (pw (Jv p m (dv p v)) g d) 1 := by
     rcases Nat.eq_zero_or_pos (JU p m (pw (Jv p m (dv p v)) g d) 1) with h3 | h3
     .rw [h3, K.l0] at hm1; exact absurd rfl hm1
     .exact h3
    obtain ⟨s, hs, hse⟩ := K.G.surj R hnz hsl; rw [<- hse] at h ⊢; rw [K.lv s hs]; refine ⟨bx, Jz (by omega) (by omega), ⟨by omega, by omega⟩, ?_⟩; rw [show (a : Int) + (s : Int) = ((a + s : Nat) : Int) by push_cast; rfl, JW, K.ev _ (by omega), R.pw_add K.G.lt]; exact h
theorem v_Inv {x : Int} {Q : Int × Int -> Prop} (K : GFk F p m v g) (h0 : inE (p ^ m) x = 0 -> Q (0, 7)) (h1 : ∀ z : Nat, inE (p ^ m) x ≠ 0 -> z < p ^ m -> Jv p m (dv p v) z (inE (p ^ m) x) = 1 -> Q ((z : Int), 0)) : Jn6 F x Q := by
 have R := K.fv.ring; have hq := K.fv.q; refine Je0 K ⟨fun hb => h0 (by simpa using hb), fun hb => ?_⟩; have hne : inE (p ^ m) x ≠ 0 := by simpa using hb
 obtain ⟨a, ha, ea, la, bx⟩ := K.lg hne; have hel := K.el; rw [la, K.q]; refine ⟨Jz (by omega) (by omega), bx, Jz (by omega) (by omega), ⟨by omega, by omega⟩, ?_⟩; rw [show ((p ^ m : Nat) : Int) - 1 - (a : Int) = ((p ^ m - 1 - a : Nat) : Int) by omega, JW, K.ev _ (by omega)]; refine h1 _ hne (R.pw_lt g _) ?_; rw [ea, <- R.pw_add K.G.lt, show p ^ m - 1 - a + a = p ^ m - 1 by omega, K.G.one]
theorem Od.uniq {M : Nat -> Nat -> Nat} {x n k : Nat} (h : Od M x n) (h' : Od M x k) : n = k := by
 rcases Nat.lt_trichotomy n k with h1 | h1 | h1
 .exact absurd h.one (h'.least n h.pos h1)
 .exact h1
 .exact absurd h'.one (h.least k h'.pos h1)
theorem Jtk {x : Int} {l : List Int} {Q : List Int -> Prop} (K : GFk F p m v g) (hl : l.length <= 1000) (h : ∀ r : List Int, r.length = l.length -> (∀ i, i < l.length -> vo r i = ((Jv p m (dv p v) (inE (p ^ m) x) (inE (p ^ m) (vo l i)) : Nat) : Int)) -> Q r) : Jak F x l Q := by
 refine ⟨⟨by omega, by omega, by omega⟩, fun r i => ∃ k : Nat, i = k /\ k <= l.length /\ r.length = l.length /\ ∀ j, j < k -> vo r j = ((Jv p m (dv p v) (inE (p ^ m) x) (inE (p ^ m) (vo l j)) : Nat) : Int), fun r i => (l.length - i).toNat, ⟨0, rfl, Nat.zero_le _, by simp, fun j hj => by omega⟩, ?_⟩; rintro r _ ⟨k, rfl, hk, hr, hv⟩; dsimp only; rw [JW]; refine ⟨fun hlt => ⟨⟨by omega, by omega⟩, Jmp K ⟨⟨by omega, by omega⟩, Jz (by omega) (by omega), ⟨k + 1, by push_cast; rfl, by omega, ?_, fun j hj => ?_⟩, by omega⟩⟩, fun hge => h r hr fun i hi => hv i (by omega)⟩
 .rw [QD, List.length_set, hr]
 .rw [QD, J8]; by_cases hkj : k = j
  .subst hkj; rw [if_pos ⟨rfl, by omega⟩]
  .rw [if_neg (fun h => hkj h.1)]; exact hv j (by omega)
end
end Go.Proofs.Ytlfeialpcdoleaa
set_option linter.unusedVariables false
set_option linter.unusedSimpArgs false
namespace Go.Proofs.Ytlfeialpcdoleaa
section
variable (p m v : Nat)
def Ad (x y : Int) : Int := ((JU p m (inE (p ^ m) x) (inE (p ^ m) y) : Nat) : Int)
def Ml (x y : Int) : Int := ((Jv p m (dv p v) (inE (p ^ m) x) (inE (p ^ m) y) : Nat) : Int)
def Ng (x : Int) : Int := ((QY p m (inE (p ^ m) x) : Nat) : Int)
def Iv (x : Int) : Int := ((((List.range (p ^ m)).find? fun z => Jv p m (dv p v) z (inE (p ^ m) x) == 1).getD 0 : Nat) : Int)
def El (x : Int) : Prop := 0 <= x /\ x < ((p ^ m : Nat) : Int)
def Elr (l : List Int) : Prop := ∀ x ∈ l, El p m x
def Els (X : List (List Int)) : Prop := ∀ r ∈ X, Elr p m r
def sc (x : Int) (l : List Int) : List Int := l.map (Ml p m v x)
def adm (a : List Int) (x : Int) (o : List Int) : List Int := (List.range a.length).map fun i => if vo o i = 0 then vo a i else Ad p m (vo a i) (Ml p m v x (vo o i))
def adx (a : List Int) (x : Int) (o : List Int) : List Int := if x = 0 then a else adm p m v a x o
def row (X : List (List Int)) (t : Nat) : List Int := X.getD t []
def nz (X : List (List Int)) (c s : Nat) : Nat := s + ((X.drop s).takeWhile fun r => vo r c == 0).length
def swp (X : List (List Int)) (i j : Nat) : List (List Int) := (X.set i (row X j)).set j (row X i)
def clr (f : Nat -> Int) (cur : Nat) (X : List (List Int)) : List (List Int) := (List.range X.length).map fun t => if t = cur then row X t else adx p m v (row X t) (f t) (row X cur)
structure ES where
  X : List (List Int)
  Y : List (List Int)
  pv : List Int
  d : Int
def es1 (c r cur : Nat) (S : ES) : ES :=
  let X1 := if r = cur then S.X else swp S.X r cur
  let Y1 := if r = cur then S.Y else swp S.Y r cur
  let e := vo (row X1 cur) c
  let X2 := X1.set cur (sc p m v (Iv p m v e) (row X1 cur))
  let Y2 := Y1.set cur (sc p m v (Iv p m v e) (row Y1 cur))
  { X := clr p m v (fun t => Ng p m (vo (row X2 t) c)) cur X2, Y := clr p m v (fun t => Ng p m (vo (row X2 t) c)) cur Y2, pv := S.pv ++ [(c : Int)], d := Ml p m v (if r = cur then S.d else Ng p m S.d) e }
def Qv (S : ES) (c : Nat) : ES :=
  if S.pv.length < S.X.length /\ nz S.X c S.pv.length < S.X.length then es1 p m v c (nz S.X c S.pv.length) S.pv.length S else S
def elim (cols : Nat) (S : ES) : ES := (List.range cols).foldl (Qv p m v) S
end
theorem QE {X Y : List (List Int)} (h : X.length = Y.length) (hv : ∀ i, i < X.length -> row X i = row Y i) : X = Y := by
 apply List.ext_getElem?; intro i; rcases Nat.lt_or_ge i X.length with hi | hi
 .rw [Jab (d := []) hi, Jab (d := []) (ls := Y) (by omega)]; exact congrArg some (hv i hi)
 .rw [List.getElem?_eq_none hi, List.getElem?_eq_none (by omega)]
theorem QH (X : List (List Int)) (i j : Nat) (l : List Int) : row (X.set i l) j = if i = j /\ i < X.length then l else row X j := by
 unfold row; rw [List.getD_eq_getElem?_getD, List.getD_eq_getElem?_getD, List.getElem?_set]; by_cases h : i = j
 .subst h; by_cases hi : i < X.length <;> simp [hi]
 .simp [h]
theorem Zq {n : Nat} {f : Nat -> List Int} {t : Nat} (h : t < n) : row ((List.range n).map f) t = f t := by
 unfold row; rw [List.getD_eq_getElem?_getD]; simp [h]
theorem Jko {n : Nat} {f : Nat -> Int} {t : Nat} (h : t < n) : vo ((List.range n).map f) t = f t := by
 unfold vo; rw [List.getD_eq_getElem?_getD]; simp [h]
theorem Jk2 {X : List (List Int)} {t : Nat} (h : X.length <= t) : row X t = [] := by
 unfold row; rw [List.getD_eq_getElem?_getD, List.getElem?_eq_none h]; rfl
theorem Z4 {X : List (List Int)} {t : Nat} (h : t < X.length) : row X t ∈ X := List.mem_of_getElem? (Jab h)
theorem YE {X : List (List Int)} {r : List Int} (h : r ∈ X) : ∃ t, t < X.length /\ row X t = r := by
 obtain ⟨t, ht, e⟩ := List.mem_iff_getElem.1 h; refine ⟨t, ht, ?_⟩; unfold row; rw [List.getD_eq_getElem?_getD, List.getElem?_eq_getElem ht]; exact e
theorem Jlf {l : List Int} {x : Int} (h : x ∈ l) : ∃ t, t < l.length /\ vo l t = x := by
 obtain ⟨t, ht, e⟩ := List.mem_iff_getElem.1 h; refine ⟨t, ht, ?_⟩; unfold vo; rw [List.getD_eq_getElem?_getD, List.getElem?_eq_getElem ht]; exact e
theorem Jaq {l : List Int} {t : Nat} (h : t < l.length) : vo l t ∈ l := List.mem_of_getElem? (Jab h)
theorem Jed (X : List (List Int)) (i j : Nat) : (swp X i j).length = X.length := by simp [swp]
theorem Zp {X : List (List Int)} {i j t : Nat} (hi : i < X.length) (hj : j < X.length) : row (swp X i j) t = if t = j then row X i else if t = i then row X j else row X t := by
 unfold swp; rw [QH, QH, List.length_set]; by_cases h1 : t = j
 .subst h1; simp [hj]
 .by_cases h2 : t = i
  .subst h2; simp [hi, Ne.symm h1, h1]
  .simp [Ne.symm h1, Ne.symm h2, h1, h2]
theorem Jql {X : List (List Int)} {i j : Nat} (hi : i < X.length) (hj : j < X.length) : swp X i j = swp X j i := by
 refine QE (by rw [Jed, Jed]) fun t ht => ?_; rw [Zp hi hj, Zp hj hi]; by_cases h1 : t = j <;> by_cases h2 : t = i <;> simp_all
theorem Jqk {X : List (List Int)} {i : Nat} (hi : i < X.length) : swp X i i = X := by
 refine QE (Jed _ _ _) fun t ht => ?_; rw [Zp hi hi]; by_cases h1 : t = i <;> simp_all
theorem Zu (X : List (List Int)) (c : Nat) : ∀ s, s <= X.length -> nz X c s <= X.length /\ (∀ t, s <= t -> t < nz X c s -> vo (row X t) c = 0) /\ (nz X c s < X.length -> vo (row X (nz X c s)) c ≠ 0) := by
 have key : ∀ (n s : Nat), n + s = X.length -> nz X c s <= X.length /\ (∀ t, s <= t -> t < nz X c s -> vo (row X t) c = 0) /\ (nz X c s < X.length -> vo (row X (nz X c s)) c ≠ 0) := by
  intro n
  induction n with
  | zero =>
   intro s hs; have hd : X.drop s = [] := List.drop_eq_nil_of_le (by omega); have e : nz X c s = s := by unfold nz; rw [hd]; rfl
   rw [e]; exact ⟨by omega, fun t h1 h2 => by omega, fun h => by omega⟩
  | succ n ih =>
   intro s hs; have hlt : s < X.length := by omega
   have hd : X.drop s = row X s :: X.drop (s + 1) := by
    rw [List.drop_eq_getElem_cons hlt]
    congr 1
    unfold row; rw [List.getD_eq_getElem?_getD, List.getElem?_eq_getElem hlt]; rfl
   by_cases h0 : vo (row X s) c = 0
   .have e : nz X c s = nz X c (s + 1) := by
     unfold nz; rw [hd, List.takeWhile_cons, if_pos (by simp [h0]), List.length_cons]; omega
    obtain ⟨h1, h2, h3⟩ := ih (s + 1) (by omega); rw [e]; refine ⟨h1, fun t ht1 ht2 => ?_, h3⟩; rcases Nat.eq_or_lt_of_le ht1 with rfl | h
    .exact h0
    .exact h2 t h ht2
   .have e : nz X c s = s := by
     unfold nz; rw [hd, List.takeWhile_cons, if_neg (by simpa using h0)]; rfl
    rw [e]; exact ⟨by omega, fun t h1 h2 => by omega, fun _ => h0⟩
 exact fun s hs => key (X.length - s) s (by omega)
theorem Jnc (X : List (List Int)) (c s : Nat) : s <= nz X c s := Nat.le_add_right _ _
theorem Jjk {X : List (List Int)} {c s r : Nat} (hs : s <= r) (hr : r <= X.length) (h1 : ∀ t, s <= t -> t < r -> vo (row X t) c = 0) (h2 : r < X.length -> vo (row X r) c ≠ 0) : r = nz X c s := by
 obtain ⟨a, b, d⟩ := Zu X c s (by omega); have := Jnc X c s; rcases Nat.lt_trichotomy r (nz X c s) with h | h | h
 .exact absurd (b r hs h) (h2 (by omega))
 .exact h
 .exact absurd (h1 _ this h) (d (by omega))
section
variable {p m v : Nat}
theorem YF (a : List Int) (x : Int) (o : List Int) : (adm p m v a x o).length = a.length := by simp [adm]
theorem Jel (a : List Int) (x : Int) (o : List Int) : (adx p m v a x o).length = a.length := by
 unfold adx; split
 .rfl
 .exact YF ..
theorem Jc6 (x : Int) (l : List Int) : (sc p m v x l).length = l.length := by simp [sc]
theorem Q5 (f : Nat -> Int) (cur : Nat) (X : List (List Int)) : (clr p m v f cur X).length = X.length := by simp [clr]
theorem Q4 {f : Nat -> Int} {cur t : Nat} {X : List (List Int)} (h : t < X.length) : row (clr p m v f cur X) t = if t = cur then row X t else adx p m v (row X t) (f t) (row X cur) := Zq h
theorem Y7 {a o : List Int} {x : Int} {t : Nat} (h : t < a.length) : vo (adm p m v a x o) t = if vo o t = 0 then vo a t else Ad p m (vo a t) (Ml p m v x (vo o t)) := Jko h
theorem Jev {x : Int} {l : List Int} {t : Nat} (h : t < l.length) : vo (sc p m v x l) t = Ml p m v x (vo l t) := by
 unfold vo sc; rw [List.getD_eq_getElem?_getD, List.getElem?_map, List.getD_eq_getElem?_getD, List.getElem?_eq_getElem h]; rfl
end
section
variable {F : GFv} {p m v g : Nat} {P M : Int} {mf : List Int} {X : List (List Int)}
theorem Jbl {l : List Int} {Q : Bool -> Prop} (K : GFk F p m v g) (hl : l.length <= 1000000) (h1 : Elr p m l -> Q true) (h2 : ¬ Elr p m l -> Q false) : Yb F l Q := by
 refine ⟨fun z => ∃ t : Nat, z = t /\ t <= l.length /\ ∀ k, k < t -> El p m (vo l k), fun z => (l.length - z).toNat, ⟨0, rfl, Nat.zero_le _, fun k h => by omega⟩, ?_⟩; rintro _ ⟨t, rfl, ht, hk⟩; dsimp only; rw [JW]; refine ⟨fun hlt => ⟨⟨by omega, by omega⟩, v_Is K ?_⟩, fun hge => h1 fun x hx => ?_⟩
 .by_cases he : El p m (vo l t)
  .rw [decide_eq_true (show 0 <= vo l t /\ vo l t < ((p ^ m : Nat) : Int) from he)]; refine ⟨fun h => absurd h (by decide), fun _ => ⟨Jz (by omega) (by omega), ⟨t + 1, by push_cast; rfl, by omega, fun k hk' => ?_⟩, by omega⟩⟩; rcases Nat.lt_or_ge k t with h | h
   .exact hk k h
   .rw [show k = t by omega]; exact he
  .rw [decide_eq_false (show ¬ (0 <= vo l t /\ vo l t < ((p ^ m : Nat) : Int)) from he)]; exact ⟨fun _ => h2 fun h => he (h _ (Jaq (by omega))), fun h => absurd h (by decide)⟩
 .obtain ⟨t', h3, rfl⟩ := Jlf hx; exact hk t' (by omega)
theorem Jet {l : List Int} {Q : Int -> Prop} (hF : FV P M mf p m v) (hl : l.length <= 1000000) (h1 : Elr p m l -> Q 0) (h2 : ¬ Elr p m l -> Q 2) : Jag P M mf l Q := by
 refine ⟨fun z => ∃ t : Nat, z = t /\ t <= l.length /\ ∀ k, k < t -> El p m (vo l k), fun z => (l.length - z).toNat, ⟨0, rfl, Nat.zero_le _, fun k h => by omega⟩, ?_⟩; rintro _ ⟨t, rfl, ht, hk⟩; dsimp only; rw [JW]; refine ⟨fun hlt => ⟨⟨by omega, by omega⟩, _, v_rIs hF rfl, ?_⟩, fun hge => h1 fun x hx => ?_⟩
 .by_cases he : El p m (vo l t)
  .rw [decide_eq_true (show 0 <= vo l t /\ vo l t < ((p ^ m : Nat) : Int) from he)]; refine ⟨fun h => absurd h (by decide), fun _ => ⟨Jz (by omega) (by omega), ⟨t + 1, by push_cast; rfl, by omega, fun k hk' => ?_⟩, by omega⟩⟩; rcases Nat.lt_or_ge k t with h | h
   .exact hk k h
   .rw [show k = t by omega]; exact he
  .rw [decide_eq_false (show ¬ (0 <= vo l t /\ vo l t < ((p ^ m : Nat) : Int)) from he)]; exact ⟨fun _ => h2 fun h => he (h _ (Jaq (by omega))), fun h => absurd h (by decide)⟩
 .obtain ⟨t', h3, rfl⟩ := Jlf hx; exact hk t' (by omega)
def shp (C : Int) (X : List (List Int)) : Prop := 0 <= C /\ C <= 256 /\ X.length <= 256 /\ ∀ r ∈ X, (r.length : Int) = C
theorem Jkn {C : Int} {Q : Bool -> Prop} (h1 : shp C X -> Q true) (h2 : ¬ shp C X -> Q false) : Zj C X Q := by
 refine ⟨fun h => h2 fun s => by have := s.1; omega, fun h0 => ⟨fun h => h2 fun s => by have := s.2.1; omega, fun h3 => ⟨fun h => h2 fun s => by have := s.2.2.1; omega, fun h4 => ?_⟩⟩⟩; refine ⟨fun z => ∃ t : Nat, z = t /\ t <= X.length /\ ∀ k, k < t -> ((row X k).length : Int) = C, fun z => (X.length - z).toNat, ⟨0, rfl, Nat.zero_le _, fun k h => by omega⟩, ?_⟩; rintro _ ⟨t, rfl, ht, hk⟩; dsimp only; refine ⟨fun hlt => ⟨⟨by omega, by omega⟩, fun hne => h2 fun s => hne (s.2.2.2 _ (Z4 (by omega))), fun he => ⟨Jz (by omega) (by omega), ⟨t + 1, by push_cast; rfl, by omega, fun k hk' => ?_⟩, by omega⟩⟩, fun hge => h1 ⟨by omega, by omega, by omega, fun r hr => ?_⟩⟩
 .rcases Nat.lt_or_ge k t with h | h
  .exact hk k h
  .rw [show k = t by omega]; exact Classical.not_not.1 he
 .obtain ⟨t', h3, rfl⟩ := YE hr; exact hk t' (by omega)
theorem Jao {Q : List (List Int) -> Prop} (hX : X.length <= 1000000) (hr : ∀ r ∈ X, r.length <= 1000000) (h : Q X) : YS X Q := by
 refine ⟨⟨by omega, by omega, by omega⟩, fun x z => ∃ t : Nat, z = t /\ t <= X.length /\ x.length = X.length /\ ∀ k, k < t -> row x k = row X k, fun x z => (X.length - z).toNat, ⟨0, rfl, Nat.zero_le _, by simp, fun k h => by omega⟩, ?_⟩; rintro x _ ⟨t, rfl, ht, hx, hk⟩; dsimp only; refine ⟨fun hlt => ⟨⟨by omega, by omega⟩, Jeb (hr _ (Z4 (t := t) (by omega))) ⟨⟨by omega, by omega⟩, Jz (by omega) (by omega), ⟨t + 1, by push_cast; rfl, by omega, ?_, fun k hk' => ?_⟩, ?_⟩⟩, fun hge => ?_⟩
 .rw [Jcc]; exact hx
 .show row (x.set t (row X t)) k = row X k; rw [QH]; by_cases e : t = k
  .rw [if_pos ⟨e, by omega⟩, e]
  .rw [if_neg (fun h => e h.1)]; exact hk k (by omega)
 .omega
 .rw [show x = X from QE hx fun i hi => hk i (by omega)]; exact h
theorem Jte {c s : Nat} {Q : Int -> Prop} (hs : s <= X.length) (hX : X.length <= 1000000) (hc : ∀ t, t < X.length -> c < (row X t).length) (h : Q ((nz X c s : Nat) : Int)) : Yy X s c Q := by
 refine ⟨fun r => r = ((nz X c s : Nat) : Int), ⟨fun z => ∃ t : Nat, z = t /\ s <= t /\ t <= X.length /\ ∀ k, s <= k -> k < t -> vo (row X k) c = 0, fun z => (X.length - z).toNat, ⟨s, rfl, Nat.le_refl _, hs, fun k h1 h2 => by omega⟩, ?_⟩, ?_⟩
 .rintro _ ⟨t, rfl, h1, h2, h3⟩; dsimp only; refine ⟨fun hlt => ⟨⟨by omega, by omega⟩, ⟨by omega, by have := hc t (by omega); show (c : Int) < ((row X t).length : Nat); omega⟩, fun he => ⟨Jz (by omega) (by omega), ⟨t + 1, by push_cast; rfl, by omega, by omega, fun k hk1 hk2 => ?_⟩, by omega⟩, fun hne => ?_⟩, fun hge => ?_⟩
  .rcases Nat.lt_or_ge k t with h | h
   .exact h3 k hk1 h
   .rw [show k = t by omega]; exact he
  .exact congrArg _ (Jjk h1 h2 h3 fun _ => hne)
  .exact congrArg _ (Jjk h1 h2 h3 fun h => by omega)
 .rintro _ rfl; exact h
theorem ZB {a o : List Int} {x : Int} {Q : List Int -> Prop} (K : GFk F p m v g) (hl : o.length <= a.length) (ha : a.length <= 1000000) (h : Q (adx p m v a x o)) : J7 F a x o Q := by
 refine ⟨fun h0 => by unfold adx at h; rwa [if_pos h0] at h, fun h0 => ?_⟩; unfold adx at h; rw [if_neg h0] at h; refine ⟨fun y z => ∃ t : Nat, z = t /\ t <= o.length /\ y.length = a.length /\ ∀ k, k < a.length -> vo y k = if k < t then vo (adm p m v a x o) k else vo a k, fun y z => (o.length - z).toNat, ⟨0, rfl, Nat.zero_le _, rfl, fun k hk => by simp⟩, ?_⟩; rintro y _ ⟨t, rfl, ht, hy, hk⟩; dsimp only; rw [JW, JW]; refine ⟨fun hlt => ⟨fun y' => y'.length = a.length /\ ∀ k, k < a.length -> vo y' k = if k < t + 1 then vo (adm p m v a x o) k else vo a k, ⟨⟨by omega, by omega⟩, fun hne => ⟨⟨by omega, by omega⟩, _, Jmp K rfl, _, v_Add K rfl, ⟨by omega, by omega⟩, ?_⟩, fun he => ?_⟩, ?_⟩, fun hge => ?_⟩
 .rw [QD]; refine ⟨by rw [List.length_set]; exact hy, fun k hk' => ?_⟩; rw [J8]; by_cases e : t = k
  .subst e; rw [if_pos ⟨rfl, by omega⟩, if_pos (by omega), Y7 hk', if_neg hne, hk t hk', if_neg (by omega)]; rfl
  .rw [if_neg (fun h => e h.1), hk k hk']; by_cases hkt : k < t
   .rw [if_pos hkt, if_pos (by omega)]
   .rw [if_neg hkt, if_neg (by omega)]
 .have he' : vo o t = 0 := Classical.not_not.1 he; refine ⟨hy, fun k hk' => ?_⟩; rw [hk k hk']; by_cases e : k = t
  .subst e; rw [if_neg (by omega), if_pos (by omega), Y7 hk', if_pos he']
  .by_cases hkt : k < t
   .rw [if_pos hkt, if_pos (by omega)]
   .rw [if_neg hkt, if_neg (by omega)]
 .rintro y' ⟨h1, h2⟩; exact ⟨Jz (by omega) (by omega), ⟨t + 1, by push_cast; rfl, by omega, h1, h2⟩, by omega⟩
 .have : y = adm p m v a x o := YU (by rw [YF]; exact hy) fun i hi => by
   rw [hk i (by omega)]; by_cases hit : i < t
   .rw [if_pos hit]
   .rw [if_neg hit, Y7 (by omega), if_pos (Jb9 (by omega))]
  rw [this]; exact h
theorem Jml {x : Int} {l : List Int} {Q : List Int -> Prop} (K : GFk F p m v g) (hl : l.length <= 1000) (h : Q (sc p m v x l)) : Jak F x l Q := Jtk K hl fun r h1 h2 => by
 have : r = sc p m v x l := YU (by rw [Jc6]; exact h1) fun i hi => by rw [h2 i (by omega), Jev (by omega)]; rfl
 rw [this]; exact h
theorem Jpw {x : Int} {l : List Int} {Q : List Int -> Prop} (hF : FV P M mf p m v) (hl : l.length <= 1000) (h : Q (sc p m v x l)) : Jcv P M mf x l Q := by
 refine ⟨⟨by omega, by omega, by omega⟩, fun y z => ∃ t : Nat, z = t /\ t <= l.length /\ y.length = l.length /\ ∀ k, k < t -> vo y k = vo (sc p m v x l) k, fun y z => (l.length - z).toNat, ⟨0, rfl, Nat.zero_le _, by simp, fun k h => by omega⟩, ?_⟩; rintro y _ ⟨t, rfl, ht, hy, hk⟩; dsimp only; rw [JW]; refine ⟨fun hlt => ⟨⟨by omega, by omega⟩, _, Jks hF rfl, ⟨by omega, by omega⟩, Jz (by omega) (by omega), ⟨t + 1, by push_cast; rfl, by omega, ?_, fun k hk' => ?_⟩, by omega⟩, fun hge => ?_⟩
 .rw [QD, List.length_set]; exact hy
 .rw [QD, J8]; by_cases e : t = k
  .subst e; rw [if_pos ⟨rfl, by omega⟩, Jev (by omega)]; rfl
  .rw [if_neg (fun h => e h.1)]; exact hk k (by omega)
 .rw [show y = sc p m v x l from YU (by rw [Jc6]; exact hy) fun i hi => hk i (by omega)]; exact h
theorem Jpx {a u : List Int} {x : Int} {Q : List Int -> Prop} (hF : FV P M mf p m v) (hl : a.length <= u.length) (ha : a.length <= 1000000) (h : Q (adm p m v a x u)) : Jcy P M mf a x u Q := by
 refine ⟨⟨by omega, by omega, by omega⟩, fun y z => ∃ t : Nat, z = t /\ t <= a.length /\ y.length = a.length /\ ∀ k, k < t -> vo y k = vo (adm p m v a x u) k, fun y z => (a.length - z).toNat, ⟨0, rfl, Nat.zero_le _, by simp, fun k h => by omega⟩, ?_⟩; rintro y _ ⟨t, rfl, ht, hy, hk⟩; dsimp only; rw [JW, JW]; refine ⟨fun hlt => ⟨fun y' => y'.length = a.length /\ ∀ k, k < t + 1 -> vo y' k = vo (adm p m v a x u) k, ⟨⟨by omega, by omega⟩, ⟨by omega, by omega⟩, ⟨by omega, by omega⟩, fun hne => ⟨⟨by omega, by omega⟩, ⟨by omega, by omega⟩, _, Jks hF rfl, _, v_rAdd hF rfl, ⟨by omega, by omega⟩, ?_⟩, fun he => ?_⟩, ?_⟩, fun hge => ?_⟩
 .rw [QD, QD]; refine ⟨by rw [List.length_set, List.length_set]; exact hy, fun k hk' => ?_⟩; rw [J8, List.length_set]; by_cases e : t = k
  .subst e; rw [if_pos ⟨rfl, by omega⟩, Y7 (by omega), if_neg hne]; rfl
  .rw [if_neg (fun h => e h.1), J8, if_neg (fun h => e h.1)]; exact hk k (by omega)
 .have he' : vo u t = 0 := Classical.not_not.1 he; rw [QD]; refine ⟨by rw [List.length_set]; exact hy, fun k hk' => ?_⟩; rw [J8]; by_cases e : t = k
  .subst e; rw [if_pos ⟨rfl, by omega⟩, Y7 (by omega), if_pos he']
  .rw [if_neg (fun h => e h.1)]; exact hk k (by omega)
 .rintro y' ⟨h1, h2⟩; exact ⟨Jz (by omega) (by omega), ⟨t + 1, by push_cast; rfl, by omega, h1, h2⟩, by omega⟩
 .rw [show y = adm p m v a x u from YU (by rw [YF]; exact hy) fun i hi => hk i (by omega)]; exact h
theorem Jtd {Q : List (List Int) -> Prop} (hX : X.length <= 1000000) (hr : ∀ r ∈ X, r.length <= 1000000) (h : Q X) : Jep X Q := by
 refine ⟨fun x z => ∃ t : Nat, z = t /\ t <= X.length /\ x = X.take t, fun x z => (X.length - z).toNat, ⟨0, rfl, Nat.zero_le _, rfl⟩, ?_⟩; rintro _ _ ⟨t, rfl, ht, rfl⟩; dsimp only; refine ⟨fun hlt => ?_, fun hge => by rw [List.take_of_length_le (by omega)]; exact h⟩; have h1 := hr _ (Z4 (t := t) (X := X) (by omega)); refine ⟨⟨by omega, by omega⟩, ?_, ?_, Jz (by omega) (by omega), ⟨t + 1, by push_cast; rfl, by omega, ?_⟩, by omega⟩
 .show ((0 : Nat) + ((row X t).length : Nat) : Int) * 8 <= _; omega
 .rw [List.length_take]; omega
 .show X.take t ++ [[] ++ row X t] = _; rw [List.take_add_one, Jab (d := []) (by omega)]; rfl
theorem Zn {a : List Int} {Q : Bool -> Prop} (ha : a.length <= 1000000) (h : Q true) : Q2 a a Q := by
 refine ⟨fun hne => absurd rfl hne, fun _ => ⟨fun z => ∃ t : Nat, z = t /\ t <= a.length, fun z => (a.length - z).toNat, ⟨0, rfl, Nat.zero_le _⟩, ?_⟩⟩; rintro _ ⟨t, rfl, ht⟩; dsimp only; exact ⟨fun hlt => ⟨⟨by omega, by omega⟩, ⟨by omega, by omega⟩, fun hne => absurd rfl hne, fun _ => ⟨Jz (by omega) (by omega), ⟨t + 1, by push_cast; rfl, by omega⟩, by omega⟩⟩, fun _ => h⟩
theorem Jiq {Q : Bool -> Prop} (hX : X.length <= 1000000) (hr : ∀ r ∈ X, r.length <= 1000000) (h : Q true) : Zy X X Q := by
 refine ⟨fun hne => absurd rfl hne, fun _ => ⟨fun z => ∃ t : Nat, z = t /\ t <= X.length, fun z => (X.length - z).toNat, ⟨0, rfl, Nat.zero_le _⟩, ?_⟩⟩; rintro _ ⟨t, rfl, ht⟩; dsimp only; exact ⟨fun hlt => ⟨⟨by omega, by omega⟩, ⟨by omega, by omega⟩, _, Zn (hr _ (Z4 (t := t) (X := X) (by omega))) rfl, fun h => absurd h (by decide), fun _ => ⟨Jz (by omega) (by omega), ⟨t + 1, by push_cast; rfl, by omega⟩, by omega⟩⟩, fun _ => h⟩
theorem Zo {C : Int} {Q : Bool -> Prop} (hX : X.length <= 1000000) (hr : ∀ r ∈ X, r.length <= 1000000) (h : Q true) : Y4 C X C X Q := ⟨fun _ => Jiq hX hr h, fun hne => absurd rfl hne⟩
theorem w_rFew {C : Int} {n : Int} {Q : Bool -> Prop} (hn : 0 <= n /\ n <= 1000000) (h1 : C <= 260 -> X.length <= n -> (∀ r ∈ X, (r.length : Int) <= n) -> Q true) (h2 : Q false) : Jij C X n Q := by
 refine ⟨fun _ => h2, fun hC => ⟨fun _ => h2, fun hX => ⟨Jz (by omega) (by omega), fun y z => ∃ t : Nat, z = t /\ t <= X.length /\ 0 <= y /\ y <= n /\ ∀ k, k < t -> ((row X k).length : Int) <= n, fun y z => (X.length - z).toNat, ⟨0, rfl, Nat.zero_le _, by omega, by omega, fun k h => by omega⟩, ?_⟩⟩⟩; rintro y _ ⟨t, rfl, ht, hy, hy2, hk⟩; dsimp only; refine ⟨fun hlt => ⟨⟨by omega, by omega⟩, fun _ => h2, fun hge => ?_⟩, fun hge => h1 (by omega) (by omega) fun r hr => ?_⟩
 .have hge' : ((row X t).length : Int) <= y := by
   have : ¬ (y < (((row X t).length : Nat) : Int)) := hge; omega
  have hg : gl X (t : Int) = row X t := rfl; rw [hg]; refine ⟨⟨by omega, by omega⟩, Jz (by omega) (by omega), Jz (by omega) (by omega), ⟨t + 1, by push_cast; rfl, by omega, by omega, by omega, fun k hk' => ?_⟩, by omega⟩; rcases Nat.lt_or_ge k t with h | h
  .exact hk k h
  .rw [show k = t by omega]; omega
 .obtain ⟨t', h3, rfl⟩ := YE hr; exact hk t' (by omega)
end
end Go.Proofs.Ytlfeialpcdoleaa
set_option linter.unusedVariables false
set_option linter.unusedSimpArgs false
namespace Go.Proofs.Ytlfeialpcdoleaa
structure Shp (n w wy : Nat) (S : ES) : Prop where
  xl : S.X.length = n
  xr : ∀ t, t < n -> (row S.X t).length = w
  yl : S.Y.length = n
  yr : ∀ t, t < n -> (row S.Y t).length = wy
  pl : S.pv.length <= n
section
variable {p m v n w wy : Nat}
theorem Jiy {X : List (List Int)} {i j t w : Nat} (hi : i < X.length) (hj : j < X.length) (h : ∀ t, t < X.length -> (row X t).length = w) (ht : t < X.length) : (row (swp X i j) t).length = w := by
 rw [Zp hi hj]; split
 .exact h _ hi
 .split
  .exact h _ hj
  .exact h _ ht
def swq (X : List (List Int)) (r cur : Nat) : List (List Int) := if r = cur then X else swp X r cur
theorem JL (X : List (List Int)) (r cur : Nat) : (swq X r cur).length = X.length := by
 unfold swq; split
 .rfl
 .exact Jed ..
theorem QO {X : List (List Int)} {i j t w : Nat} (hi : i < X.length) (hj : j < X.length) (h : ∀ t, t < X.length -> (row X t).length = w) (ht : t < X.length) : (row (swq X i j) t).length = w := by
 unfold swq; split
 .exact h _ ht
 .exact Jiy hi hj h ht
def scq (p m v : Nat) (X : List (List Int)) (cur : Nat) (e : Int) : List (List Int) := X.set cur (sc p m v (Iv p m v e) (row X cur))
theorem Qa (X : List (List Int)) (cur : Nat) (e : Int) : (scq p m v X cur e).length = X.length := by simp [scq]
theorem QP {X : List (List Int)} {cur t w : Nat} {e : Int} (hc : cur < X.length) (h : ∀ t, t < X.length -> (row X t).length = w) (ht : t < X.length) : (row (scq p m v X cur e) t).length = w := by
 unfold scq; rw [QH]; split
 .rw [Jc6]; exact h _ hc
 .exact h _ ht
theorem Jd1 {X : List (List Int)} {f : Nat -> Int} {cur t w : Nat} (h : ∀ t, t < X.length -> (row X t).length = w) (ht : t < X.length) : (row (clr p m v f cur X) t).length = w := by
 rw [Q4 ht]; split
 .exact h _ ht
 .rw [Jel]; exact h _ ht
theorem Zc (c r cur : Nat) (S : ES) : (es1 p m v c r cur S).X = clr p m v (fun t => Ng p m (vo (row (scq p m v (swq S.X r cur) cur (vo (row (swq S.X r cur) cur) c)) t) c)) cur (scq p m v (swq S.X r cur) cur (vo (row (swq S.X r cur) cur) c)) := rfl
theorem Jgu (c r cur : Nat) (S : ES) : (es1 p m v c r cur S).Y = clr p m v (fun t => Ng p m (vo (row (scq p m v (swq S.X r cur) cur (vo (row (swq S.X r cur) cur) c)) t) c)) cur (scq p m v (swq S.Y r cur) cur (vo (row (swq S.X r cur) cur) c)) := rfl
theorem Jum {c r cur : Nat} {S : ES} (h : Shp n w wy S) (hr : r < n) (hc : cur < n) (hp : S.pv.length < n) : Shp n w wy (es1 p m v c r cur S) := by
 have hx := h.xl; have hy := h.yl; have ax : ∀ t, t < S.X.length -> (row S.X t).length = w := fun t ht => h.xr t (by omega); have ay : ∀ t, t < S.Y.length -> (row S.Y t).length = wy := fun t ht => h.yr t (by omega); refine ⟨?_, fun t ht => ?_, ?_, fun t ht => ?_, ?_⟩
 .rw [Zc, Q5, Qa, JL]; exact hx
 .rw [Zc]; refine Jd1 (fun t ht => ?_) (by rw [Qa, JL]; omega); rw [Qa, JL] at ht; refine QP (by rw [JL]; omega) (fun t ht => ?_) (by rw [JL]; omega); rw [JL] at ht; exact QO (by omega) (by omega) ax ht
 .rw [Jgu, Q5, Qa, JL]; exact hy
 .rw [Jgu]; refine Jd1 (fun t ht => ?_) (by rw [Qa, JL]; omega); rw [Qa, JL] at ht; refine QP (by rw [JL]; omega) (fun t ht => ?_) (by rw [JL]; omega); rw [JL] at ht; exact QO (by omega) (by omega) ay ht
 .show (S.pv ++ [(c : Int)]).length <= n; rw [List.length_append]; simp; omega
theorem Jo0 {c : Nat} {S : ES} (h : Shp n w wy S) : Shp n w wy (Qv p m v S c) := by
 unfold Qv; split
 .rename_i hc
  exact Jum h (by have := h.xl; omega) (by have := h.xl; omega) (by have := h.xl; omega)
 .exact h
theorem Qs (k : Nat) (S : ES) : elim p m v (k + 1) S = Qv p m v (elim p m v k S) k := by
 unfold elim; rw [List.range_succ, List.foldl_append]; rfl
theorem QL {S : ES} (h : Shp n w wy S) : ∀ k, Shp n w wy (elim p m v k S)
 | 0 => h
 | k + 1 => by rw [Qs]; exact Jo0 (QL h k)
theorem Jdk {S : ES} {k : Nat} (h : ¬ (elim p m v k S).pv.length < (elim p m v k S).X.length) : ∀ j, elim p m v (k + j) S = elim p m v k S
 | 0 => rfl
 | j + 1 => by
  rw [<- Nat.add_assoc, Qs, Jdk h j]; unfold Qv; rw [if_neg (fun hc => h hc.1)]
end
section
variable {F : GFv} {p m v g : Nat} {P M : Int} {mf : List Int} {X Y : List (List Int)}
theorem Jn9 (R : CR (p ^ m) (JU p m) (Jv p m (dv p v))) {x : Int} {z : Nat} (hx : inE (p ^ m) x < p ^ m) (hz : z < p ^ m) (h : Jv p m (dv p v) z (inE (p ^ m) x) = 1) : Iv p m v x = (z : Int) := by
 unfold Iv; cases hf : (List.range (p ^ m)).find? fun z => Jv p m (dv p v) z (inE (p ^ m) x) == 1 with
 | none =>
  have := List.find?_eq_none.1 hf z (List.mem_range.2 hz); simp [h] at this
 | some y =>
  have h1 := List.find?_some hf; have h2 := List.mem_range.1 (List.mem_of_find?_eq_some hf); have h1' : Jv p m (dv p v) y (inE (p ^ m) x) = 1 := by simpa using h1
  show (y : Int) = z; have e : y = z := by
   have q1 : 1 < p ^ m := R.q2
   calc y = Jv p m (dv p v) y 1 := (R.M1 h2).symm
    _ = Jv p m (dv p v) y (Jv p m (dv p v) z (inE (p ^ m) x)) := by rw [h]
    _ = Jv p m (dv p v) y (Jv p m (dv p v) (inE (p ^ m) x) z) := by rw [R.Mc hz hx]
    _ = Jv p m (dv p v) (Jv p m (dv p v) y (inE (p ^ m) x)) z := (R.Ma h2 hx hz).symm
    _ = Jv p m (dv p v) 1 z := by rw [h1']
    _ = Jv p m (dv p v) z 1 := R.Mc q1 hz
    _ = z := R.M1 hz
  rw [e]
theorem Jvh (R : CR (p ^ m) (JU p m) (Jv p m (dv p v))) {x : Int} (hx : inE (p ^ m) x = 0) : Iv p m v x = 0 := by
 unfold Iv; cases hf : (List.range (p ^ m)).find? fun z => Jv p m (dv p v) z (inE (p ^ m) x) == 1 with
 | none => rfl
 | some y =>
  have h1 := List.find?_some hf; have h2 := List.mem_range.1 (List.mem_of_find?_eq_some hf); rw [hx, R.M0 h2] at h1; simp at h1
def prt (p m v : Nat) (f : Nat -> Int) (cur t : Nat) (X : List (List Int)) : List (List Int) := (List.range X.length).map fun s => if s < t /\ s ≠ cur then adx p m v (row X s) (f s) (row X cur) else row X s
theorem Ym (f : Nat -> Int) (cur t : Nat) (X : List (List Int)) : (prt p m v f cur t X).length = X.length := by simp [prt]
theorem Q3 {f : Nat -> Int} {cur t s : Nat} (h : s < X.length) : row (prt p m v f cur t X) s = if s < t /\ s ≠ cur then adx p m v (row X s) (f s) (row X cur) else row X s := Zq h
theorem Jfa (f : Nat -> Int) (cur : Nat) : prt p m v f cur 0 X = X := QE (Ym ..) fun i hi => by
 rw [Ym] at hi; rw [Q3 hi, if_neg (by omega)]
theorem Jhe (f : Nat -> Int) (cur : Nat) : prt p m v f cur X.length X = clr p m v f cur X := QE (by rw [Ym, Q5]) fun i hi => by
 rw [Ym] at hi; rw [Q3 hi, Q4 hi]; by_cases h : i = cur
 .rw [if_neg (fun hh => hh.2 h), if_pos h]
 .rw [if_pos ⟨hi, h⟩, if_neg h]
theorem prt_same {f : Nat -> Int} {cur : Nat} : prt p m v f cur (cur + 1) X = prt p m v f cur cur X := QE (by rw [Ym, Ym]) fun i hi => by
 rw [Ym] at hi; rw [Q3 hi, Q3 hi]; by_cases h : i = cur
 .rw [if_neg (fun hh => hh.2 h), if_neg (fun hh => hh.2 h)]
 .by_cases h1 : i < cur
  .rw [if_pos ⟨by omega, h⟩, if_pos ⟨h1, h⟩]
  .rw [if_neg (fun hh => h1 (by omega)), if_neg (fun hh => h1 hh.1)]
theorem Jce {f : Nat -> Int} {cur t : Nat} (ht : t < X.length) (hc : t ≠ cur) : (prt p m v f cur t X).set t (adx p m v (row X t) (f t) (row X cur)) = prt p m v f cur (t + 1) X := QE (by rw [List.length_set, Ym, Ym]) fun i hi => by
 rw [List.length_set, Ym] at hi; rw [QH, Ym, Q3 (t := t + 1) hi]; by_cases h : t = i
 .subst h; rw [if_pos ⟨rfl, ht⟩, if_pos ⟨by omega, hc⟩]
 .rw [if_neg (fun hh => h hh.1), Q3 hi]; by_cases h1 : i < t
  .by_cases h2 : i = cur
   .rw [if_neg (fun hh => hh.2 h2), if_neg (fun hh => hh.2 h2)]
   .rw [if_pos ⟨h1, h2⟩, if_pos ⟨by omega, h2⟩]
  .rw [if_neg (fun hh => h1 hh.1), if_neg (fun hh => h1 (by omega))]
theorem YJ {cols wy : Nat} {Q : List Int × Int × List (List Int) × List (List Int) -> Prop} (K : GFk F p m v g) (hX : X.length <= 300) (hc : cols <= 300) (hw : wy <= 300) (hS : Shp X.length cols wy ⟨X, Y, [], 1⟩)
  (h : Q ((elim p m v cols ⟨X, Y, [], 1⟩).pv, (elim p m v cols ⟨X, Y, [], 1⟩).d, (elim p m v cols ⟨X, Y, [], 1⟩).X, (elim p m v cols ⟨X, Y, [], 1⟩).Y)) : J3 F cols X Y Q := by
 have hYl : Y.length = X.length := hS.yl; generalize hS0 : (⟨X, Y, [], 1⟩ : ES) = S0 at h hS; refine ⟨fun a b c d => (⟨a, b, c, d⟩ : ES) = elim p m v cols S0, ⟨fun a b c d z => ∃ k : Nat, z = k /\ k <= cols /\ (⟨a, b, c, d⟩ : ES) = elim p m v k S0, fun _ _ _ _ z => (cols - z).toNat, ⟨0, rfl, Nat.zero_le _, hS0⟩, ?_⟩, ?_⟩
 .rintro a b c d _ ⟨k, rfl, hk, he⟩; have hs := QL (p := p) (m := m) (v := v) hS k; have hstop := Jdk (p := p) (m := m) (v := v) (S := S0) (k := k); have hsucc := Qs (p := p) (m := m) (v := v) k S0; rw [<- he] at hs hstop hsucc; have hal : a.length = X.length := hs.xl; have hbl : b.length = X.length := hs.yl; have har := hs.xr; have hbr := hs.yr; have hpl : c.length <= X.length := hs.pl; simp only at har hbr; refine ⟨fun hlt => ⟨fun hlc => ?_, fun hge => ?_⟩, fun hge => ?_⟩
  .have hcur : c.length < X.length := by omega
   have hkc : k < cols := by omega
   refine ⟨fun pv x y d' _ _ => (⟨x, y, pv, d'⟩ : ES) = elim p m v (k + 1) S0, Jte (by omega) (by omega) (fun t ht => by rw [har t (by omega)]; exact hkc) ?_, ?_⟩
   .refine ⟨fun heq => ?_, fun hne => ?_⟩
    .rw [hsucc]; unfold Qv; rw [if_neg (fun hh => by have := hh.2; simp only at this; omega)]
    .have hnz := (Zu a k c.length (by omega)).1; have hr : nz a k c.length < X.length := by omega
     generalize hrr : nz a k c.length = r at hr hne; rw [show Qv p m v ⟨a, b, c, d⟩ k = es1 p m v k r c.length ⟨a, b, c, d⟩ by unfold Qv; rw [if_pos ⟨by simp only; omega, by simp only; omega⟩, <- hrr]] at hsucc; refine ⟨fun x y d' => x = swq a r c.length /\ y = swq b r c.length /\ d' = (if r = c.length then d else Ng p m d), ⟨fun hrc => ⟨⟨by omega, by omega⟩, ⟨by omega, by omega⟩, ⟨by omega, by omega⟩, ⟨by omega, by omega⟩, ⟨by omega, by omega⟩, ⟨by omega, by omega⟩, ⟨by omega, by omega⟩, ⟨by omega, by omega⟩, Jqf K ?_⟩, fun hrc => ?_⟩, ?_⟩
     .have hrc' : r ≠ c.length := fun e => hrc (by rw [e]); refine ⟨?_, ?_, by rw [if_neg hrc']; rfl⟩
      .unfold swq; rw [if_neg hrc']; rfl
      .unfold swq; rw [if_neg hrc']; rfl
     .have hrc' : r = c.length := by have := Classical.not_not.1 hrc; omega
      refine ⟨?_, ?_, by rw [if_pos hrc']⟩
      .unfold swq; rw [if_pos hrc']
      .unfold swq; rw [if_pos hrc']
     .rintro _ _ _ ⟨rfl, rfl, rfl⟩; have hx1 : ∀ t, t < X.length -> (row (swq a r c.length) t).length = cols := fun t ht => QO (by omega) (by omega) (fun t ht => har t (by omega)) (by omega); have hy1 : ∀ t, t < X.length -> (row (swq b r c.length) t).length = wy := fun t ht => QO (by omega) (by omega) (fun t ht => hbr t (by omega)) (by omega); have hl1 := JL a r c.length; have hl2 := JL b r c.length; have hxs := Zc (p := p) (m := m) (v := v) k r c.length ⟨a, b, c, d⟩; have hys := Jgu (p := p) (m := m) (v := v) k r c.length ⟨a, b, c, d⟩; have hds : (es1 p m v k r c.length ⟨a, b, c, d⟩).d = Ml p m v (if r = c.length then d else Ng p m d) (vo (row (swq a r c.length) c.length) k) := rfl; have hps : (es1 p m v k r c.length ⟨a, b, c, d⟩).pv = c ++ [(k : Int)] := rfl; simp only at hxs hys; generalize swq a r c.length = x1 at *
      generalize swq b r c.length = y1 at *
      have he1 : gi (gl x1 (c.length : Nat)) (k : Int) = vo (row x1 c.length) k := rfl; refine ⟨⟨by omega, by omega⟩, ⟨by omega, ?_⟩, _, Jmp K rfl, fun z => z = Iv p m v (vo (row x1 c.length) k), ⟨⟨by omega, by omega⟩, ⟨by omega, ?_⟩, Iv p m v (vo (row x1 c.length) k), ?_⟩, ?_⟩
      .show (k : Int) < ((row x1 c.length).length : Nat); rw [hx1 _ hcur]; omega
      .show (k : Int) < ((row x1 c.length).length : Nat); rw [hx1 _ hcur]; omega
      .by_cases h0 : inE (p ^ m) (vo (row x1 c.length) k) = 0
       .exact ⟨7, v_Inv K (fun _ => by rw [Jvh K.fv.ring h0]) (fun z h1 => absurd h0 h1), rfl⟩
       .exact ⟨0, v_Inv K (fun h1 => absurd h1 h0) (fun z h1 h2 h3 => by have e := Jn9 (x := vo (row x1 c.length) k) K.fv.ring (Qe (by have := K.fv.ring.q2; omega) _) h2 h3; rw [e]), rfl⟩
      .rintro _ rfl; have hsx : sll x1 (c.length : Int) (sc p m v (Iv p m v (vo (row x1 c.length) k)) (row x1 c.length)) = scq p m v x1 c.length (vo (row x1 c.length) k) := rfl; have hsy : sll y1 (c.length : Int) (sc p m v (Iv p m v (vo (row x1 c.length) k)) (row y1 c.length)) = scq p m v y1 c.length (vo (row x1 c.length) k) := rfl; refine ⟨⟨by omega, by omega⟩, _, Jml K (by show (row x1 c.length).length <= 1000; rw [hx1 _ hcur]; omega) rfl, ⟨by omega, by omega⟩, ⟨by omega, by omega⟩, _, Jml K (by show (row y1 c.length).length <= 1000; rw [hy1 _ hcur]; omega) rfl, ⟨by omega, by omega⟩, ?_⟩; have hx2 : ∀ t, t < X.length -> (row (scq p m v x1 c.length (vo (row x1 c.length) k)) t).length = cols := fun t ht => QP (by omega) (fun t ht => hx1 t (by omega)) (by omega); have hy2 : ∀ t, t < X.length -> (row (scq p m v y1 c.length (vo (row x1 c.length) k)) t).length = wy := fun t ht => QP (by omega) (fun t ht => hy1 t (by omega)) (by omega); have hl3 := Qa (p := p) (m := m) (v := v) x1 c.length (vo (row x1 c.length) k); have hl4 := Qa (p := p) (m := m) (v := v) y1 c.length (vo (row x1 c.length) k); generalize scq p m v x1 c.length (vo (row x1 c.length) k) = x2 at *
       generalize scq p m v y1 c.length (vo (row x1 c.length) k) = y2 at *
       have hfm : ∀ t, t < X.length -> vo (row (prt p m v (fun t => Ng p m (vo (row x2 t) k)) c.length t x2) t) k = vo (row x2 t) k := fun t ht => by
        rw [Q3 (by omega), if_neg (by omega)]
       generalize hf : (fun t => Ng p m (vo (row x2 t) k)) = f at *
       refine ⟨fun x y z => ∃ t : Nat, z = t /\ t <= X.length /\ x = prt p m v f c.length t x2 /\ y = prt p m v f c.length t y2, fun x y z => (X.length - z).toNat, ⟨0, rfl, Nat.zero_le _, hsx.trans (Jfa _ _).symm, hsy.trans (Jfa _ _).symm⟩, ?_⟩; rintro _ _ _ ⟨t, rfl, ht, rfl, rfl⟩; refine ⟨fun hlt2 => ?_, fun hge2 => ?_⟩
       .have htX : t < X.length := by omega
        have hg1 : gl (prt p m v f c.length t x2) (t : Int) = row x2 t := by
         show row (prt p m v f c.length t x2) t = _; rw [Q3 (by omega), if_neg (by omega)]
        have hg2 : gl (prt p m v f c.length t y2) (t : Int) = row y2 t := by
         show row (prt p m v f c.length t y2) t = _; rw [Q3 (by omega), if_neg (by omega)]
        have hg3 : gl (prt p m v f c.length t x2) (c.length : Int) = row x2 c.length := by
         show row (prt p m v f c.length t x2) c.length = _; rw [Q3 (by omega), if_neg (by omega)]
        have hg4 : gl (prt p m v f c.length t y2) (c.length : Int) = row y2 c.length := by
         show row (prt p m v f c.length t y2) c.length = _; rw [Q3 (by omega), if_neg (by omega)]
        rw [hg1, hg2, hg3, hg4]; have hft : Ng p m (gi (row x2 t) (k : Int)) = f t := by rw [<- hf]; rfl
        refine ⟨fun x y z => x = prt p m v f c.length (t + 1) x2 /\ y = prt p m v f c.length (t + 1) y2, ⟨⟨by omega, by omega⟩, ⟨by omega, by rw [hx2 t htX]; omega⟩, _, Jqf K rfl, fun hne2 => ?_, fun he2 => ?_⟩, ?_⟩
        .have hne3 : t ≠ c.length := fun e => hne2 (by rw [e]); have hne4 : (c.length : Int).toNat ≠ (t : Int).toNat := by omega
         refine ⟨⟨by omega, by omega⟩, ⟨by omega, by omega⟩, hne4, ZB K (by rw [hx2 t htX, hx2 _ hcur]; exact Nat.le_refl _) (by rw [hx2 t htX]; omega) ⟨⟨by omega, by omega⟩, ⟨by omega, by omega⟩, hne4, ZB K (by rw [hy2 t htX, hy2 _ hcur]; exact Nat.le_refl _) (by rw [hy2 t htX]; omega) ⟨?_, ?_⟩⟩⟩
         .show (prt p m v f c.length t x2).set t (adx p m v (row x2 t) (Ng p m (gi (row x2 t) (k : Int))) (row x2 c.length)) = _; rw [hft, Jce (by omega) hne3]
         .show (prt p m v f c.length t y2).set t (adx p m v (row y2 t) (Ng p m (gi (row x2 t) (k : Int))) (row y2 c.length)) = _; rw [hft, Jce (by omega) hne3]
        .have he3 : t = c.length := by have := Classical.not_not.1 he2; omega
         subst he3; exact ⟨prt_same.symm, prt_same.symm⟩
        .rintro _ _ _ ⟨rfl, rfl⟩; refine ⟨Jz (by omega) (by omega), ⟨t + 1, by push_cast; rfl, by omega, rfl, rfl⟩, ?_⟩; show ((X.length : Int) - ((t : Int) + 1)).toNat < ((X.length : Int) - (t : Int)).toNat; omega
       .have hte : t = X.length := by omega
        subst hte; refine ⟨by omega, ?_⟩; have e1 := Jhe (p := p) (m := m) (v := v) (X := x2) f c.length; have e2 := Jhe (p := p) (m := m) (v := v) (X := y2) f c.length; rw [show x2.length = X.length by omega] at e1; rw [show y2.length = X.length by omega] at e2; rw [e1, e2, hsucc]; rw [<- hxs, <- hys]; show (⟨_, _, c ++ [(k : Int)], _⟩ : ES) = _; rw [<- hps]; show (⟨(es1 p m v k r c.length ⟨a, b, c, d⟩).X, (es1 p m v k r c.length ⟨a, b, c, d⟩).Y, (es1 p m v k r c.length ⟨a, b, c, d⟩).pv, Ml p m v (if r = c.length then d else Ng p m d) (vo (row x1 c.length) k)⟩ : ES) = _; rw [<- hds]
   .rintro pv x y d' _ _ hE; refine ⟨Jz (by omega) (by omega), ⟨k + 1, by push_cast; rfl, by omega, hE⟩, ?_⟩; show ((cols : Int) - ((k : Int) + 1)).toNat < ((cols : Int) - (k : Int)).toNat; omega
  .have hst := hstop (by show ¬ c.length < a.length; omega) (cols - k); rw [show k + (cols - k) = cols by omega] at hst; exact hst.symm
  .show (⟨a, b, c, d⟩ : ES) = _; rw [he, show k = cols by omega]
 .rintro a b c d he; rw [<- he] at h; exact h
end
end Go.Proofs.Ytlfeialpcdoleaa
set_option linter.unusedVariables false
set_option linter.unusedSimpArgs false
namespace Go.Proofs.Ytlfeialpcdoleaa
section
variable {p m v n w wy : Nat}
theorem Jlu {q : Nat} (h : q < p ^ m) : El p m (q : Int) := ⟨by omega, by omega⟩
theorem Jaw {l : List Int} (h : Elr p m l) {t : Nat} (ht : t < l.length) : El p m (vo l t) := h _ (Jaq ht)
theorem J4 {X : List (List Int)} (h : Els p m X) (t : Nat) : Elr p m (row X t) := by
 rcases Nat.lt_or_ge t X.length with ht | ht
 .exact h _ (Z4 ht)
 .rw [Jk2 ht]; exact fun x hx => by cases hx
theorem YC {X : List (List Int)} (h : ∀ t, t < X.length -> Elr p m (row X t)) : Els p m X := fun r hr => by
 obtain ⟨t, ht, rfl⟩ := YE hr; exact h t ht
theorem Jdj {l : List Int} (h : ∀ t, t < l.length -> El p m (vo l t)) : Elr p m l := fun x hx => by
 obtain ⟨t, ht, rfl⟩ := Jlf hx; exact h t ht
theorem Jk0 (hp : 0 < p) {x : Int} {l : List Int} : Elr p m (sc p m v x l) := Jdj fun t ht => by
 rw [Jc6] at ht; rw [Jev ht]; exact Jlu (Jhx hp _ _)
theorem Juv (hp : 0 < p) {a o : List Int} {x : Int} (ha : Elr p m a) : Elr p m (adm p m v a x o) := Jdj fun t ht => by
 rw [YF] at ht; rw [Y7 ht]; split
 .exact Jaw ha ht
 .exact Jlu (Jnj hp _ _)
theorem Jia (hp : 0 < p) {a o : List Int} {x : Int} (ha : Elr p m a) : Elr p m (adx p m v a x o) := by
 unfold adx; split
 .exact ha
 .exact Juv hp ha
theorem Jhy (hp : 0 < p) {c r cur : Nat} {S : ES} (h : Els p m S.X) (hr : r < S.X.length) (hc : cur < S.X.length) : Els p m (es1 p m v c r cur S).X := by
 rw [Zc]; have h1 : Els p m (swq S.X r cur) := YC fun t ht => by
  rw [JL] at ht; unfold swq; split
  .exact J4 h t
  .rw [Zp hr hc]; split
   .exact J4 h _
   .split <;> exact J4 h _
 have h2 : ∀ e, Els p m (scq p m v (swq S.X r cur) cur e) := fun e => YC fun t ht => by
  unfold scq; rw [QH]; split
  .exact Jk0 hp
  .exact J4 h1 t
 refine YC fun t ht => ?_; rw [Q5] at ht; rw [Q4 ht]; split
 .exact J4 (h2 _) t
 .exact Jia hp (J4 (h2 _) t)
theorem Jo1 (hp : 0 < p) {c : Nat} {S : ES} (h : Els p m S.X) : Els p m (Qv p m v S c).X := by
 unfold Qv; split
 .rename_i hc; exact Jhy hp h hc.2 hc.1
 .exact h
theorem Ze (hp : 0 < p) {S : ES} (h : Els p m S.X) : ∀ k, Els p m (elim p m v k S).X
 | 0 => h
 | k + 1 => by rw [Qs]; exact Jo1 hp (Ze hp h k)
theorem Jlt {S U : ES} (hX : S.X = U.X) (hp : S.pv = U.pv) (c : Nat) : (Qv p m v S c).X = (Qv p m v U c).X /\ (Qv p m v S c).pv = (Qv p m v U c).pv := by
  unfold Qv
  rw [hX, hp]
  split
  . refine ⟨?_, ?_⟩
    . rw [Zc, Zc, hX]
    . show S.pv ++ _ = U.pv ++ _; rw [hp]
  . exact ⟨hX, hp⟩
theorem Jdl {S U : ES} (hX : S.X = U.X) (hp : S.pv = U.pv) : ∀ k, (elim p m v k S).X = (elim p m v k U).X /\ (elim p m v k S).pv = (elim p m v k U).pv
 | 0 => ⟨hX, hp⟩
 | k + 1 => by rw [Qs, Qs]; exact Jlt (Jdl hX hp k).1 (Jdl hX hp k).2 k
end
section
variable {F : GFv} {p m v g : Nat} {P M : Int} {mf : List Int} {X Y : List (List Int)}
theorem Jdg {x : Int} (h : El p m x) : ((inE (p ^ m) x : Nat) : Int) = x := by
 unfold inE; rw [if_pos (show 0 <= x /\ x < ((p ^ m : Nat) : Int) from h)]; have := h.1; omega
theorem Jt3 (hF : FV P M mf p m v) {x : Int} (h : El p m x) : Ng p m x = 0 ↔ x = 0 := by
 have R := hF.ring; have hp := hF.p2; have hx := Qe (q := p ^ m) (by have := R.q2; omega) x; have h1 := Zb (p := p) (m := m) (by omega) hx; constructor
 .intro h0; have h2 : QY p m (inE (p ^ m) x) = 0 := Int.ofNat.inj h0; rw [h2, R.Az hx] at h1; rw [<- Jdg h, h1]; rfl
 .intro h0; have h3 : inE (p ^ m) x = 0 := by rw [h0]; unfold inE; split <;> rfl
  rw [h3] at h1; show ((QY p m (inE (p ^ m) x) : Nat) : Int) = 0; rw [h3]; have h4 : QY p m 0 < p ^ m := Zv (by omega) 0; have h5 : JU p m 0 (QY p m 0) = QY p m 0 := by rw [R.Ac, R.Az h4]
  rw [h5] at h1; rw [h1]; rfl
theorem ml_one (hF : FV P M mf p m v) {x : Int} (h : El p m x) : Ml p m v 1 x = x := by
 have R := hF.ring; have hq := R.q2; have hx := Qe (q := p ^ m) (by omega) x; unfold Ml; rw [show inE (p ^ m) (1 : Int) = 1 from QA (x := 1) (by omega), R.Mc (by omega) hx, R.M1 hx]; exact Jdg h
theorem iv_one (hF : FV P M mf p m v) : Iv p m v 1 = 1 := by
 have R := hF.ring; have hq := R.q2; have e1 : inE (p ^ m) (1 : Int) = 1 := QA (x := 1) (by omega); exact Jn9 R (z := 1) (by rw [e1]; omega) (by omega) (by rw [e1]; exact R.M1 (by omega))
theorem sc_one (hF : FV P M mf p m v) {l : List Int} (h : Elr p m l) : sc p m v 1 l = l := YU (Jc6 _ _) fun i hi => by
 rw [Jc6] at hi; rw [Jev hi, ml_one hF (Jaw h hi)]
theorem w_rInv {x : Int} {Q : Int -> Prop} (hF : FV P M mf p m v) (h : Q (Iv p m v x)) : Jii P M mf x Q := by
 have hq := hF.q; have R := hF.ring; have hq2 := R.q2; have hxl := Qe (q := p ^ m) (by omega) x; refine ⟨fun z => ∃ n : Nat, z = n /\ 1 <= n /\ n <= p ^ m /\ ∀ k, k < n -> Jv p m (dv p v) (inE (p ^ m) x) k ≠ 1, fun z => (((p ^ m : Nat) : Int) - z).toNat, ⟨1, rfl, Nat.le_refl 1, by omega, fun k hk => by
  rw [show k = 0 by omega, R.M0 hxl]; omega⟩, ?_⟩
 rintro _ ⟨n, rfl, hn1, hn, hk⟩; refine Jey ?_; rw [hF.ord]; dsimp only; refine ⟨fun hlt => Jks hF ?_, fun hge => ?_⟩
 .have hnq : n < p ^ m := Int.ofNat_lt.1 hlt; rw [QA hnq]; refine ⟨fun he => ?_, fun hne => ⟨Jz (by omega) (by omega), ⟨n + 1, by push_cast; rfl, by omega, by omega, fun k hk' => ?_⟩, by omega⟩⟩
  .have h1 : Jv p m (dv p v) (inE (p ^ m) x) n = 1 := Int.ofNat.inj he; rw [<- Jn9 R hxl hnq (by rw [R.Mc hnq hxl]; exact h1)]; exact h
  .rcases Nat.lt_or_ge k n with h | h
   .exact hk k h
   .rw [show k = n by omega]; exact fun e => hne (by rw [e]; rfl)
 .have e : Iv p m v x = 0 := by
   unfold Iv; cases hf : (List.range (p ^ m)).find? fun z => Jv p m (dv p v) z (inE (p ^ m) x) == 1 with
   | none => rfl
   | some y =>
    have h1 := List.find?_some hf; have h2 := List.mem_range.1 (List.mem_of_find?_eq_some hf); have h1' : Jv p m (dv p v) y (inE (p ^ m) x) = 1 := by simpa using h1
    exact absurd (by rw [R.Mc hxl h2]; exact h1') (hk y (by omega))
  rw [e] at h; exact h
theorem Jf7 {cols W wy : Nat} {d0 : Int} {Q : List (List Int) × List Int -> Prop} (hF : FV P M mf p m v) (hX : X.length <= 300) (hc : cols <= W) (hW : W <= 1000) (hS : Shp X.length W wy ⟨X, Y, [], d0⟩) (hE : Els p m X)
  (h : Q ((elim p m v cols ⟨X, Y, [], d0⟩).X, (elim p m v cols ⟨X, Y, [], d0⟩).pv)) : Q8 P M mf X cols Q := by
 have hp2 := hF.p2; have hE0 : ∀ k, Els p m (elim p m v k ⟨X, Y, [], d0⟩).X := Ze (by omega) hE; have hXr : ∀ r ∈ X, r.length <= 1000000 := fun r hr => by
  obtain ⟨t, ht, rfl⟩ := YE hr; have := hS.xr t ht; simp only at this; omega
 refine Jtd (by omega) hXr ?_; generalize hS0 : (⟨X, Y, [], d0⟩ : ES) = S0 at h hS hE0; have hX0 : X = S0.X := by rw [<- hS0]
 have hP0 : ([] : List Int) = S0.pv := by rw [<- hS0]
 refine ⟨fun a c => a = (elim p m v cols S0).X /\ c = (elim p m v cols S0).pv, ⟨fun a c z y => ∃ k : Nat, y = k /\ k <= cols /\ a = (elim p m v k S0).X /\ c = (elim p m v k S0).pv /\ z = ((elim p m v k S0).pv.length : Nat), fun _ _ _ y => (cols - y).toNat, ⟨0, rfl, Nat.zero_le _, hX0, hP0, by show (0 : Int) = ((S0.pv.length : Nat) : Int); rw [<- hP0]; rfl⟩, ?_⟩, ?_⟩
 .rintro _ _ _ _ ⟨k, rfl, hk, rfl, rfl, rfl⟩; have hs := QL (p := p) (m := m) (v := v) hS k; have hstop := Jdk (p := p) (m := m) (v := v) (S := S0) (k := k); have hsucc := Qs (p := p) (m := m) (v := v) k S0; have hek := hE0 k; generalize hSk : elim p m v k S0 = S at *
  have hal := hs.xl; have har := hs.xr; have hpl := hs.pl; refine ⟨fun hlt => ⟨fun hlc => ?_, fun hge => ?_⟩, fun hge => ?_⟩
  .have hcur : S.pv.length < X.length := by omega
   have hkc : k < cols := by omega
   have hsp := Zu S.X k S.pv.length (by omega); refine ⟨fun pv x z _ _ _ _ => x = (elim p m v (k + 1) S0).X /\ pv = (elim p m v (k + 1) S0).pv /\ z = ((elim p m v (k + 1) S0).pv.length : Nat), ⟨fun r _ _ => r = ((nz S.X k S.pv.length : Nat) : Int), ⟨fun z _ => ∃ t : Nat, z = t /\ S.pv.length <= t /\ t <= X.length /\ ∀ s, S.pv.length <= s -> s < t -> vo (row S.X s) k = 0, fun z _ => (X.length - z).toNat, ⟨_, rfl, Nat.le_refl _, by omega, fun s h1 h2 => by omega⟩, ?_⟩, ?_⟩, ?_⟩
   .rintro _ _ ⟨t, rfl, h1, h2, h3⟩; dsimp only; refine ⟨fun hlt2 => ⟨⟨by omega, by omega⟩, ⟨by omega, by show (k : Int) < ((row S.X t).length : Nat); rw [har t (by omega)]; omega⟩, fun he => ⟨Jz (by omega) (by omega), ⟨t + 1, by push_cast; rfl, by omega, by omega, fun s hs1 hs2 => ?_⟩, by omega⟩, fun hne => ?_⟩, fun hge2 => ?_⟩
    .rcases Nat.lt_or_ge s t with h | h
     .exact h3 s hs1 h
     .rw [show s = t by omega]; exact he
    .exact congrArg _ (Jjk h1 (by omega) h3 fun _ => hne)
    .exact congrArg _ (Jjk h1 (by omega) h3 fun h => by omega)
   .rintro _ _ _ rfl; refine ⟨fun heq => ?_, fun hne => ?_⟩
    .have e : elim p m v (k + 1) S0 = S := by
      rw [hsucc]; unfold Qv; rw [if_neg (fun hh => by have := hh.2; omega)]
     rw [e]; exact ⟨rfl, rfl, rfl⟩
    .have hr : nz S.X k S.pv.length < X.length := by have := hsp.1; omega
     have hge := Jnc S.X k S.pv.length; generalize hrr : nz S.X k S.pv.length = r at hr hge hsp; rw [show Qv p m v S k = es1 p m v k r S.pv.length S by unfold Qv; rw [if_pos ⟨by omega, by omega⟩, <- hrr]] at hsucc; have hsw : sll (sll S.X ((S.pv.length : Nat) : Int) (gl S.X (r : Int))) (r : Int) (gl S.X ((S.pv.length : Nat) : Int)) = swq S.X r S.pv.length := by
      show swp S.X S.pv.length r = _; unfold swq; split
      .rename_i e; rw [e]; exact Jqk (by omega)
      .exact Jql (by omega) (by omega)
     refine ⟨True, ⟨⟨by omega, by omega⟩, ⟨by omega, by omega⟩, ⟨by omega, by omega⟩, ⟨by omega, by omega⟩, trivial⟩, fun _ => ?_⟩; rw [hsw]; have hx1 : ∀ t, t < X.length -> (row (swq S.X r S.pv.length) t).length = W := fun t ht => QO (by omega) (by omega) (fun t ht => har t (by omega)) (by omega); have hl1 := JL S.X r S.pv.length; have hes : Els p m (es1 p m v k r S.pv.length S).X := Jhy (by omega) hek (by omega) (by omega); have hxs := Zc (p := p) (m := m) (v := v) k r S.pv.length S; have hps : (es1 p m v k r S.pv.length S).pv = S.pv ++ [(k : Int)] := rfl; have hel1 : Els p m (swq S.X r S.pv.length) := YC fun t ht => by
      rw [JL] at ht; unfold swq; split
      .exact J4 hek t
      .rw [Zp (by omega) (by omega)]; split
       .exact J4 hek _
       .split <;> exact J4 hek _
     generalize swq S.X r S.pv.length = x1 at *
     refine ⟨⟨by omega, by omega⟩, ⟨by omega, by show (k : Int) < ((row x1 S.pv.length).length : Nat); rw [hx1 _ hcur]; omega⟩, fun x => x = scq p m v x1 S.pv.length (vo (row x1 S.pv.length) k), ⟨fun hne1 => ⟨⟨by omega, by omega⟩, ⟨by omega, by show (k : Int) < ((row x1 S.pv.length).length : Nat); rw [hx1 _ hcur]; omega⟩, _, w_rInv hF rfl, ⟨by omega, by omega⟩, _, Jpw hF (by show (row x1 S.pv.length).length <= 1000; rw [hx1 _ hcur]; omega) rfl, ⟨by omega, by omega⟩, rfl⟩, fun he1 => ?_⟩, ?_⟩
     .have he2 : vo (row x1 S.pv.length) k = 1 := Classical.not_not.1 he1; unfold scq; rw [he2, iv_one hF, sc_one hF (J4 hel1 _)]; refine (QE (by rw [List.length_set]) fun i hi => ?_).symm; rw [QH]; split
      .rename_i h; rw [h.1]
      .rfl
     .rintro _ rfl; have hx2 : ∀ t, t < X.length -> (row (scq p m v x1 S.pv.length (vo (row x1 S.pv.length) k)) t).length = W := fun t ht => QP (by omega) (fun t ht => hx1 t (by omega)) (by omega); have hl3 := Qa (p := p) (m := m) (v := v) x1 S.pv.length (vo (row x1 S.pv.length) k); have hel2 : Els p m (scq p m v x1 S.pv.length (vo (row x1 S.pv.length) k)) := YC fun t ht => by
       unfold scq; rw [QH]; split
       .exact Jk0 (by omega)
       .exact J4 hel1 t
      generalize scq p m v x1 S.pv.length (vo (row x1 S.pv.length) k) = x2 at *
      generalize hf : (fun t => Ng p m (vo (row x2 t) k)) = f at *
      refine ⟨fun x z => ∃ t : Nat, z = t /\ t <= X.length /\ x = prt p m v f S.pv.length t x2, fun x z => (X.length - z).toNat, ⟨0, rfl, Nat.zero_le _, (Jfa _ _).symm⟩, ?_⟩; rintro _ _ ⟨t, rfl, ht, rfl⟩; refine ⟨fun hlt2 => ?_, fun hge2 => ?_⟩
      .have htX : t < X.length := by omega
       have hg1 : gl (prt p m v f S.pv.length t x2) (t : Int) = row x2 t := by
        show row (prt p m v f S.pv.length t x2) t = _; rw [Q3 (by omega), if_neg (by omega)]
       have hg3 : gl (prt p m v f S.pv.length t x2) ((S.pv.length : Nat) : Int) = row x2 S.pv.length := by
        show row (prt p m v f S.pv.length t x2) S.pv.length = _; rw [Q3 (by omega), if_neg (by omega)]
       rw [hg1, hg3]; have hft : Ng p m (gi (row x2 t) (k : Int)) = f t := by rw [<- hf]; rfl
       have hent : El p m (vo (row x2 t) k) := Jaw (J4 hel2 t) (by rw [hx2 t htX]; omega); have hz := Jt3 hF hent; refine ⟨fun x _ => x = prt p m v f S.pv.length (t + 1) x2, ⟨fun hne2 => ?_, fun he2 => ?_⟩, ?_⟩
       .have hne3 : t ≠ S.pv.length := fun e => hne2 (by rw [e]); refine ⟨⟨by omega, by omega⟩, ⟨by omega, by rw [hx2 t htX]; omega⟩, fun hnz => ?_, fun hnz => ?_⟩
        .refine ⟨⟨by omega, by omega⟩, ⟨by omega, by omega⟩, ⟨by omega, by rw [hx2 t htX]; omega⟩, _, v_rNeg hF rfl, ⟨by omega, by omega⟩, _, Jpx hF (by rw [hx2 t htX, hx2 _ hcur]; exact Nat.le_refl _) (by rw [hx2 t htX]; omega) rfl, ⟨by omega, by omega⟩, ?_⟩; rw [<- Jce (by omega) hne3, <- hft]; show _ = (prt p m v f S.pv.length t x2).set t (adx p m v (row x2 t) (Ng p m (vo (row x2 t) k)) (row x2 S.pv.length)); unfold adx; rw [if_neg (fun h0 => hnz (hz.1 h0))]; rfl
        .have hnz' : vo (row x2 t) k = 0 := Classical.not_not.1 hnz; rw [<- Jce (by omega) hne3, <- hft]; show prt p m v f S.pv.length t x2 = (prt p m v f S.pv.length t x2).set t (adx p m v (row x2 t) (Ng p m (vo (row x2 t) k)) (row x2 S.pv.length)); unfold adx; rw [if_pos (hz.2 hnz')]; refine QE (by rw [List.length_set]) fun i hi => ?_; rw [QH]; split
         .rename_i hh; rw [<- hh.1]; exact hg1
         .rfl
       .have he3 : t = S.pv.length := by have := Classical.not_not.1 he2; omega
        subst he3; exact prt_same.symm
       .rintro _ _ rfl; refine ⟨Jz (by omega) (by omega), ⟨t + 1, by push_cast; rfl, by omega, rfl⟩, ?_⟩; show ((X.length : Int) - ((t : Int) + 1)).toNat < ((X.length : Int) - (t : Int)).toNat; omega
      .have hte : t = X.length := by omega
       subst hte; have e1 := Jhe (p := p) (m := m) (v := v) (X := x2) f S.pv.length; rw [show x2.length = X.length by omega] at e1; refine ⟨by omega, Jz (by omega) (by omega), ?_⟩; rw [hsucc, e1, hxs, hps]; exact ⟨rfl, rfl, by rw [List.length_append]; simp⟩
   .rintro _ _ _ _ _ _ _ ⟨rfl, rfl, rfl⟩; refine ⟨Jz (by omega) (by omega), ⟨k + 1, by push_cast; rfl, by omega, rfl, rfl, rfl⟩, ?_⟩; show ((cols : Int) - ((k : Int) + 1)).toNat < ((cols : Int) - (k : Int)).toNat; omega
  .have hst := hstop (by omega) (cols - k); rw [show k + (cols - k) = cols by omega] at hst; rw [hst]; exact ⟨rfl, rfl⟩
  .have hkc : k = cols := by omega
   subst hkc; exact ⟨by rw [hSk], by rw [hSk]⟩
 .rintro _ _ ⟨rfl, rfl⟩; exact h
end
end Go.Proofs.Ytlfeialpcdoleaa
set_option linter.unusedVariables false
set_option linter.unusedSimpArgs false
namespace Go.Proofs.Ytlfeialpcdoleaa
section
variable {F : GFv} {p m v g : Nat} {P M : Int} {mf : List Int} {X Y : List (List Int)} {C : Int}
def Jpt (P M : Int) (mf : List Int) (X : List (List Int)) : Prop := ∃ p m v, FV P M mf p m v /\ Els p m X
open Classical in
noncomputable def mck (P M : Int) (mf : List Int) (C : Int) (X : List (List Int)) : Int := if ¬ YR P M mf then 1 else if ¬ shp C X then 3 else if ¬ Jpt P M mf X then 2 else 0
theorem FV.uniq {p' m' v' : Nat} (h : FV P M mf p m v) (h' : FV P M mf p' m' v') : p = p' /\ m = m' := ⟨by have := h.eP; have := h'.eP; omega, by have := h.eM; have := h'.eM; omega⟩
theorem Q9 (h : FV P M mf p m v) : Jpt P M mf X ↔ Els p m X := ⟨fun ⟨p', m', v', h1, h2⟩ => by obtain ⟨rfl, rfl⟩ := h.uniq h1; exact h2, fun h2 => ⟨p, m, v, h, h2⟩⟩
theorem Jfi (h : ¬ YR P M mf) : mck P M mf C X = 1 := if_pos h
theorem Ja6 (h : YR P M mf) (hs : ¬ shp C X) : mck P M mf C X = 3 := by unfold mck; rw [if_neg (fun hh => hh h), if_pos hs]
theorem Jeg (h : YR P M mf) (hs : shp C X) (he : ¬ Jpt P M mf X) : mck P M mf C X = 2 := by unfold mck; rw [if_neg (fun hh => hh h), if_neg (fun hh => hh hs), if_pos he]
theorem Jfh (h : YR P M mf) (hs : shp C X) (he : Jpt P M mf X) : mck P M mf C X = 0 := by unfold mck; rw [if_neg (fun hh => hh h), if_neg (fun hh => hh hs), if_neg (fun hh => hh he)]
theorem Jcl (h : mck P M mf C X = 0) : YR P M mf /\ shp C X /\ Jpt P M mf X := by
 by_cases h1 : YR P M mf
 .by_cases h2 : shp C X
  .by_cases h3 : Jpt P M mf X
   .exact ⟨h1, h2, h3⟩
   .rw [Jeg h1 h2 h3] at h; exact absurd h (by decide)
  .rw [Ja6 h1 h2] at h; exact absurd h (by decide)
 .rw [Jfi h1] at h; exact absurd h (by decide)
theorem YX (h : shp C X) : X.length <= 256 := h.2.2.1
theorem Yk (h : shp C X) {t : Nat} (ht : t < X.length) : (row X t).length = C.toNat := by
 have := h.2.2.2 _ (Z4 ht); have := h.1; omega
noncomputable def Jfc (P M : Int) (mf : List Int) : List Mt -> Int
  | [] => 0
  | (C, X) :: ms => if mck P M mf C X = 0 then Jfc P M mf ms else mck P M mf C X
theorem Jpy {ms : List Mt} {Q : Option GFv × Int -> Prop} (hl : ms.length <= 1000) (hno : ¬ YR P M mf -> Q (none, 1))
  (h : ∀ (F : GFv) (p m v g : Nat), GFk F p m v g -> FV P M mf p m v -> Jfc P M mf ms = 0 -> Q (some F, 0)) (hb : YR P M mf -> Jfc P M mf ms ≠ 0 -> Q (none, Jfc P M mf ms)) : YV P M mf ms Q := by
 refine v_New (fun hn => ⟨fun h0 => ⟨h0, hno hn⟩, fun h0 => absurd (show (1 : Int) ≠ 0 by decide) h0⟩) fun F p m v g K eP eM emf => ⟨fun h0 => absurd rfl h0, fun _ => ?_⟩
 have hF : FV P M mf p m v := by rw [<- eP, <- eM, <- emf]; exact K.fv
 have hV : YR P M mf := ⟨p, m, v, hF⟩
 refine ⟨fun z => ∃ t : Nat, z = t /\ t <= ms.length /\ Jfc P M mf (ms.drop t) = Jfc P M mf ms, fun z => (ms.length - z).toNat, ⟨0, rfl, Nat.zero_le _, rfl⟩, ?_⟩; rintro _ ⟨t, rfl, ht, he⟩; refine ⟨fun hlt => ?_, fun hge => ?_⟩
 .have htl : t < ms.length := by omega
  have hd : ms.drop t = gm ms t :: ms.drop (t + 1) := by
   rw [List.drop_eq_getElem_cons htl]
   congr 1
   unfold gm; show _ = ms.getD t (0, []); rw [List.getD_eq_getElem?_getD, List.getElem?_eq_getElem htl]; rfl
  rw [hd] at he; generalize gm ms t = mt at *
  obtain ⟨C, X⟩ := mt; simp only [Jfc] at he; dsimp only; refine ⟨⟨by omega, by omega⟩, Jkn (fun hs => ⟨fun h => absurd h (by decide), fun _ => ?_⟩) (fun hs => ⟨fun _ => ⟨by decide, ?_⟩, fun h => absurd h (by decide)⟩)⟩
  .refine ⟨fun z => ∃ s : Nat, z = s /\ s <= X.length /\ ∀ k, k < s -> Elr p m (row X k), fun z => (X.length - z).toNat, ⟨0, rfl, Nat.zero_le _, fun k hk => by omega⟩, ?_⟩; rintro _ ⟨s, rfl, hs1, hs2⟩; have hX : X.length <= 256 := YX hs; dsimp only; refine ⟨fun hlt2 => ⟨⟨by omega, by omega⟩, Jbl K (by show (row X s).length <= _; rw [Yk hs (by omega)]; have := hs.2.1; omega) (fun hel => ⟨fun h => absurd h (by decide), fun _ => ⟨Jz (by omega) (by omega), ⟨s + 1, by push_cast; rfl, by omega, fun k hk => ?_⟩, by omega⟩⟩) (fun hel => ⟨fun _ => ⟨by decide, ?_⟩, fun h => absurd h (by decide)⟩)⟩, fun hge2 => ?_⟩
   .rcases Nat.lt_or_ge k s with h | h
    .exact hs2 k h
    .rw [show k = s by omega]; exact hel
   .have e : mck P M mf C X = 2 := Jeg hV hs fun hv => hel (J4 ((Q9 hF).1 hv) s); rw [e, if_neg (by decide)] at he; have := hb hV (by rw [<- he]; decide)
    rwa [<- he] at this
   .have e : mck P M mf C X = 0 := Jfh hV hs ((Q9 hF).2 (YC fun k hk => hs2 k (by omega))); rw [e, if_pos rfl] at he; exact ⟨Jz (by omega) (by omega), ⟨t + 1, by push_cast; rfl, by omega, he⟩, by omega⟩
  .have e : mck P M mf C X = 3 := Ja6 hV hs; rw [e, if_neg (by decide)] at he; have := hb hV (by rw [<- he]; decide)
   rwa [<- he] at this
 .rw [show t = ms.length by omega, List.drop_length] at he; exact h F p m v g K hF he.symm
theorem Jfb : Jfc P M mf [(C, X)] = mck P M mf C X := by
 simp only [Jfc]; split
 .rename_i h; exact h.symm
 .rfl
theorem Jja {C' : Int} {X' : List (List Int)} : Jfc P M mf [(C, X), (C', X')] = if mck P M mf C X = 0 then mck P M mf C' X' else mck P M mf C X := by
 show (if mck P M mf C X = 0 then Jfc P M mf [(C', X')] else mck P M mf C X) = _; rw [Jfb]
theorem Z1 {Q : Option GFv × Int -> Prop} (hb : mck P M mf C X ≠ 0 -> Q (none, mck P M mf C X))
    (h : ∀ (F : GFv) (p m v g : Nat), GFk F p m v g -> FV P M mf p m v -> shp C X -> Els p m X -> mck P M mf C X = 0 -> Q (some F, 0)) : YV P M mf [(C, X)] Q := by
  refine Jpy (by simp) (fun hn => ?_) (fun F p m v g K hF he => ?_) (fun hV he => ?_)
  . have := hb (by rw [Jfi hn]; decide); rwa [Jfi hn] at this
  . rw [Jfb] at he
    obtain ⟨_, h2, h3⟩ := Jcl he
    exact h F p m v g K hF h2 ((Q9 hF).1 h3) he
  . rw [Jfb] at he ⊢; exact hb he
theorem Jir {Q : Int -> Prop} (h : Q (mck P M mf C X)) : Ja0 P M mf C X Q := Z1 (fun _ _ => h) (fun F p m v g K hF h1 h2 h3 => by show Q 0; rw [<- h3]; exact h)
theorem Joa {Q : Int -> Prop} (h : Q (mck P M mf C X)) : Jbc P M mf C X Q := by
 refine Jqc ?_; by_cases hV : YR P M mf
 .rw [Jgx hV]; refine ⟨fun h0 => absurd rfl h0, fun _ => ⟨fun h0 => ?_, fun h0 => ⟨fun h1 => ?_, fun h1 => ⟨fun h2 => ?_, fun h2 => ?_⟩⟩⟩⟩
  .rw [Ja6 hV fun s => by have := s.1; omega] at h; exact h
  .rw [Ja6 hV fun s => by have := s.2.1; omega] at h; exact h
  .rw [Ja6 hV fun s => by have := s.2.2.1; omega] at h; exact h
  .refine ⟨fun z => ∃ t : Nat, z = t /\ t <= X.length /\ ∀ k, k < t -> ((row X k).length : Int) = C, fun z => (X.length - z).toNat, ⟨0, rfl, Nat.zero_le _, fun k hk => by omega⟩, ?_⟩; rintro _ ⟨t, rfl, ht, hk⟩; dsimp only; refine ⟨fun hlt => ⟨⟨by omega, by omega⟩, fun hne => ?_, fun he => ⟨Jz (by omega) (by omega), ⟨t + 1, by push_cast; rfl, by omega, fun k hk' => ?_⟩, by omega⟩⟩, fun hge => ?_⟩
   .rw [Ja6 hV fun s => hne (s.2.2.2 _ (Z4 (by omega)))] at h; exact h
   .rcases Nat.lt_or_ge k t with h | h
    .exact hk k h
    .rw [show k = t by omega]; exact Classical.not_not.1 he
   .have hs : shp C X := ⟨by omega, by omega, by omega, fun r hr => by obtain ⟨s, h3, rfl⟩ := YE hr; exact hk s (by omega)⟩
    obtain ⟨p, m, v, hF⟩ := hV; refine ⟨fun r z => r = 0 /\ ∃ s : Nat, z = s /\ s <= X.length /\ ∀ k, k < s -> Elr p m (row X k), fun _ z => (X.length - z).toNat, ⟨rfl, 0, rfl, Nat.zero_le _, fun k hk => by omega⟩, ?_⟩; rintro _ _ ⟨rfl, s, rfl, hs1, hs2⟩; dsimp only; refine ⟨fun hlt2 => ⟨⟨by omega, by omega⟩, ?_⟩, fun hge2 => ?_⟩
    .have hrl : (row X s).length <= 1000000 := by rw [Yk hs (by omega)]; have := hs.2.1; omega
     by_cases hel : Elr p m (row X s)
     .refine ⟨0, Jet hF hrl (fun _ => rfl) (fun h => absurd hel h), fun h0 => absurd rfl h0, fun _ => ⟨Jz (by omega) (by omega), ⟨rfl, s + 1, by push_cast; rfl, by omega, fun k hk' => ?_⟩, by omega⟩⟩; rcases Nat.lt_or_ge k s with h | h
      .exact hs2 k h
      .rw [show k = s by omega]; exact hel
     .refine ⟨2, Jet hF hrl (fun h => absurd h hel) (fun _ => rfl), fun _ => ?_, fun h0 => absurd (by decide) h0⟩; rw [Jeg ⟨p, m, v, hF⟩ hs fun hv => hel (J4 ((Q9 hF).1 hv) s)] at h; exact h
    .rw [Jfh ⟨p, m, v, hF⟩ hs ((Q9 hF).2 (YC fun k hk' => hs2 k (by omega)))] at h; exact h
 .rw [YP hV]; rw [Jfi hV] at h; exact ⟨fun _ => h, fun h0 => absurd (by decide) h0⟩
def ec (p m v : Nat) (C : Int) (X : List (List Int)) : ES := elim p m v C.toNat ⟨X, List.replicate X.length [], [], 1⟩
def Qn (p m v : Nat) (C : Int) (X : List (List Int)) : List (List Int) := (ec p m v C X).X.take (ec p m v C X).pv.length
def JV (p m v : Nat) (C : Int) (X : List (List Int)) : List Int := (ec p m v C X).pv
theorem Jm1 {n t : Nat} {l : List Int} (h : t < n) : row (List.replicate n l) t = l := by
 unfold row; rw [List.getD_eq_getElem?_getD, List.getElem?_replicate, if_pos h]; rfl
theorem Jhb (hs : shp C X) {Z : List (List Int)} {wz : Nat} {d : Int} (hZ : Z.length = X.length) (hz : ∀ t, t < X.length -> (row Z t).length = wz) : Shp X.length C.toNat wz ⟨X, Z, [], d⟩ := ⟨rfl, fun t ht => Yk hs ht, hZ, hz, Nat.zero_le _⟩
theorem Z3 (hs : shp C X) : Shp X.length C.toNat 0 ⟨X, List.replicate X.length [], [], 1⟩ := Jhb hs (by simp) fun t ht => by rw [Jm1 ht]; rfl
theorem YA (hs : shp C X) : X.length <= 256 /\ C.toNat <= 256 /\ ((C.toNat : Nat) : Int) = C := ⟨hs.2.2.1, by have := hs.2.1; omega, by have := hs.1; omega⟩
theorem YK (hs : shp C X) : ∀ r ∈ X, r.length <= 1000000 := fun r hr => by have := hs.2.2.2 r hr; have := hs.2.1; omega
theorem Jax (hs : shp C X) : Shp X.length C.toNat 0 (ec p m v C X) := QL (Z3 hs) _
theorem Jap {Q : Int × List (List Int) × List Int -> Prop} (K : GFk F p m v g) (hs : shp C X) (h : Q (C, Qn p m v C X, JV p m v C X)) : Yh F C X Q := by
 obtain ⟨h1, h2, h3⟩ := YA hs; refine Jao (by omega) (YK hs) ⟨⟨by omega, by omega, by omega⟩, ?_⟩; show J3 F C X (List.replicate X.length ([] : List Int)) _; rw [<- h3]; refine YJ K (by omega) (by omega) (wy := 0) (by omega) (Z3 hs) ?_; rw [h3]; have := (Jax (p := p) (m := m) (v := v) hs).pl; exact ⟨⟨by omega, by show ((ec p m v C X).pv.length : Int) <= _; omega⟩, h⟩
theorem Jdu {Q : Int × List (List Int) × List Int × Int -> Prop} (hb : mck P M mf C X ≠ 0 -> Q (0, [], [], mck P M mf C X))
  (h : ∀ p m v, FV P M mf p m v -> shp C X -> Els p m X -> mck P M mf C X = 0 -> Q (C, Qn p m v C X, JV p m v C X, 0)) : YT P M mf C X Q :=
 Z1 (fun h0 _ => hb h0) fun F p m v g K hF hs he h0 => Jap K hs (h p m v hF hs he h0)
theorem w_Rank {Q : Int × Int -> Prop} (hb : mck P M mf C X ≠ 0 -> Q (0, mck P M mf C X))
 (h : ∀ p m v, FV P M mf p m v -> shp C X -> Els p m X -> mck P M mf C X = 0 -> Q (((JV p m v C X).length : Nat), 0)) : Jin P M mf C X Q := Jdu hb h
theorem FV.uniq3 {p' m' v' : Nat} (h : FV P M mf p m v) (h' : FV P M mf p' m' v') : p = p' /\ m = m' /\ v = v' := by
 obtain ⟨e1, e2⟩ := h.uniq h'; subst e1; subst e2; refine ⟨rfl, rfl, ?_⟩; by_cases hm : m = 1
 .rw [(h.m1 hm).2, (h'.m1 hm).2]
 .have e1 := h.m2 hm; have e2 := h'.m2 hm; have hp := h.p2; have h3 : dv p v = dv p v' := by rw [<- h.vo, <- h'.vo]
  have h4 := Jbq (p := p) (m := m) (x := v) (by omega) h.vlt; have h5 := Jbq (p := p) (m := m) (x := v') (by omega) h'.vlt; rw [<- h4, <- h5, h3]
end
end Go.Proofs.Ytlfeialpcdoleaa
set_option linter.unusedVariables false
set_option linter.unusedSimpArgs false
namespace Go.Proofs.Ytlfeialpcdoleaa
section
variable {p m v : Nat}
def Asc (k : Nat) (l : List Int) : Prop := (∀ i, i < l.length -> 0 <= vo l i /\ vo l i < (k : Int)) /\ ∀ i j, i < j -> j < l.length -> vo l i < vo l j
theorem Jca {l : List Int} {x : Int} {i : Nat} : vo (l ++ [x]) i = if i < l.length then vo l i else if i = l.length then x else 0 := by
 unfold vo; rw [List.getD_eq_getElem?_getD, List.getD_eq_getElem?_getD, List.getElem?_append]; by_cases h : i < l.length
 .rw [if_pos h, if_pos h]
 .rw [if_neg h, if_neg h]; by_cases h2 : i = l.length
  .subst h2; simp
  .rw [if_neg h2]; have : i - l.length ≠ 0 := by omega
   cases hh : i - l.length with
   | zero => omega
   | succ n => simp
theorem Asc.snoc {k : Nat} {l : List Int} (h : Asc k l) : Asc (k + 1) (l ++ [(k : Int)]) := by
 refine ⟨fun i hi => ?_, fun i j hij hj => ?_⟩
 .rw [List.length_append] at hi; rw [Jca]; split
  .rename_i h1; have := h.1 i h1; omega
  .split
   .omega
   .simp at hi; omega
 .rw [List.length_append] at hj; have hj' : j < l.length + 1 := by simpa using hj
  rw [Jca, Jca, if_pos (show i < l.length by omega)]; split
  .rename_i h1; exact h.2 i j hij h1
  .rw [if_pos (show j = l.length by omega)]; exact (h.1 i (by omega)).2
theorem Asc.up {k : Nat} {l : List Int} (h : Asc k l) : Asc (k + 1) l := ⟨fun i hi => by have := h.1 i hi; omega, h.2⟩
theorem Jcn {S : ES} (h : S.pv = []) : ∀ k, Asc k (elim p m v k S).pv
 | 0 => by
  show Asc 0 S.pv; rw [h]; exact ⟨fun i hi => absurd hi (Nat.not_lt_zero i), fun i j _ hj => absurd hj (Nat.not_lt_zero j)⟩
 | k + 1 => by
  have ih := Jcn h k; rw [Qs]; unfold Qv; split
  .exact ih.snoc
  .exact ih.up
theorem Zg (C : Int) (X : List (List Int)) : Asc C.toNat (JV p m v C X) := Jcn rfl _
end
section
variable {F : GFv} {p m v g : Nat} {P M : Int} {mf : List Int} {X Y : List (List Int)} {C : Int}
theorem Jpv {l : List Int} {x : Int} {k : Nat} {Q : Int × Bool -> Prop} (hl : l.length <= 1000000) (hs : Asc k l) (h1 : ∀ i, (∃ j, j < l.length /\ vo l j = x) -> Q (i, true)) (h2 : ∀ i, (¬ ∃ j, j < l.length /\ vo l j = x) -> Q (i, false)) : Jcu l x Q := by
 refine ⟨fun a b => ∃ s t : Nat, a = s /\ b = t /\ s <= t /\ t <= l.length /\ (∀ j, j < s -> vo l j < x) /\ ∀ j, t <= j -> j < l.length -> x <= vo l j, fun a b => (b - a).toNat, ⟨0, l.length, rfl, rfl, Nat.zero_le _, Nat.le_refl _, fun j hj => by omega, fun j hj1 hj2 => by omega⟩, ?_⟩; rintro _ _ ⟨s, t, rfl, rfl, hst, htl, hlo, hhi⟩; dsimp only; refine ⟨fun hlt => ?_, fun hge => ?_⟩
 .obtain ⟨q, hq⟩ : ∃ q : Nat, ((s : Int) + t).fdiv 2 = q := ⟨(s + t) / 2, by
   rw [Int.fdiv_eq_ediv_of_nonneg _ (by decide)]; omega⟩
  have hq2 : q = (s + t) / 2 := by
   have : ((s : Int) + t).fdiv 2 = (((s + t) / 2 : Nat) : Int) := by rw [Int.fdiv_eq_ediv_of_nonneg _ (by decide)]; omega
   omega
  rw [hq]; have hql : q < l.length := by omega
  rw [JW]; refine ⟨Jz (by omega) (by omega), ⟨by omega, by omega⟩, Jz (by omega) (by omega), ⟨by omega, by omega⟩, ?_⟩; show (decide (vo l q ≠ vo l q) = true -> _) /\ (decide (vo l q ≠ vo l q) = false -> _)
  refine ⟨fun h => absurd (of_decide_eq_true h) (fun h => h rfl), fun _ => ⟨fun h => ?_, fun h => ?_⟩⟩
  .have hlt2 := of_decide_eq_true h; refine ⟨Jz (by omega) (by omega), ⟨q + 1, t, by push_cast; rfl, rfl, by omega, htl, fun j hj => ?_, hhi⟩, by omega⟩; rcases Nat.lt_or_ge j q with h3 | h3
   .have := hs.2 j q h3 hql; omega
   .rw [show j = q by omega]; exact hlt2
  .have hge2 := of_decide_eq_false h; refine ⟨⟨s, q, rfl, rfl, by omega, by omega, hlo, fun j hj1 hj2 => ?_⟩, by omega⟩; rcases Nat.eq_or_lt_of_le hj1 with h3 | h3
   .subst h3; omega
   .have := hs.2 q j h3 hj2; omega
 .have hse : s = t := by omega
  subst hse; rw [JW]; refine ⟨fun hlt2 => ⟨⟨by omega, by omega⟩, fun he => h1 _ ⟨s, by omega, he⟩, fun hne => ⟨⟨by omega, by omega⟩, ?_⟩⟩, fun hge2 => ?_⟩
  .have hno : ¬ ∃ j, j < l.length /\ vo l j = x := fun ⟨j, hj, he⟩ => by
    rcases Nat.lt_trichotomy j s with h3 | h3 | h3
    .have := hlo j h3; omega
    .subst h3; exact hne he
    .have := hs.2 s j h3 hj; have := hhi s (Nat.le_refl _) (by omega); omega
   show (decide (vo l s ≠ vo l s) = true -> _) /\ (decide (vo l s ≠ vo l s) = false -> _)
   exact ⟨fun h => absurd (of_decide_eq_true h) (fun h => h rfl), fun _ => h2 _ hno⟩
  .refine h2 _ fun ⟨j, hj, he⟩ => ?_; have := hlo j (by omega); omega
def Zm (p m : Nat) (C : Nat) (R : List (List Int)) (pv : List Int) (t k : Nat) : List Int := (List.range k).foldl (fun x i => x.set (vo pv i).toNat (Ng p m (vo (row R i) t))) ((List.replicate C 0).set t 1)
theorem ZI (C : Nat) (R : List (List Int)) (pv : List Int) (t k : Nat) : Zm p m C R pv t (k + 1) = (Zm p m C R pv t k).set (vo pv k).toNat (Ng p m (vo (row R k) t)) := by
 unfold Zm; rw [List.range_succ, List.foldl_append]; rfl
theorem Je7 (C : Nat) (R : List (List Int)) (pv : List Int) (t : Nat) : ∀ k, (Zm p m C R pv t k).length = C
 | 0 => by simp [Zm]
 | k + 1 => by rw [ZI, List.length_set]; exact Je7 C R pv t k
theorem Jkm {R : List (List Int)} {pv : List Int} {t : Nat} {Q : List Int -> Prop} (K : GFk F p m v g) (hC : 0 <= C /\ C <= 256) (ht : t < C.toNat) (hR : pv.length <= R.length) (hl : pv.length <= 1000000) (hr : ∀ i, i < R.length -> t < (row R i).length) (hp : Asc C.toNat pv)
  (h : Q (Zm p m C.toNat R pv t pv.length)) : Jaf F C R pv t Q := by
 refine ⟨⟨by omega, by omega, by omega⟩, ⟨by omega, by omega⟩, fun x z => ∃ k : Nat, z = k /\ k <= pv.length /\ x = Zm p m C.toNat R pv t k, fun _ z => (pv.length - z).toNat, ⟨0, rfl, Nat.zero_le _, rfl⟩, ?_⟩; rintro _ _ ⟨k, rfl, hk, rfl⟩; dsimp only; rw [JW]; refine ⟨fun hlt => ⟨⟨by omega, by omega⟩, ⟨by omega, by omega⟩, ⟨by omega, by show (t : Int) < ((row R k).length : Nat); have := hr k (by omega); omega⟩, Jqf K ?_⟩, fun hge => by rw [show k = pv.length by omega]; exact h⟩; have hv : 0 <= gi pv (k : Int) /\ gi pv (k : Int) < ((C.toNat : Nat) : Int) := hp.1 k (by omega); refine ⟨⟨hv.1, by have := hv.2; omega⟩, Jz (by omega) (by omega), ⟨k + 1, by push_cast; rfl, by omega, ?_⟩, by omega⟩; rw [ZI]; rfl
def inP (pv : List Int) (c : Nat) : Bool := (List.range pv.length).any fun i => vo pv i == (c : Int)
theorem Jei {pv : List Int} {c : Nat} : inP pv c = true ↔ ∃ j, j < pv.length /\ vo pv j = (c : Int) := by
 unfold inP; rw [List.any_eq_true]; exact ⟨fun ⟨i, hi, h⟩ => ⟨i, List.mem_range.1 hi, by simpa using h⟩, fun ⟨i, hi, h⟩ => ⟨i, List.mem_range.2 hi, by simpa using h⟩⟩
def bas (p m : Nat) (C : Nat) (R : List (List Int)) (pv : List Int) (k : Nat) : List (List Int) := (List.range k).foldl (fun B c => if inP pv c then B else B ++ [Zm p m C R pv c pv.length]) []
theorem ZQ (C : Nat) (R : List (List Int)) (pv : List Int) (k : Nat) : bas p m C R pv (k + 1) = if inP pv k then bas p m C R pv k else bas p m C R pv k ++ [Zm p m C R pv k pv.length] := by
 unfold bas; rw [List.range_succ, List.foldl_append]; rfl
theorem Jh6 (C : Nat) (R : List (List Int)) (pv : List Int) : ∀ k, (bas p m C R pv k).length <= k
 | 0 => Nat.le_refl _
 | k + 1 => by
  rw [ZQ]; have := Jh6 C R pv k; split
  .omega
  .rw [List.length_append]; simp; omega
theorem Jh5 (C : Nat) (R : List (List Int)) (pv : List Int) : ∀ k, ∀ r ∈ bas p m C R pv k, ∃ c, c < k /\ inP pv c = false /\ r = Zm p m C R pv c pv.length
 | 0, r, h => by cases h
 | k + 1, r, h => by
  rw [ZQ] at h; split at h
  .obtain ⟨c, h1, h2⟩ := Jh5 C R pv k r h; exact ⟨c, by omega, h2⟩
  .rename_i hn
   rcases List.mem_append.1 h with h | h
   .obtain ⟨c, h1, h2⟩ := Jh5 C R pv k r h; exact ⟨c, by omega, h2⟩
   .exact ⟨k, by omega, by simpa using hn, by simpa using h⟩
def basC (p m v : Nat) (C : Int) (X : List (List Int)) : List (List Int) := bas p m C.toNat (Qn p m v C X) (JV p m v C X) C.toNat
theorem Jsc (hs : shp C X) : shp C (basC p m v C X) := by
 obtain ⟨h1, h2, h3⟩ := YA hs; refine ⟨hs.1, hs.2.1, by have := Jh6 (p := p) (m := m) C.toNat (Qn p m v C X) (JV p m v C X) C.toNat; unfold basC; omega, fun r hr => ?_⟩; obtain ⟨c, _, _, rfl⟩ := Jh5 _ _ _ _ r hr; rw [Je7]; exact h3
theorem Zf (hs : shp C X) : (Qn p m v C X).length = (JV p m v C X).length := by
 have h0 := Jax (p := p) (m := m) (v := v) hs; unfold Qn JV; rw [List.length_take]; have h1 := h0.pl; have h2 := h0.xl; omega
theorem Jar {Z : List (List Int)} {n t : Nat} (h : t < n) : row (Z.take n) t = row Z t := by
 unfold row; rw [List.getD_eq_getElem?_getD, List.getD_eq_getElem?_getD, List.getElem?_take, if_pos h]
theorem Jj6 (hs : shp C X) {t : Nat} (ht : t < (Qn p m v C X).length) : (row (Qn p m v C X) t).length = C.toNat := by
 have h1 := Jax (p := p) (m := m) (v := v) hs; rw [Zf hs] at ht; unfold Qn; rw [Jar (n := (ec p m v C X).pv.length) ht]; exact h1.xr t (Nat.lt_of_lt_of_le ht h1.pl)
theorem Jr4 (hs : shp C X) : shp C (Qn p m v C X) := by
 obtain ⟨h1, h2, h3⟩ := YA hs; have h4 := Jax (p := p) (m := m) (v := v) hs; refine ⟨hs.1, hs.2.1, by rw [Zf hs]; have := h4.pl; show (ec p m v C X).pv.length <= 256; omega, fun r hr => ?_⟩; obtain ⟨t, ht, rfl⟩ := YE hr; rw [Jj6 hs ht]; exact h3
theorem YQ (hs : shp C X) : (JV p m v C X).length <= X.length := (Jax (p := p) (m := m) (v := v) hs).pl
theorem Jp0 {Q : Int × List (List Int) × Int -> Prop} (hb : mck P M mf C X ≠ 0 -> Q (0, [], mck P M mf C X))
  (h : ∀ p m v, FV P M mf p m v -> shp C X -> Els p m X -> mck P M mf C X = 0 -> Q (C, Qn p m v C (basC p m v C X), 0)) : Jc2 P M mf C X Q := by
 refine Z1 (fun h0 _ => hb h0) fun F p m v g K hF hs he h0 => Jap K hs ?_; obtain ⟨h1, h2, h3⟩ := YA hs; have hpl := YQ (p := p) (m := m) (v := v) hs; have hcl := Zf (p := p) (m := m) (v := v) hs; have hasc := Zg (p := p) (m := m) (v := v) C X; have hrow := fun i (hi : i < (Qn p m v C X).length) => Jj6 (p := p) (m := m) (v := v) hs hi; have hfin := Jap (Q := fun q => Q (q.1, q.2.1, 0)) K (Jsc (p := p) (m := m) (v := v) hs) (h p m v hF hs he h0); unfold basC at hfin; generalize Qn p m v C X = R at *
 generalize JV p m v C X = pv at *
 refine ⟨fun x z => ∃ k : Nat, z = k /\ k <= C.toNat /\ x = bas p m C.toNat R pv k, fun _ z => (C - z).toNat, ⟨0, rfl, Nat.zero_le _, rfl⟩, ?_⟩; rintro _ _ ⟨k, rfl, hk, rfl⟩; have hbl := Jh6 (p := p) (m := m) C.toNat R pv k; dsimp only; refine ⟨fun hlt => ⟨fun x _ _ => x = bas p m C.toNat R pv (k + 1), Jpv (by omega) hasc (fun i hin => ⟨fun h => absurd h (by simp), fun _ => ?_⟩) (fun i hin => ⟨fun _ => ⟨_, Jkm K ⟨hs.1, hs.2.1⟩ (by omega) (by omega) (by omega) (fun i hi => by rw [hrow i hi]; omega) hasc rfl, by omega, ?_⟩, fun h => absurd h (by simp)⟩), ?_⟩, fun hge => ?_⟩
 .rw [ZQ, if_pos (Jei.2 hin)]
 .rw [ZQ, if_neg (fun hh => hin (Jei.1 hh))]
 .rintro _ _ _ rfl; exact ⟨Jz (by omega) (by omega), ⟨k + 1, by push_cast; rfl, by omega, rfl⟩, by omega⟩
 .rw [show k = C.toNat by omega]; exact hfin
end
end Go.Proofs.Ytlfeialpcdoleaa
set_option linter.unusedVariables false
set_option linter.unusedSimpArgs false
namespace Go.Proofs.Ytlfeialpcdoleaa
section
variable {F : GFv} {p m v g : Nat} {P M : Int} {mf : List Int} {X Y : List (List Int)} {C : Int}
open Classical in
noncomputable def sqe (P M : Int) (mf : List Int) (C : Int) (X : List (List Int)) : Int := if mck P M mf C X ≠ 0 then mck P M mf C X else if (X.length : Int) ≠ C then 3 else 0
theorem Jmw (h : mck P M mf C X ≠ 0) : sqe P M mf C X = mck P M mf C X := if_pos h
theorem Jqn (h : mck P M mf C X = 0) (h2 : (X.length : Int) ≠ C) : sqe P M mf C X = 3 := by unfold sqe; rw [if_neg (fun hh => hh h), if_pos h2]
theorem Jkx (h : mck P M mf C X = 0) (h2 : (X.length : Int) = C) : sqe P M mf C X = 0 := by unfold sqe; rw [if_neg (fun hh => hh h), if_neg (fun hh => hh h2)]
theorem Jb8 {Q : Option GFv × Int -> Prop} (hb : sqe P M mf C X ≠ 0 -> Q (none, sqe P M mf C X))
  (h : ∀ (F : GFv) (p m v g : Nat), GFk F p m v g -> FV P M mf p m v -> shp C X -> Els p m X -> (X.length : Int) = C -> sqe P M mf C X = 0 -> Q (some F, 0)) : Yw P M mf C X Q := by
 refine Z1 (fun h0 _ => ⟨h0, ?_⟩) fun F p m v g K hF hs he h0 => ⟨fun h1 => ⟨by decide, ?_⟩, fun h1 => ?_⟩
 .have := hb (by rw [Jmw h0]; exact h0); rwa [Jmw h0] at this
 .have := hb (by rw [Jqn h0 h1]; decide); rwa [Jqn h0 h1] at this
 .have h2 : (X.length : Int) = C := Classical.not_not.1 h1; exact h F p m v g K hF hs he h2 (Jkx h0 h2)
theorem w_Det {Q : Int × Int -> Prop} (hb : sqe P M mf C X ≠ 0 -> Q (0, sqe P M mf C X))
  (h : ∀ p m v, FV P M mf p m v -> shp C X -> Els p m X -> (X.length : Int) = C -> sqe P M mf C X = 0 -> Q ((if ((JV p m v C X).length : Int) < C then 0 else (ec p m v C X).d), 0)) : Jn7 P M mf C X Q := by
 refine Jb8 (fun h0 _ => hb h0) fun F p m v g K hF hs he hX h0 => ?_; obtain ⟨h1, h2, h3⟩ := YA hs; refine ⟨X, Jao (by omega) (YK hs) rfl, ⟨by omega, by omega, by omega⟩, ?_⟩; have hfin := h p m v hF hs he hX h0; have e : J3 F C X (List.replicate C.toNat ([] : List Int)) = J3 F ((C.toNat : Nat) : Int) X (List.replicate X.length ([] : List Int)) := by
  rw [h3, show C.toNat = X.length by omega]
 rw [e]; refine YJ K (by omega) (by omega) (wy := 0) (by omega) (Z3 hs) ?_; refine ⟨fun hlt => ?_, fun hge => ?_⟩
 .rw [if_pos (show ((JV p m v C X).length : Int) < C from hlt)] at hfin; exact hfin
 .rw [if_neg (show ¬ ((JV p m v C X).length : Int) < C from hge)] at hfin; exact hfin
def idm (n : Nat) : List (List Int) := (List.range n).map fun i => (List.replicate n (0 : Int)).set i 1
theorem Yp (n : Nat) : (idm n).length = n := by simp [idm]
theorem Zr {n t : Nat} (h : t < n) : row (idm n) t = (List.replicate n (0 : Int)).set t 1 := Zq h
theorem Jeu {n : Int} {Q : Int × List (List Int) -> Prop} (hn : 0 <= n /\ n <= 256) (h : Q (n, idm n.toNat)) : Zk n Q := by
 refine ⟨⟨by omega, by omega, by omega⟩, fun x z => ∃ t : Nat, z = t /\ t <= n.toNat /\ x.length = n.toNat /\ ∀ k, k < t -> row x k = row (idm n.toNat) k, fun _ z => (n - z).toNat, ⟨0, rfl, Nat.zero_le _, by simp, fun k hk => by omega⟩, ?_⟩; rintro x _ ⟨t, rfl, ht, hx, hk⟩; have hg : ∀ l : List Int, t < n.toNat -> gl (sll x (t : Int) l) (t : Int) = l := fun l hlt => by
  show row (x.set t l) t = l; rw [QH, if_pos ⟨rfl, by omega⟩]
 dsimp only; refine ⟨fun hlt => ?_, fun hge => ?_⟩
 .have htn : t < n.toNat := by omega
  rw [hg _ htn]; refine ⟨⟨by omega, by omega, by omega⟩, ⟨by omega, by omega⟩, ⟨by omega, by omega⟩, ⟨by omega, by rw [List.length_replicate]; omega⟩, Jz (by omega) (by omega), ⟨t + 1, by push_cast; rfl, by omega, by rw [Jcc, Jcc]; exact hx, fun k hk' => ?_⟩, by omega⟩; show row ((x.set t (List.replicate n.toNat 0)).set t ((List.replicate n.toNat (0 : Int)).set t 1)) k = _; rw [QH, List.length_set]; by_cases e : t = k
  .subst e; rw [if_pos ⟨rfl, by omega⟩, Zr htn]
  .rw [if_neg (fun h => e h.1), QH, if_neg (fun h => e h.1)]; exact hk k (by omega)
 .rw [show x = idm n.toNat from QE (by rw [Yp]; exact hx) fun i hi => hk i (by omega)]; exact h
theorem Jjn {n t : Nat} (h : t < n) : (row (idm n) t).length = n := by rw [Zr h]; simp
def ei (p m v : Nat) (C : Int) (X : List (List Int)) : ES := elim p m v C.toNat ⟨X, idm C.toNat, [], 1⟩
theorem ei_shp (hs : shp C X) (hX : (X.length : Int) = C) : Shp X.length C.toNat C.toNat ⟨X, idm C.toNat, [], 1⟩ := Jhb hs (by rw [Yp]; omega) fun t ht => Jjn (by omega)
theorem Jgh {Q : Int × List (List Int) × Int -> Prop} (hb : sqe P M mf C X ≠ 0 -> Q (0, [], sqe P M mf C X))
  (h : ∀ p m v, FV P M mf p m v -> shp C X -> Els p m X -> (X.length : Int) = C -> sqe P M mf C X = 0 -> (((ei p m v C X).pv.length : Int) < C -> Q (0, [], 9)) /\ (¬ ((ei p m v C X).pv.length : Int) < C -> Q (C, (ei p m v C X).Y, 0))) : ZZ P M mf C X Q := by
 refine Jb8 (fun h0 _ => hb h0) fun F p m v g K hF hs he hX h0 => Jeu ⟨hs.1, hs.2.1⟩ ⟨X, Jao (by have := YX hs; omega) (YK hs) rfl, ?_⟩; obtain ⟨h1, h2, h3⟩ := YA hs; have hfin := h p m v hF hs he hX h0; have e : J3 F C X (idm C.toNat) = J3 F ((C.toNat : Nat) : Int) X (idm C.toNat) := by rw [h3]
 rw [e]; exact YJ K (by omega) (by omega) (wy := C.toNat) (by omega) (ei_shp hs hX) hfin
def cmb (p m v : Nat) (x : List Int) (C : Nat) (X : List (List Int)) (k : Nat) : List Int := (List.range k).foldl (fun s i => adx p m v s (vo x i) (row X i)) (List.replicate C 0)
theorem Jcq (x : List Int) (C : Nat) (k : Nat) : cmb p m v x C X (k + 1) = adx p m v (cmb p m v x C X k) (vo x k) (row X k) := by
 unfold cmb; rw [List.range_succ, List.foldl_append]; rfl
theorem Jek (x : List Int) (C : Nat) : ∀ k, (cmb p m v x C X k).length = C
 | 0 => by simp [cmb]
 | k + 1 => by rw [Jcq, Jel]; exact Jek x C k
theorem Jgg {x : List Int} {Q : List Int -> Prop} (K : GFk F p m v g) (hs : shp C X) (hx : x.length = X.length) (h : Q (cmb p m v x C.toNat X X.length)) : ZX F x C X Q := by
 obtain ⟨h1, h2, h3⟩ := YA hs; refine ⟨⟨by omega, by omega, by omega⟩, fun y z => ∃ t : Nat, z = t /\ t <= X.length /\ y = cmb p m v x C.toNat X t, fun _ z => (X.length - z).toNat, ⟨0, rfl, Nat.zero_le _, rfl⟩, ?_⟩; rintro _ _ ⟨t, rfl, ht, rfl⟩; refine ⟨fun hlt => ?_, fun hge => by rw [show t = X.length by omega]; exact h⟩; have hr := Yk hs (t := t) (by omega); have hc := Jek (p := p) (m := m) (v := v) (X := X) x C.toNat t; refine ⟨⟨by omega, by omega⟩, ⟨by omega, by omega⟩, ZB K (by show (row X t).length <= _; omega) (by omega) ⟨Jz (by omega) (by omega), ⟨t + 1, by push_cast; rfl, by omega, ?_⟩, ?_⟩⟩
 .rw [Jcq]; rfl
 .show ((X.length : Int) - ((t : Int) + 1)).toNat < ((X.length : Int) - (t : Int)).toNat; omega
open Classical in
noncomputable def vce (p m : Nat) (x : List Int) (n : Nat) : Int := if x.length ≠ n then 3 else if ¬ Elr p m x then 2 else 0
theorem Jit {x : List Int} {n : Nat} (h : vce p m x n = 0) : x.length = n /\ Elr p m x := by
 unfold vce at h; split at h
 .exact absurd h (by decide)
 .rename_i h1
  split at h
  .exact absurd h (by decide)
  .rename_i h2; exact ⟨Classical.not_not.1 h1, Classical.not_not.1 h2⟩
theorem Jpz {x : List Int} {Q : Int -> Prop} (K : GFk F p m v g) (hX : X.length <= 1000000) (h : Q (vce p m x X.length)) : Jf3 F x C X Q := by
 refine ⟨fun hne => ?_, fun he => ?_⟩
 .have hne' : x.length ≠ X.length := by omega
  unfold vce at h; rw [if_pos hne'] at h; exact h
 .have he' : x.length = X.length := by have := Classical.not_not.1 he; omega
  unfold vce at h; rw [if_neg (fun hh => hh he')] at h; refine Jbl K (by omega) (fun h1 => ?_) (fun h1 => ?_)
  .rw [if_neg (fun hh => hh h1)] at h; exact ⟨fun h0 => absurd h0 (by decide), fun _ => h⟩
  .rw [if_pos h1] at h; exact ⟨fun _ => h, fun h0 => absurd h0 (by decide)⟩
theorem w_Vec {x : List Int} {Q : List Int × Int -> Prop} (hb : mck P M mf C X ≠ 0 -> Q ([], mck P M mf C X))
  (h : ∀ p m v, FV P M mf p m v -> shp C X -> Els p m X -> mck P M mf C X = 0 -> (vce p m x X.length ≠ 0 -> Q ([], vce p m x X.length)) /\ (vce p m x X.length = 0 -> Q (cmb p m v x C.toNat X X.length, 0))) : Jn4 P M mf x C X Q := by
 refine Z1 (fun h0 _ => hb h0) fun F p m v g K hF hs he h0 => ?_; have hfin := h p m v hF hs he h0; refine Jpz K (by have := YX hs; omega) ⟨hfin.1, fun h1 => ?_⟩; have h1' : vce p m x X.length = 0 := Classical.not_not.1 h1; exact Jgg K hs (Jit h1').1 (hfin.2 h1')
def rgt (b : List Int) : List (List Int) := b.map fun y => [y]
theorem Jhc (b : List Int) : (rgt b).length = b.length := by simp [rgt]
theorem Jm0 {b : List Int} {t : Nat} (h : t < b.length) : row (rgt b) t = [vo b t] := by
 unfold row rgt vo; rw [List.getD_eq_getElem?_getD, List.getElem?_map, List.getD_eq_getElem?_getD, List.getElem?_eq_getElem h]; rfl
def eb (p m v : Nat) (C : Int) (X : List (List Int)) (b : List Int) : ES := elim p m v C.toNat ⟨X, rgt b, [], 1⟩
def slv (C : Nat) (pv : List Int) (Z : List (List Int)) (k : Nat) : List Int := (List.range k).foldl (fun x i => if i < pv.length then x.set (vo pv i).toNat (vo (row Z i) 0) else x) (List.replicate C 0)
theorem Ji4 (C : Nat) (pv : List Int) (Z : List (List Int)) (k : Nat) : slv C pv Z (k + 1) = if k < pv.length then (slv C pv Z k).set (vo pv k).toNat (vo (row Z k) 0) else slv C pv Z k := by
 unfold slv; rw [List.range_succ, List.foldl_append]; rfl
theorem eb_shp (hs : shp C X) {b : List Int} (hb : b.length = X.length) : Shp X.length C.toNat 1 ⟨X, rgt b, [], 1⟩ := Jhb hs (by rw [Jhc]; exact hb) fun t ht => by rw [Jm0 (by omega)]; rfl
theorem Jtf {b : List Int} {Q : List Int × Int -> Prop} (hb : mck P M mf C X ≠ 0 -> Q ([], mck P M mf C X))
  (h : ∀ p m v, FV P M mf p m v -> shp C X -> Els p m X -> mck P M mf C X = 0 -> (vce p m b X.length ≠ 0 -> Q ([], vce p m b X.length)) /\ (vce p m b X.length = 0 ->
   ((∃ i, (eb p m v C X b).pv.length <= i /\ i < b.length /\ vo (row (eb p m v C X b).Y i) 0 ≠ 0) -> Q ([], 11)) /\ ((∀ i, (eb p m v C X b).pv.length <= i -> i < b.length -> vo (row (eb p m v C X b).Y i) 0 = 0) -> Q (slv C.toNat (eb p m v C X b).pv (eb p m v C X b).Y b.length, 0)))) : Jes P M mf C X b Q := by
 refine Z1 (fun h0 _ => hb h0) fun F p m v g K hF hs he h0 => ?_; have hfin := h p m v hF hs he h0; obtain ⟨h1, h2, h3⟩ := YA hs; refine Jpz K (by omega) ⟨hfin.1, fun hv => ?_⟩; have hv' : vce p m b X.length = 0 := Classical.not_not.1 hv; have hbl := (Jit hv').1; have hfin := hfin.2 hv'; refine ⟨⟨by omega, by omega, by omega⟩, fun x z => ∃ t : Nat, z = t /\ t <= b.length /\ x.length = b.length /\ ∀ k, k < t -> row x k = row (rgt b) k, fun _ z => (b.length - z).toNat, ⟨0, rfl, Nat.zero_le _, by simp, fun k hk => by omega⟩, ?_⟩; rintro x _ ⟨t, rfl, ht, hx, hk⟩; dsimp only; refine ⟨fun hlt => ⟨⟨by omega, by omega⟩, ⟨by omega, by omega⟩, Jz (by omega) (by omega), ⟨t + 1, by push_cast; rfl, by omega, by rw [Jcc]; exact hx, fun k hk' => ?_⟩, by omega⟩, fun hge => ?_⟩
 .show row (x.set t [vo b t]) k = _; rw [QH]; by_cases e : t = k
  .subst e; rw [if_pos ⟨rfl, by omega⟩, Jm0 (by omega)]
  .rw [if_neg (fun h => e h.1)]; exact hk k (by omega)
 .have ex : x = rgt b := QE (by rw [Jhc]; exact hx) fun i hi => hk i (by omega); subst ex; refine ⟨X, Jao (by omega) (YK hs) rfl, ?_⟩; have e : J3 F C X (rgt b) = J3 F ((C.toNat : Nat) : Int) X (rgt b) := by rw [h3]
  rw [e]; have hS := eb_shp hs hbl; refine YJ K (by omega) (by omega) (wy := 1) (by omega) hS ?_; have hs2 := QL (p := p) (m := m) (v := v) hS C.toNat; have hasc := Jcn (p := p) (m := m) (v := v) (S := ⟨X, rgt b, [], 1⟩) rfl C.toNat; unfold eb at hfin; generalize elim p m v C.toNat ⟨X, rgt b, [], 1⟩ = E at *
  have hyl := hs2.yl; have hyr := hs2.yr; have hpl := hs2.pl; dsimp only; refine ⟨⟨by omega, by omega, by omega⟩, fun x z => ∃ t : Nat, z = t /\ t <= b.length /\ x = slv C.toNat E.pv E.Y t /\ ∀ i, E.pv.length <= i -> i < t -> vo (row E.Y i) 0 = 0, fun _ z => (b.length - z).toNat, ⟨0, rfl, Nat.zero_le _, rfl, fun i _ hi => by omega⟩, ?_⟩; rintro _ _ ⟨t, rfl, ht, rfl, hz⟩; have hrl := Jhc b; refine ⟨fun hlt => ?_, fun hge => ?_⟩
  .have htb : t < b.length := by omega
   have hy := hyr t (by omega); refine ⟨fun x => x = slv C.toNat E.pv E.Y (t + 1) /\ ∀ i, E.pv.length <= i -> i < t + 1 -> vo (row E.Y i) 0 = 0, ⟨⟨by omega, by omega⟩, fun hlt2 => ?_, fun hge2 => ?_⟩, ?_⟩
   .have hv2 : 0 <= gi E.pv (t : Int) /\ gi E.pv (t : Int) < ((C.toNat : Nat) : Int) := hasc.1 t (by omega); refine ⟨⟨by omega, by omega⟩, ⟨by omega, by show (0 : Int) < ((row E.Y t).length : Nat); omega⟩, hv2, ?_, fun i h4 h5 => ?_⟩
    .rw [Ji4, if_pos (by omega)]; rfl
    .exact hz i h4 (by omega)
   .refine ⟨⟨by omega, by show (0 : Int) < ((row E.Y t).length : Nat); omega⟩, fun hne => hfin.1 ⟨t, by omega, htb, hne⟩, fun he0 => ⟨?_, fun i h4 h5 => ?_⟩⟩
    .rw [Ji4, if_neg (by omega)]
    .rcases Nat.lt_or_ge i t with h6 | h6
     .exact hz i h4 h6
     .rw [show i = t by omega]; exact Classical.not_not.1 he0
   .rintro _ ⟨rfl, hz2⟩; refine ⟨Jz (by omega) (by omega), ⟨t + 1, by push_cast; rfl, by omega, rfl, hz2⟩, ?_⟩; show ((b.length : Int) - ((t : Int) + 1)).toNat < ((b.length : Int) - (t : Int)).toNat; omega
  .have htb : t = b.length := by omega
   rw [htb] at hz ⊢; exact hfin.2 hz
end
theorem islf2 : IsLf 2 2 := ⟨by decide, by decide, fun e h _ => h⟩
theorem islf5 : IsLf 5 5 := ⟨by decide, by decide, fun e h1 h2 => by
 rcases Nat.lt_or_ge e 5 with h | h
 .rcases (show e = 2 ∨ e = 3 ∨ e = 4 by omega) with rfl | rfl | rfl <;> simp at h2
 .exact h⟩
theorem fv2 : FV 2 1 [] 2 1 0 := Ja3 islf2 (by decide)
theorem fv5 : FV 5 1 [] 5 1 0 := Ja3 islf5 (by decide)
def A3 : List (List Int) := [[1, 1, 0], [0, 1, 1], [1, 0, 1]]
def A2 : List (List Int) := [[1, 2], [3, 4]]
theorem shp_A3 : shp 3 A3 := ⟨by decide, by decide, by decide, by decide⟩
theorem Jqr : shp 2 A2 := ⟨by decide, by decide, by decide, by decide⟩
instance (p m : Nat) (x : Int) : Decidable (El p m x) := inferInstanceAs (Decidable (_ /\ _))
theorem els_A3 : Els 2 1 A3 := by unfold Els Elr; decide
theorem els_A2 : Els 5 1 A2 := by unfold Els Elr; decide
theorem Jt4 : ¬ Els 2 1 A2 := by unfold Els Elr; decide
theorem Jlg : mck 2 1 [] 3 A3 = 0 := Jfh ⟨_, _, _, fv2⟩ shp_A3 ⟨_, _, _, fv2, els_A3⟩
theorem Jhq : mck 5 1 [] 2 A2 = 0 := Jfh ⟨_, _, _, fv5⟩ Jqr ⟨_, _, _, fv5, els_A2⟩
theorem Jt7 : mck 2 1 [] 2 A2 = 2 := Jeg ⟨_, _, _, fv2⟩ Jqr fun h => Jt4 ((Q9 fv2).1 h)
theorem Jqo : sqe 5 1 [] 2 A2 = 0 := Jkx Jhq rfl
theorem ev1 : Qn 2 1 0 3 A3 = [[1, 0, 1], [0, 1, 1]] := by decide +kernel
theorem ev2 : JV 2 1 0 3 A3 = [0, 1] := by decide +kernel
theorem ev3 : Qn 2 1 0 3 (basC 2 1 0 3 A3) = [[1, 1, 1]] := by decide +kernel
theorem ev4 : (if ((JV 5 1 0 2 A2).length : Int) < 2 then 0 else (ec 5 1 0 2 A2).d) = 3 := by decide +kernel
theorem ev5 : ¬ ((ei 5 1 0 2 A2).pv.length : Int) < 2 := by decide +kernel
theorem ev6 : (ei 5 1 0 2 A2).Y = [[3, 1], [4, 2]] := by decide +kernel
theorem ev7 : cmb 5 1 0 [1, 1] (2 : Int).toNat A2 A2.length = [4, 1] := by decide +kernel
theorem ev8 : slv (2 : Int).toNat (eb 5 1 0 2 A2 [3, 2]).pv (eb 5 1 0 2 A2 [3, 2]).Y 2 = [1, 1] := by decide +kernel
theorem ev9 : (eb 5 1 0 2 A2 [3, 2]).pv.length = 2 := by decide +kernel
theorem Jp8 {p m : Nat} {x : List Int} {n : Nat} (h : x.length = n) (he : Elr p m x) : vce p m x n = 0 := by
 unfold vce; rw [if_neg (fun hh => hh h), if_neg (fun hh => hh he)]
theorem Jg5 {Q : Bool -> Prop} (h : Q true) : Jaj Q := by
 refine Jdu (X := A3) (fun h0 => absurd Jlg h0) fun p m v hF _ _ _ => ?_; obtain ⟨rfl, rfl, rfl⟩ := fv2.uniq3 hF; rw [ev1, ev2]; refine w_Rank (X := A3) (fun h0 => absurd Jlg h0) fun p m v hF _ _ _ => ?_; obtain ⟨rfl, rfl, rfl⟩ := fv2.uniq3 hF; rw [ev2]; refine Jp0 (X := A3) (fun h0 => absurd Jlg h0) fun p m v hF _ _ _ => ?_; obtain ⟨rfl, rfl, rfl⟩ := fv2.uniq3 hF; rw [ev3]; refine w_Det (X := A2) (fun h0 => absurd Jqo h0) fun p m v hF _ _ _ _ => ?_; obtain ⟨rfl, rfl, rfl⟩ := fv5.uniq3 hF; rw [ev4]; refine Jgh (X := A2) (fun h0 => absurd Jqo h0) fun p m v hF _ _ _ _ => ?_; obtain ⟨rfl, rfl, rfl⟩ := fv5.uniq3 hF; refine ⟨fun h0 => absurd h0 ev5, fun _ => ?_⟩; rw [ev6]; refine w_Vec (X := A2) (fun h0 => absurd Jhq h0) fun p m v hF _ _ _ => ?_; obtain ⟨rfl, rfl, rfl⟩ := fv5.uniq3 hF; refine ⟨fun h0 => absurd (Jp8 rfl (by unfold Elr; decide)) h0, fun _ => ?_⟩; rw [ev7]; refine Jtf (X := A2) (fun h0 => absurd Jhq h0) fun p m v hF _ _ _ => ?_; obtain ⟨rfl, rfl, rfl⟩ := fv5.uniq3 hF; refine ⟨fun h0 => absurd (Jp8 rfl (by unfold Elr; decide)) h0, fun _ => ⟨fun ⟨i, h1, h2, _⟩ => by rw [ev9] at h1; simp at h2; omega, fun _ => ?_⟩⟩; rw [show slv (2 : Int).toNat (eb 5 1 0 2 A2 [3, 2]).pv (eb 5 1 0 2 A2 [3, 2]).Y ([3, 2] : List Int).length = [1, 1] from ev8]; refine ⟨fun _ => ⟨fun _ => ⟨fun _ => ⟨fun _ => ⟨fun _ => ⟨fun _ => ⟨fun _ => ?_, fun h => absurd rfl h⟩, fun h => absurd rfl h⟩, fun h => absurd rfl h⟩, fun h => absurd rfl h⟩, fun h => absurd rfl h⟩, fun h => absurd rfl h⟩, fun h => absurd rfl h⟩; refine Zo (by decide) (by decide) ⟨fun _ => Zn (by decide) ⟨fun _ => ⟨fun _ => Zo (by decide) (by decide) ⟨fun _ => ⟨fun _ => Zo (by decide) (by decide) ⟨fun _ => Zn (by decide) ⟨fun _ => Zn (by decide) ⟨fun _ => Jir (X := A2) ⟨fun _ => Jir (X := A2) ?_, fun h => absurd Jhq h⟩, fun h => absurd h (by decide)⟩, fun h => absurd h (by decide)⟩, fun h => absurd h (by decide)⟩, fun h => absurd rfl h⟩, fun h => absurd h (by decide)⟩, fun h => absurd rfl h⟩, fun h => absurd h (by decide)⟩, fun h => absurd h (by decide)⟩; rw [Jt7]; exact h
end Go.Proofs.Ytlfeialpcdoleaa
set_option linter.unusedVariables false
set_option linter.unusedSimpArgs false
namespace Go.Proofs.Ytlfeialpcdoleaa
end Go.Proofs.Ytlfeialpcdoleaa
set_option linter.unusedVariables false
set_option linter.unusedSimpArgs false
namespace Go.Proofs.Ytlfeialpcdoleaa
section
variable {F : GFv} {p m v g : Nat} {P M : Int} {mf : List Int} {X : List (List Int)} {C : Int} {set y : List Int}
theorem Jtc {n : Int} {Q : List (List Int) -> Prop} (hn : 0 <= n /\ n <= 256) (h : Q (idm n.toNat)) : Jeo n Q := by
 refine ⟨fun x z => ∃ t : Nat, z = t /\ t <= n.toNat /\ x = (List.range t).map fun i => (List.replicate n.toNat (0 : Int)).set i 1, fun _ z => (n - z).toNat, ⟨0, rfl, Nat.zero_le _, rfl⟩, ?_⟩; rintro _ _ ⟨t, rfl, ht, rfl⟩; dsimp only; refine ⟨fun hlt => ⟨⟨by omega, by omega, by omega⟩, ⟨by omega, by omega⟩, by simp; omega, Jz (by omega) (by omega), ⟨t + 1, by push_cast; rfl, by omega, ?_⟩, by omega⟩, fun hge => ?_⟩
 .rw [List.range_succ, List.map_append]; rfl
 .rw [show t = n.toNat by omega]; exact h
end
end Go.Proofs.Ytlfeialpcdoleaa
set_option linter.unusedVariables false
set_option linter.unusedSimpArgs false
namespace Go.Proofs.Ytlfeialpcdoleaa
section
variable {p m v : Nat} {P M : Int} {mf : List Int} {X Y : List (List Int)} {C : Int} {w : Nat}
def en (p m : Nat) (l : List Int) : Nat -> Nat := fun c => inE (p ^ m) (vo l c)
structure Lin (p m v w : Nat) (f : (Nat -> Nat) -> Nat) : Prop where
  lt : ∀ a, f a < p ^ m
  cg : ∀ {a b : Nat -> Nat}, (∀ c, c < w -> a c = b c) -> f a = f b
  ad : ∀ {a b : Nat -> Nat} {x : Nat}, (∀ c, a c < p ^ m) -> (∀ c, b c < p ^ m) -> x < p ^ m -> f (fun c => JU p m (a c) (Jv p m (dv p v) x (b c))) = JU p m (f a) (Jv p m (dv p v) x (f b))
  ml : ∀ {a : Nat -> Nat} {x : Nat}, (∀ c, a c < p ^ m) -> x < p ^ m -> f (fun c => Jv p m (dv p v) x (a c)) = Jv p m (dv p v) x (f a)
def Ann (p m : Nat) (f : (Nat -> Nat) -> Nat) (X : List (List Int)) : Prop := ∀ t, t < X.length -> f (en p m (row X t)) = 0
theorem QT (hF : FV P M mf p m v) (l : List Int) (c : Nat) : en p m l c < p ^ m := Qe (by have := hF.ring.q2; omega) _
theorem Jfq (hF : FV P M mf p m v) {a o : List Int} {x : Int} {c : Nat} (hc : c < a.length) : en p m (adx p m v a x o) c = JU p m (en p m a c) (Jv p m (dv p v) (inE (p ^ m) x) (en p m o c)) := by
 have R := hF.ring; have hq : 0 < p ^ m := by have := R.q2; omega
 have e0 : inE (p ^ m) 0 = 0 := QA (x := 0) hq; have hz : ∀ y, y < p ^ m -> Jv p m (dv p v) 0 y = 0 := fun y hy => by rw [R.Mc hq hy]; exact R.M0 hy
 unfold en adx; split
 .rename_i h; subst h
  rw [e0, hz _ (Qe hq _), R.Az (Qe hq _)]
 .rw [Y7 hc]; split
  .rename_i h; rw [h, e0, R.M0 (Qe hq _), R.Az (Qe hq _)]
  .unfold Ad Ml; rw [QA (R.Al _ _), QA (R.Ml _ _)]
theorem Jrt (hF : FV P M mf p m v) {l : List Int} {x : Int} {c : Nat} (hc : c < l.length) : en p m (sc p m v x l) c = Jv p m (dv p v) (inE (p ^ m) x) (en p m l c) := by
 unfold en; rw [Jev hc]; unfold Ml; rw [QA (hF.ring.Ml _ _)]
theorem Lin.adx {f : (Nat -> Nat) -> Nat} (L : Lin p m v w f) (hF : FV P M mf p m v) {a o : List Int} {x : Int} (ha : a.length = w) : f (en p m (adx p m v a x o)) = JU p m (f (en p m a)) (Jv p m (dv p v) (inE (p ^ m) x) (f (en p m o))) := by
 rw [<- L.ad (QT hF a) (QT hF o) (Qe (by have := hF.ring.q2; omega) x)]; exact L.cg fun c hc => Jfq hF (by omega)
theorem Lin.sc {f : (Nat -> Nat) -> Nat} (L : Lin p m v w f) (hF : FV P M mf p m v) {l : List Int} {x : Int} (hl : l.length = w) : f (en p m (sc p m v x l)) = Jv p m (dv p v) (inE (p ^ m) x) (f (en p m l)) := by
 rw [<- L.ml (QT hF l) (Qe (by have := hF.ring.q2; omega) x)]; exact L.cg fun c hc => Jrt hF (by omega)
theorem QQ {r cur t : Nat} (hr : r < X.length) (hc : cur < X.length) : row (swq X r cur) t = if t = cur then row X r else if t = r then row X cur else row X t := by
  unfold swq
  split
  . rename_i h; subst h
    split
    . rename_i h; rw [h]
    . rfl
  . exact Zp hr hc
theorem YD {cur t : Nat} {e : Int} (hc : cur < X.length) : row (scq p m v X cur e) t = if t = cur then sc p m v (Iv p m v e) (row X cur) else row X t := by
 unfold scq; rw [QH]; by_cases h : cur = t
 .rw [if_pos ⟨h, hc⟩, if_pos h.symm]
 .rw [if_neg (fun hh => h hh.1), if_neg (fun hh => h hh.symm)]
theorem Jur {f : (Nat -> Nat) -> Nat} {r cur : Nat} (hr : r < X.length) (hc : cur < X.length) (h : Ann p m f (swq X r cur)) : Ann p m f X := fun t ht => by
 rw [Ann, JL] at h; by_cases h1 : t = r
 .have := h cur hc; rw [QQ hr hc, if_pos rfl] at this; rw [h1]; exact this
 .by_cases h2 : t = cur
  .have := h r hr; rw [QQ hr hc] at this; rw [if_neg (fun e => h1 (h2.trans e.symm)), if_pos rfl] at this; rw [h2]; exact this
  .have := h t ht; rw [QQ hr hc, if_neg h2, if_neg h1] at this; exact this
theorem Jus {f : (Nat -> Nat) -> Nat} (L : Lin p m v w f) (hF : FV P M mf p m v) {cur : Nat} {e : Int} {z : Nat} (hz : z < p ^ m) (he : Jv p m (dv p v) z (inE (p ^ m) (Iv p m v e)) = 1) (hc : cur < X.length) (hw : (row X cur).length = w) (h : Ann p m f (scq p m v X cur e)) : Ann p m f X := fun t ht => by
 have R := hF.ring; have q1 : 1 < p ^ m := R.q2; rw [Ann, Qa] at h; have h3 := h t ht; rw [YD hc] at h3; split at h3
 .rename_i h1; subst h1
  rw [L.sc hF hw] at h3; have hi := Qe (q := p ^ m) (by omega) (Iv p m v e); have h4 := R.Ma hz hi (L.lt (en p m (row X t))); rw [he, h3, R.M0 hz, R.Mc q1 (L.lt _), R.M1 (L.lt _)] at h4; exact h4
 .exact h3
theorem Jut {f : (Nat -> Nat) -> Nat} (L : Lin p m v w f) (hF : FV P M mf p m v) {cur : Nat} {g : Nat -> Int} (hc : cur < X.length) (hw : ∀ t, t < X.length -> (row X t).length = w) (h : Ann p m f (clr p m v g cur X)) : Ann p m f X := fun t ht => by
 have R := hF.ring; have hq : 0 < p ^ m := by have := R.q2; omega
 rw [Ann, Q5] at h; have hcur := h cur hc; rw [Q4 hc, if_pos rfl] at hcur; have h3 := h t ht; rw [Q4 ht] at h3; split at h3
 .exact h3
 .rw [L.adx hF (hw t ht), hcur, R.M0 (Qe hq _), R.Az (L.lt _)] at h3; exact h3
theorem Jrf {g : Nat} (K : Gn (p ^ m) (Jv p m (dv p v)) g) (hF : FV P M mf p m v) {x : Int} (h0 : x ≠ 0) (hx : El p m x) : inE (p ^ m) x < p ^ m /\ Jv p m (dv p v) (inE (p ^ m) x) (inE (p ^ m) (Iv p m v x)) = 1 := by
 have R := hF.ring; have q1 : 1 < p ^ m := R.q2; have hx1 := Qe (q := p ^ m) (by omega) x; have hne : 0 < inE (p ^ m) x := by
  have := Jdg hx; omega
 have h1 := K.xone R hne hx1; refine ⟨hx1, ?_⟩; have hz : pw (Jv p m (dv p v)) (inE (p ^ m) x) (p ^ m - 1 - 1) < p ^ m := by
  cases p ^ m - 1 - 1 with
  | zero => exact q1
  | succ n => exact R.Ml _ _
 have h2 : Jv p m (dv p v) (pw (Jv p m (dv p v)) (inE (p ^ m) x) (p ^ m - 1 - 1)) (inE (p ^ m) x) = 1 := by
  rw [show p ^ m - 1 = (p ^ m - 1 - 1) + 1 by omega] at h1; exact h1
 rw [Jn9 R hx1 hz h2, QA hz, R.Mc hx1 hz]; exact h2
theorem Jsf {g : Nat} (K : Gn (p ^ m) (Jv p m (dv p v)) g) (hF : FV P M mf p m v) {f : (Nat -> Nat) -> Nat} (L : Lin p m v w f) {S : ES} {c : Nat} (he : Els p m S.X) (hw : ∀ t, t < S.X.length -> (row S.X t).length = w) (h : Ann p m f (Qv p m v S c).X) : Ann p m f S.X := by
  unfold Qv at h
  split at h
  . rename_i h1
    obtain ⟨hc, hr⟩ := h1
    rw [Zc] at h
    have hw1 : ∀ t, t < (swq S.X (nz S.X c S.pv.length) S.pv.length).length -> (row (swq S.X (nz S.X c S.pv.length) S.pv.length) t).length = w := fun t ht => by
      rw [JL] at ht; exact QO hr hc hw ht
    have hrow : row (swq S.X (nz S.X c S.pv.length) S.pv.length) S.pv.length = row S.X (nz S.X c S.pv.length) := by rw [QQ hr hc, if_pos rfl]
    have hne := (Zu S.X c S.pv.length (by omega)).2.2 hr
    have hcl : c < (row S.X (nz S.X c S.pv.length)).length := by
      rcases Nat.lt_or_ge c (row S.X (nz S.X c S.pv.length)).length with h | h
      . exact h
      . exact absurd (Jb9 h) hne
    have hel : El p m (vo (row S.X (nz S.X c S.pv.length)) c) := J4 he _ _ (Jaq hcl)
    obtain ⟨h4, h5⟩ := Jrf K hF hne hel
    have h2 := Jut L hF (by rw [Qa, JL]; exact hc) (fun t ht => by rw [Qa] at ht; exact QP (by rw [JL]; exact hc) hw1 ht) h
    rw [hrow] at h2
    have h3 := Jus L hF h4 h5 (by rw [JL]; exact hc) (hw1 _ (by rw [JL]; exact hc)) h2
    exact Jur hr hc h3
  . exact h
theorem Jfx {g : Nat} (K : Gn (p ^ m) (Jv p m (dv p v)) g) (hF : FV P M mf p m v) {f : (Nat -> Nat) -> Nat} (L : Lin p m v w f) {n wy : Nat} {S : ES} (hS : Shp n w wy S) (he : Els p m S.X) : ∀ k, Ann p m f (elim p m v k S).X -> Ann p m f S.X
 | 0, h => h
 | k + 1, h => by
  rw [Qs] at h; have hk := QL (p := p) (m := m) (v := v) hS k; refine Jfx K hF L hS he k (Jsf K hF L (Ze (by have := hF.p2; omega) he k) (fun t ht => hk.xr t (by have := hk.xl; omega)) h)
end
end Go.Proofs.Ytlfeialpcdoleaa
set_option linter.unusedVariables false
set_option linter.unusedSimpArgs false
namespace Go.Proofs.Ytlfeialpcdoleaa
section
variable {p m v g : Nat} {P M : Int} {mf : List Int} {X Y : List (List Int)} {C : Int} {w : Nat}
structure Red (k : Nat) (S : ES) : Prop where
  one : ∀ i, i < S.pv.length -> ∀ t, t < S.X.length -> vo (row S.X t) (vo S.pv i).toNat = if t = i then 1 else 0
  lo : ∀ t, S.pv.length <= t -> t < S.X.length -> ∀ c, c < k -> vo (row S.X t) c = 0
  lf : ∀ i, i < S.pv.length -> ∀ c : Nat, (c : Int) < vo S.pv i -> vo (row S.X i) c = 0
theorem Jtg {a o : List Int} {x : Int} {c : Nat} (h : vo o c = 0) : vo (adx p m v a x o) c = vo a c := by
 unfold adx; split
 .rfl
 .rcases Nat.lt_or_ge c a.length with hc | hc
  .rw [Y7 hc, if_pos h]
  .rw [Jb9 hc, Jb9 (by rw [YF]; exact hc)]
theorem Jp2 (hF : FV P M mf p m v) {l : List Int} {x : Int} {c : Nat} (h : vo l c = 0) : vo (sc p m v x l) c = 0 := by
 have hq : 0 < p ^ m := by have := hF.ring.q2; omega
 rcases Nat.lt_or_ge c l.length with hc | hc
 .rw [Jev hc, h]; unfold Ml; rw [show inE (p ^ m) 0 = 0 from QA (x := 0) hq, hF.ring.M0 (Qe hq _)]; rfl
 .exact Jb9 (by unfold sc; rw [List.length_map]; exact hc)
theorem Jqz (K : Gn (p ^ m) (Jv p m (dv p v)) g) (hF : FV P M mf p m v) {S : ES} {k : Nat} (hA : Asc k S.pv) (hl : S.pv.length <= S.X.length) (he : Els p m S.X) (h : Red k S) : Red (k + 1) (Qv p m v S k) := by
 have R := hF.ring; have q1 : 1 < p ^ m := R.q2; have hp : 0 < p := by have := hF.p2; omega
 unfold Qv; split
 case isFalse h1 =>
  refine ⟨h.one, fun t ht1 ht2 c hc => ?_, h.lf⟩; rcases Nat.lt_or_ge c k with hck | hck
  .exact h.lo t ht1 ht2 c hck
  .have e : c = k := by omega
   subst e; have hs := Zu S.X c S.pv.length hl; exact hs.2.1 t ht1 (by
    rcases Nat.lt_or_ge t (nz S.X c S.pv.length) with h | h
    .exact h
    .exact absurd ⟨by omega, by omega⟩ h1)
 case isTrue h1 =>
  obtain ⟨hc, hr⟩ := h1; have hrs := Jnc S.X k S.pv.length; have hne := (Zu S.X k S.pv.length hl).2.2 hr; have hkl : k < (row S.X (nz S.X k S.pv.length)).length := by
   rcases Nat.lt_or_ge k (row S.X (nz S.X k S.pv.length)).length with h | h
   .exact h
   .exact absurd (Jb9 h) hne
  have hel : El p m (vo (row S.X (nz S.X k S.pv.length)) k) := J4 he _ _ (Jaq hkl); obtain ⟨h4, h5⟩ := Jrf K hF hne hel; have hE3 : Els p m (es1 p m v k (nz S.X k S.pv.length) S.pv.length S).X := Jhy hp he hr hc; have hn : (es1 p m v k (nz S.X k S.pv.length) S.pv.length S).X.length = S.X.length := by rw [Zc, Q5, Qa, JL]
  generalize hrr : nz S.X k S.pv.length = r at *
  have hx2 : ∀ t, row (scq p m v (swq S.X r S.pv.length) S.pv.length (vo (row (swq S.X r S.pv.length) S.pv.length) k)) t = if t = S.pv.length then sc p m v (Iv p m v (vo (row S.X r) k)) (row S.X r) else if t = r then row S.X S.pv.length else row S.X t := fun t => by
   rw [YD (by rw [JL]; exact hc), QQ hr hc, QQ hr hc, if_pos rfl]; split <;> rfl
  have hx3 : ∀ t, t < S.X.length -> row (es1 p m v k r S.pv.length S).X t = if t = S.pv.length then sc p m v (Iv p m v (vo (row S.X r) k)) (row S.X r) else adx p m v (if t = r then row S.X S.pv.length else row S.X t) (Ng p m (vo (if t = r then row S.X S.pv.length else row S.X t) k)) (sc p m v (Iv p m v (vo (row S.X r) k)) (row S.X r)) := fun t ht => by
   rw [Zc, Q4 (by rw [Qa, JL]; exact ht), hx2, hx2, if_pos rfl]; split
   .rfl
   .rfl
  -- the columns before stay
  have hold : ∀ t, t < S.X.length -> ∀ c, c < k -> vo (row (es1 p m v k r S.pv.length S).X t) c = vo (row S.X t) c := fun t ht c hck => by
   have z1 : vo (row S.X r) c = 0 := h.lo r hrs hr c hck; have z2 : vo (row S.X S.pv.length) c = 0 := h.lo _ (Nat.le_refl _) hc c hck; rw [hx3 t ht]; split
   .rename_i e; rw [Jp2 hF z1, e, z2]
   .rw [Jtg (Jp2 hF z1)]; split
    .rename_i e; rw [z2, e, z1]
    .rfl
  have hone : vo (sc p m v (Iv p m v (vo (row S.X r) k)) (row S.X r)) k = 1 := by
   rw [Jev hkl]; unfold Ml; rw [R.Mc (Qe (by omega) _) h4, h5]; rfl
  have hnew : ∀ t, t < S.X.length -> vo (row (es1 p m v k r S.pv.length S).X t) k = if t = S.pv.length then 1 else 0 := fun t ht => by
   have hEt := J4 hE3 t; have hx := hx3 t ht; by_cases e : t = S.pv.length
   .rw [if_pos e] at hx ⊢; rw [hx]; exact hone
   .rw [if_neg e] at hx ⊢; rcases Nat.lt_or_ge k (if t = r then row S.X S.pv.length else row S.X t).length with hkt | hkt
    .have h6 := Jfq hF (x := Ng p m (vo (if t = r then row S.X S.pv.length else row S.X t) k)) (o := sc p m v (Iv p m v (vo (row S.X r) k)) (row S.X r)) hkt; rw [<- hx] at h6; have h7 : en p m (sc p m v (Iv p m v (vo (row S.X r) k)) (row S.X r)) k = 1 := by unfold en; rw [hone]; exact QA (x := 1) q1
     rw [h7] at h6; unfold Ng at h6; have h8 : QY p m (inE (p ^ m) (vo (if t = r then row S.X S.pv.length else row S.X t) k)) < p ^ m := Zv hp _; rw [QA h8, R.M1 h8] at h6; have h9 : en p m (row (es1 p m v k r S.pv.length S).X t) k = 0 := by rw [h6]; exact Zb hp (Qe (by omega) _)
     have h10 : El p m (vo (row (es1 p m v k r S.pv.length S).X t) k) := hEt _ (Jaq (by rw [hx, Jel]; exact hkt)); rw [<- Jdg h10]; show ((en p m (row (es1 p m v k r S.pv.length S).X t) k : Nat) : Int) = 0; rw [h9]; rfl
    .rw [hx]; exact Jb9 (by rw [Jel]; exact hkt)
  have hpv : (es1 p m v k r S.pv.length S).pv = S.pv ++ [(k : Int)] := rfl; refine ⟨fun i hi t ht => ?_, fun t ht1 ht2 c hck => ?_, fun i hi c hci => ?_⟩
  .rw [hn] at ht; rw [hpv, List.length_append, List.length_singleton] at hi; rw [hpv, Jca]; by_cases e : i < S.pv.length
   .rw [if_pos e, hold t ht _ (by have := hA.1 i e; omega)]; exact h.one i e t ht
   .have e2 : i = S.pv.length := by omega
    rw [if_neg e, if_pos e2, e2]; exact hnew t ht
  .rw [hn] at ht2; rw [hpv, List.length_append, List.length_singleton] at ht1; rcases Nat.lt_or_ge c k with h6 | h6
   .rw [hold t ht2 c h6]; exact h.lo t (by omega) ht2 c h6
   .rw [show c = k by omega, hnew t ht2, if_neg (by omega)]
  .rw [hpv, List.length_append, List.length_singleton] at hi; rw [hpv, Jca] at hci; by_cases e : i < S.pv.length
   .rw [if_pos e] at hci; rw [hold i (by omega) c (by have := hA.1 i e; omega)]; exact h.lf i e c hci
   .have e2 : i = S.pv.length := by omega
    rw [if_neg e, if_pos e2] at hci; rw [hold i (by omega) c (by omega), e2]; exact h.lo _ (Nat.le_refl _) hc c (by omega)
theorem Ji7 (K : Gn (p ^ m) (Jv p m (dv p v)) g) (hF : FV P M mf p m v) {n wy : Nat} {S : ES} (hS : Shp n w wy S) (he : Els p m S.X) (h0 : S.pv = []) : ∀ k, Red k (elim p m v k S)
 | 0 => ⟨fun i hi => by
   have : (elim p m v 0 S).pv = [] := h0; rw [this] at hi; exact absurd hi (Nat.not_lt_zero _), fun t _ _ c hc => absurd hc (Nat.not_lt_zero _), fun i hi => by
   have : (elim p m v 0 S).pv = [] := h0; rw [this] at hi; exact absurd hi (Nat.not_lt_zero _)⟩
 | k + 1 => by
  rw [Qs]; have hk := QL (p := p) (m := m) (v := v) hS k; exact Jqz K hF (Jcn h0 k) (by have := hk.pl; have := hk.xl; omega) (Ze (by have := hF.p2; omega) he k) (Ji7 K hF hS he h0 k)
end
end Go.Proofs.Ytlfeialpcdoleaa
set_option linter.unusedVariables false
set_option linter.unusedSimpArgs false
namespace Go.Proofs.Ytlfeialpcdoleaa
section
variable {p m v g : Nat} {P M : Int} {mf : List Int} {X Y : List (List Int)} {C : Int} {w : Nat}
def fs (p m : Nat) (f : Nat -> Nat) : Nat -> Nat
  | 0 => 0
  | n + 1 => JU p m (fs p m f n) (f n)
theorem YW (hF : FV P M mf p m v) (f : Nat -> Nat) : ∀ n, fs p m f n < p ^ m
 | 0 => by have := hF.ring.q2; show 0 < _; omega
 | n + 1 => hF.ring.Al _ _
theorem Jbr {f h : Nat -> Nat} : ∀ n, (∀ i, i < n -> f i = h i) -> fs p m f n = fs p m h n
 | 0, _ => rfl
 | n + 1, e => by show JU p m _ _ = JU p m _ _; rw [Jbr n fun i hi => e i (by omega), e n (by omega)]
theorem mix (hF : FV P M mf p m v) {a b c d : Nat} (ha : a < p ^ m) (hb : b < p ^ m) (hc : c < p ^ m) (hd : d < p ^ m) : JU p m (JU p m a b) (JU p m c d) = JU p m (JU p m a c) (JU p m b d) := by
 have R := hF.ring; rw [R.Aa ha hb (R.Al _ _), <- R.Aa hb hc hd, R.Ac b c, R.Aa hc hb hd, <- R.Aa ha hc (R.Al _ _)]
theorem Jfo (hF : FV P M mf p m v) {f h : Nat -> Nat} {x : Nat} (hf : ∀ i, f i < p ^ m) (hh : ∀ i, h i < p ^ m) (hx : x < p ^ m) : ∀ n, fs p m (fun i => JU p m (f i) (Jv p m (dv p v) x (h i))) n = JU p m (fs p m f n) (Jv p m (dv p v) x (fs p m h n))
 | 0 => by
  have R := hF.ring; show 0 = JU p m 0 (Jv p m (dv p v) x 0); rw [R.M0 hx, R.Az (by have := R.q2; omega)]
 | n + 1 => by
  have R := hF.ring; show JU p m (fs p m _ n) _ = JU p m (JU p m _ _) (Jv p m (dv p v) x (JU p m _ _)); rw [Jfo hF hf hh hx n, R.Md hx (YW hF h n) (hh n), mix hF (YW hF f n) (R.Ml _ _) (hf n) (R.Ml _ _)]
theorem Jni (hF : FV P M mf p m v) {f : Nat -> Nat} {x : Nat} (hf : ∀ i, f i < p ^ m) (hx : x < p ^ m) : ∀ n, fs p m (fun i => Jv p m (dv p v) x (f i)) n = Jv p m (dv p v) x (fs p m f n)
 | 0 => by show 0 = Jv p m (dv p v) x 0; rw [hF.ring.M0 hx]
 | n + 1 => by
  show JU p m (fs p m _ n) _ = Jv p m (dv p v) x (JU p m _ _); rw [Jni hF hf hx n, hF.ring.Md hx (YW hF f n) (hf n)]
theorem Jac (hF : FV P M mf p m v) {f : Nat -> Nat} : ∀ n, (∀ i, i < n -> f i = 0) -> fs p m f n = 0
 | 0, _ => rfl
 | n + 1, h => by
  show JU p m (fs p m f n) (f n) = 0; rw [Jac hF n fun i hi => h i (by omega), h n (by omega), hF.ring.Az (by have := hF.ring.q2; omega)]
theorem Jbw (hF : FV P M mf p m v) {f : Nat -> Nat} {j : Nat} (hj : f j < p ^ m) : ∀ n, j < n -> (∀ i, i < n -> i ≠ j -> f i = 0) -> fs p m f n = f j
 | 0, h, _ => absurd h (Nat.not_lt_zero _)
 | n + 1, h, e => by
  have R := hF.ring; show JU p m (fs p m f n) (f n) = f j; by_cases en : n = j
  .subst en; rw [Jac hF n fun i hi => e i (by omega) (by omega), R.Ac, R.Az hj]
  .rw [Jbw hF hj n (by omega) fun i hi => e i (by omega), e n (by omega) en, R.Az hj]
def cof (p m v c r : Nat) (pv : Nat -> Nat) (nR : Nat -> Nat) (a : Nat -> Nat) : Nat := JU p m (a c) (fs p m (fun i => Jv p m (dv p v) (nR i) (a (pv i))) r)
theorem Juo (hF : FV P M mf p m v) {c r : Nat} {pv nR : Nat -> Nat} (hc : c < w) (hpv : ∀ i, i < r -> pv i < w) (hn : ∀ i, nR i < p ^ m) : Lin p m v w (cof p m v c r pv nR) where
 lt a := hF.ring.Al _ _
 cg h := by
  unfold cof; rw [h c hc, Jbr r fun i hi => by rw [h _ (hpv i hi)]]
 ad {a b x} ha hb hx := by
  have R := hF.ring; unfold cof; have e : (fun i => Jv p m (dv p v) (nR i) (JU p m (a (pv i)) (Jv p m (dv p v) x (b (pv i))))) = fun i => JU p m (Jv p m (dv p v) (nR i) (a (pv i))) (Jv p m (dv p v) x (Jv p m (dv p v) (nR i) (b (pv i)))) := funext fun i => by
   rw [R.Md (hn i) (ha _) (R.Ml _ _), <- R.Ma (hn i) hx (hb _), R.Mc (hn i) hx, R.Ma hx (hn i) (hb _)]
  rw [e, Jfo hF (fun i => R.Ml _ _) (fun i => R.Ml _ _) hx, mix hF (ha c) (R.Ml _ _) (YW hF _ _) (R.Ml _ _), <- R.Md hx (hb c) (YW hF _ _)]
 ml {a x} ha hx := by
  have R := hF.ring; unfold cof; have e : (fun i => Jv p m (dv p v) (nR i) (Jv p m (dv p v) x (a (pv i)))) = fun i => Jv p m (dv p v) x (Jv p m (dv p v) (nR i) (a (pv i))) := funext fun i => by
   rw [<- R.Ma (hn i) hx (ha _), R.Mc (hn i) hx, R.Ma hx (hn i) (ha _)]
  rw [e, Jni hF (fun i => R.Ml _ _) hx, <- R.Md hx (ha c) (YW hF _ _)]
theorem Jfn (hF : FV P M mf p m v) : ∃ g, Gn (p ^ m) (Jv p m (dv p v)) g := hF.gen
end
end Go.Proofs.Ytlfeialpcdoleaa
