/- Contracts of functions of the program, and what they lean on: V4, V5, V6, M1, M2, M3, M4, M5, M6, M7, M8, M9, M10, M11, M12, M13, M14, M15, M16, M17, M18, M19, M20, M21, M22, M23, M24, S1, S2, S3, S4, S5. -/
import Derived.Test.YtjgpkljepgcekaaClassicPerfectG7
set_option linter.unusedVariables false
set_option linter.unusedSimpArgs false
namespace Go.Proofs.Ytjgpkljepgcekaa
theorem gb_nat (l : List Bool) (i : Nat) : gb l (i : Int) = l.getD i false := rfl
theorem Jqy (l : List Bool) (i : Nat) (x : Bool) : sb l (i : Int) x = l.set i x := rfl
theorem Z9 (l : List Bool) (i j : Nat) (x : Bool) : (l.set i x).getD j false = if i = j /\ i < l.length then x else l.getD j false := by
 rw [List.getD_eq_getElem?_getD, List.getD_eq_getElem?_getD, List.getElem?_set]; by_cases h : i = j
 .subst h; by_cases h2 : i < l.length
  .simp [h2]
  .simp [h2]
 .simp [h]
theorem Jts {P M : Int} {mf : LI} {p m v : Nat} (F : FV P M mf p m v) {Q : LI -> Prop}
  (h : ∀ g, Gn (p ^ m) (Jr p m (dv p v)) g -> Q (pwl (Jr p m (dv p v)) g (p ^ m - 1))) : Jdl ⟨P, M, mf, ((p ^ m : Nat) : Int), [], [], []⟩ Q := by
 have hq := F.q; have R := F.ring; have hq2 := R.q2; obtain ⟨g0, G0⟩ := F.gen; generalize hqq : p ^ m = q at *
 generalize hMM : Jr p m (dv p v) = Mu at *
 refine ⟨⟨by show (0 : Int) <= q; omega, by show (q : Int) * 1 <= _; omega, by show (q : Int) <= _; omega⟩, ⟨by omega, by show (0 : Int) < ((((q : Nat) : Int).toNat : Nat) : Int); omega⟩, ?_⟩; refine ⟨Ze (by omega), fun i x s => s.length = q /\ s.getD 0 false = true /\ (∀ j, j < i -> ¬ Gn q Mu j) /\ ∀ j, j < q -> s.getD j false = true -> ¬ Gn q Mu j, fun x s => ∃ g, Gn q Mu g /\ x = pwl Mu g (q - 1), ?_, ?_, ?_, ?_⟩
 .have h0 : ¬ Gn q Mu 0 := fun G => by
   have := G.one; rw [R.zero_pw (by omega)] at this; omega
  dsimp only; rw [show (0 : Int) = ((0 : Nat) : Int) from rfl, Jqy]; refine ⟨by rw [List.length_set, List.length_replicate]; exact Int.toNat_natCast q, ?_, fun j hj => by omega, fun j hj hs => ?_⟩
  .rw [Z9, if_pos ⟨rfl, by rw [List.length_replicate, Int.toNat_natCast]; omega⟩]
  .rw [Z9] at hs; by_cases hj0 : 0 = j
   .rw [<- hj0]; exact h0
   .rw [if_neg (fun h => hj0 h.1), List.getD_eq_getElem?_getD, List.getElem?_replicate] at hs; split at hs <;> exact absurd hs (by decide)
 .rintro i hi x s ⟨hs, hs0, hno, hsn⟩; dsimp only at hi ⊢; rw [Int.toNat_natCast] at hi; rw [gb_nat]; refine ⟨⟨by omega, by rw [Int.toNat_natCast]; omega⟩, fun hb => ⟨hs, hs0, fun j hj => ?_, hsn⟩, fun hb => ?_⟩
  .by_cases hji : j = i
   .subst hji; exact hsn j hi hb
   .exact hno j (by omega)
  .have hi0 : 0 < i := by
    rcases Nat.eq_zero_or_pos i with h0 | h0
    .subst h0; rw [hs0] at hb; exact absurd hb (by decide)
    .exact h0
   refine Jqj F hi0 (by rw [hqq]; exact hi) fun n O hn => ?_; rw [hMM] at O ⊢; rw [hqq] at hn; rw [Z4]; refine ⟨Ju (by omega) (by omega), fun he => ?_, fun hne => ?_⟩
   .have hnq : n = q - 1 := by omega
    subst hnq; exact ⟨i, ⟨hi, O.one, O.least⟩, rfl⟩
   .have hnq : n < q - 1 := by omega
    have hnG : ∀ k, ¬ Gn q Mu (pw Mu i k) := fun k G => by
     have h1 : pw Mu (pw Mu i k) n = 1 := by rw [R.pw_pw hi, Nat.mul_comm, <- R.pw_pw hi, O.one, R.one_pw]
     exact G.no n O.pos hnq h1
    refine ⟨fun s' z => ∃ k : Nat, z = k /\ k <= n /\ s'.length = q /\ s'.getD 0 false = true /\ ∀ j, j < q -> s'.getD j false = true -> ¬ Gn q Mu j, fun s' z => (n - z).toNat, ⟨0, rfl, Nat.zero_le _, hs, hs0, hsn⟩, ?_⟩; rintro s' _ ⟨k, rfl, hk, hs', hs0', hsn'⟩; dsimp only; rw [JW]; refine ⟨fun hlt => ?_, fun hge => ⟨hs', hs0', fun j hj => ?_, hsn'⟩⟩
    .rw [Jd5 (by omega), Jqy]; have hlt2 := R.pw_lt i k; refine ⟨⟨by omega, by omega⟩, ⟨by omega, by rw [Int.toNat_natCast]; omega⟩, Ju (by omega) (by omega), ⟨k + 1, by push_cast; rfl, by omega, by rw [List.length_set, hs'], ?_, fun j hj hj2 => ?_⟩, by omega⟩
     .rw [Z9]; split
      .rfl
      .exact hs0'
     .rw [Z9] at hj2; by_cases hjk : pw Mu i k = j
      .rw [<- hjk]; exact hnG k
      .rw [if_neg (fun h => hjk h.1)] at hj2; exact hsn' j hj hj2
    .by_cases hji : j = i
     .subst hji; have := hnG 1
      rwa [R.pw_one hi] at this
     .exact hno j (by omega)
 .rintro x s ⟨hs, hs0, hno, hsn⟩; have := G0.lt; exact absurd G0 (hno g0 (by show g0 < ((q : Nat) : Int).toNat; rw [Int.toNat_natCast]; exact this))
 .rintro x s ⟨g, G, rfl⟩; exact h g G
structure GFk (F : GFv) (p m v g : Nat) : Prop where
  fv : FV F.P F.M F.mod p m v
  q : F.q = ((p ^ m : Nat) : Int)
  G : Gn (p ^ m) (Jr p m (dv p v)) g
  el : F.exp.length = 2 * (p ^ m - 1)
  ev : ∀ k, k < 2 * (p ^ m - 1) -> vo F.exp k = ((pw (Jr p m (dv p v)) g k : Nat) : Int)
  ll : F.log.length = p ^ m
  l0 : vo F.log 0 = -1
  lv : ∀ k, k < p ^ m - 1 -> vo F.log (pw (Jr p m (dv p v)) g k) = (k : Int)
  al : F.above.length = p ^ m - 1
  av : ∀ k, k < p ^ m - 1 -> vo F.above k = vo F.log (JI p m (pw (Jr p m (dv p v)) g k) 1)
theorem Joi {p m x : Nat} (hp : 2 <= p) (hm : 0 < m) (hx : x < p ^ m) : (if x % p = p - 1 then x - x % p else x + 1) = JI p m x 1 := by
 have hmd := Nat.mod_add_div x p; have hlt := Nat.mod_lt x (show 0 < p by omega); obtain ⟨n, rfl⟩ : ∃ n, m = n + 1 := ⟨m - 1, by omega⟩
 have hxd : x / p < p ^ n := by rw [Nat.div_lt_iff_lt_mul (by omega), <- Nat.pow_succ]; exact hx
 generalize hA : x / p = a at *
 generalize hR : x % p = r at *
 have key : ∀ y s, y = s + p * a -> s < p -> s = (r + 1) % p -> y = JI p (n + 1) x 1 := fun y s hy hs hsr => by
  have hyd : y / p = a := by rw [hy, Nat.add_mul_div_left _ _ (by omega), Nat.div_eq_of_lt hs, Nat.zero_add]
  have hym : y % p = s := by rw [hy, Nat.add_mul_mod_self_left, Nat.mod_eq_of_lt hs]
  have hyl : y < p ^ (n + 1) := by
   have h1 : p * (a + 1) <= p * p ^ n := Nat.mul_le_mul_left p hxd; rw [Nat.pow_succ', hy]; rw [Nat.mul_add, Nat.mul_one] at h1; omega
  refine (nm_eq (by omega) hyl fun i hi => ?_).symm; cases i with
  | zero =>
   simp only [J7]; rw [YM, YM, YM, hym, hR, Nat.mod_eq_of_lt (show 1 < p by omega), hsr]; push_cast; rfl
  | succ i =>
   simp only [J7]; rw [Zr, Zr, Zr, hyd, hA, Nat.div_eq_of_lt (show 1 < p by omega), Jel]; simp only [vz]; rw [Int.add_zero, Ja0]
 by_cases hc : r = p - 1
 .rw [if_pos hc]; refine key (x - r) 0 (by omega) (by omega) ?_; rw [hc, show p - 1 + 1 = p by omega, Nat.mod_self]
 .rw [if_neg hc]; exact key (x + 1) (r + 1) (by omega) (by omega) (Nat.mod_eq_of_lt (by omega)).symm
theorem vo_app {a b : LI} {i : Nat} : vo (a ++ b) i = if i < a.length then vo a i else vo b (i - a.length) := by
 unfold vo; rw [List.getD_eq_getElem?_getD]; split
 .rename_i h
  rw [List.getElem?_append_left h, List.getD_eq_getElem?_getD]
 .rename_i h
  rw [List.getElem?_append_right (by omega), List.getD_eq_getElem?_getD]
theorem Jql {P M : Int} {mf : LI} {Q : Option GFv × Int -> Prop} (hno : ¬ QB P M mf -> Q (none, 1)) (h : ∀ (F : GFv) (p m v g : Nat), GFk F p m v g -> F.P = P -> F.M = M -> F.mod = mf -> Q (some F, 0)) : Jf2 P M mf Q := by
 refine Jmh ?_; by_cases hV : QB P M mf
 .rw [Jen hV]; refine ⟨fun h1 => absurd rfl h1, fun _ => ?_⟩; obtain ⟨p, m, v, F⟩ := hV; obtain rfl := F.eP; obtain rfl := F.eM; have hp := F.p2; have hp2 := F.p256; have hm0 := F.m0; have hm8 := F.m8; have hq := F.q; have R := F.ring; have hq2 := R.q2; have hml : mf.length <= 1000000 := by
   by_cases hm1 : m = 1
   .rw [(F.m1 hm1).1]; simp
   .rw [F.m2 hm1, Qe]; omega
  have hJ : Jb8 p m mf (fun q => match q with | (r27, r28, x29) => Zw p m mf (fun r34 => r27 = p /\ r28 = m /\ x29 = mf /\ r34 = ((p ^ m : Nat) : Int))) := Z2 hml (Jf7 hp hp2 fun r hr _ => by
   rw [Int.toNat_natCast] at hr; exact ⟨rfl, rfl, rfl, hr hq⟩)
  refine ⟨fun a b c d => a = p /\ b = m /\ c = mf /\ d = ((p ^ m : Nat) : Int), hJ, ?_⟩; rintro _ _ _ _ ⟨rfl, rfl, rfl, rfl⟩; refine Jts F fun g G => ?_; have hg := G.lt; generalize hqq : p ^ m = q at *
  generalize hMM : Jr p m (dv p v) = Mu at *
  rw [Z4]; have hql : (List.replicate ((q : Nat) : Int).toNat (0 : Int)).length = q := by rw [List.length_replicate, Int.toNat_natCast]
  rw [Int.toNat_natCast, Int.toNat_natCast]; rw [Int.toNat_natCast] at hql; refine ⟨⟨by omega, by omega, by omega⟩, ⟨by omega, by omega, by omega⟩, ⟨by omega, by omega⟩, ?_⟩; refine ⟨fun l z => ∃ k : Nat, z = k /\ k <= q - 1 /\ l.length = q /\ vo l 0 = -1 /\ ∀ t, t < k -> vo l (pw Mu g t) = (t : Int), fun l z => (q - z).toNat, ⟨0, rfl, Nat.zero_le _, ?_, ?_, fun t ht => by omega⟩, ?_⟩
  .rw [show (0 : Int) = ((0 : Nat) : Int) from rfl, Qo, List.length_set]; exact hql
  .rw [show si (List.replicate q (0 : Int)) 0 (-1) = (List.replicate q (0 : Int)).set 0 (-1) from rfl, Qd, if_pos ⟨rfl, by rw [hql]; omega⟩]
  .rintro l _ ⟨k, rfl, hk, hl, hl0, hlv⟩; dsimp only; rw [JW]; refine ⟨fun hlt => ?_, fun hge => ?_⟩
   .rw [Jd5 (by omega), Qo]; have hlt2 := R.pw_lt g k; refine ⟨⟨by omega, by omega⟩, ⟨by omega, by omega⟩, Ju (by omega) (by omega), ⟨k + 1, by push_cast; rfl, by omega, by rw [List.length_set, hl], ?_, fun t ht => ?_⟩, by omega⟩
    .rw [Qd, if_neg (fun h => G.ne0 R k h.1)]; exact hl0
    .rw [Qd]; by_cases htk : t = k
     .subst htk; rw [if_pos ⟨rfl, by rw [hl]; exact hlt2⟩]
     .rw [if_neg (fun h => G.inj R (show t < k by omega) (by omega) h.1.symm)]; exact hlv t (by omega)
   .have hkq : k = q - 1 := by omega
    subst hkq; refine ⟨⟨by omega, by omega, by omega⟩, fun a z => ∃ k : Nat, z = k /\ k <= q - 1 /\ a.length = q - 1 /\ ∀ t, t < k -> vo a t = vo l (JI p m (pw Mu g t) 1), fun a z => (q - z).toNat, ⟨0, rfl, Nat.zero_le _, by simp, fun t ht => by omega⟩, ?_⟩; rintro a _ ⟨k, rfl, hk, hal, hav⟩; dsimp only; rw [JW]; refine ⟨fun hlt => ?_, fun hge => ?_⟩
    .rw [Jd5 (by omega)]; have hlt2 := R.pw_lt g k; have hsl := R.Al (pw Mu g k) 1; have hsf := Joi hp hm0 (x := pw Mu g k) (by rw [hqq]; exact hlt2); refine ⟨⟨by omega, by omega⟩, _, Jht hp hp2 (by omega) rfl, ?_⟩; rw [hsf, JW, Qo]; refine ⟨⟨by omega, by omega⟩, ⟨by omega, by omega⟩, Ju (by omega) (by omega), ⟨k + 1, by push_cast; rfl, by omega, by rw [List.length_set, hal], fun t ht => ?_⟩, by omega⟩; rw [Qd]; by_cases htk : k = t
     .subst htk; rw [if_pos ⟨rfl, by omega⟩]
     .rw [if_neg (fun h => htk h.1)]; exact hav t (by omega)
    .have hkq : k = q - 1 := by omega
     subst hkq; subst hMM; subst hqq; refine h _ p m v g ⟨F, rfl, G, ?_, fun k hk2 => ?_, hl, hl0, hlv, hal, hav⟩ rfl rfl rfl
     .simp only [List.length_append, Z4]; omega
     .show vo (pwl _ g _ ++ pwl _ g _) k = _; rw [vo_app, Z4]; by_cases hkl : k < p ^ m - 1
      .rw [if_pos hkl, Jd5 hkl]
      .rw [if_neg hkl, Jd5 (by omega)]; have := G.per R (k - (p ^ m - 1)) 1; rw [Nat.mul_one, show k - (p ^ m - 1) + (p ^ m - 1) = k by omega] at this; rw [this]
 .rw [Ye hV]; exact ⟨fun _ => hno hV, fun h1 => absurd (show (1 : Int) ≠ 0 by decide) h1⟩
end Go.Proofs.Ytjgpkljepgcekaa
namespace Go.Proofs.Ytjgpkljepgcekaa
def inE (q : Nat) (x : Int) : Nat := if 0 <= x /\ x < q then x.toNat else 0
theorem JS {q : Nat} (hq : 0 < q) (x : Int) : inE q x < q := by unfold inE; split <;> omega
theorem J3 {q x : Nat} (h : x < q) : inE q (x : Int) = x := by unfold inE; rw [if_pos (by omega)]; rfl
section
variable {P M : Int} {mf : LI} {p m v : Nat}
theorem FV.ord (F : FV P M mf p m v) : Je5 P M = ((p ^ m : Nat) : Int) := by
 rw [F.eP, F.eM, Je5, if_pos]
 .simp
 .have := F.p2; have := F.m0; have := F.q; exact ⟨by omega, by omega, by simpa using this⟩
theorem FV.i64 (F : FV P M mf p m v) : I64 P := by
 have := F.p256; rw [F.eP]; exact Ju (by omega) (by omega)
theorem v_rIs (F : FV P M mf p m v) {x : Int} {Q : Bool -> Prop} (h : Q (decide (0 <= x /\ x < ((p ^ m : Nat) : Int)))) : Jn3 P M mf x Q := by
 refine ⟨fun h0 => Jbg ?_, fun h0 => ?_⟩
 .rw [F.ord]; simpa [h0] using h
 .simpa [h0] using h
end
section
variable {P M : Int} {mf : LI} {p m v : Nat}
end
end Go.Proofs.Ytjgpkljepgcekaa
namespace Go.Proofs.Ytjgpkljepgcekaa
section
variable {F : GFv} {p m v g : Nat}
theorem v_Is {x : Int} {Q : Bool -> Prop} (K : GFk F p m v g) (h : Q (decide (0 <= x /\ x < ((p ^ m : Nat) : Int)))) : V_Is F x Q := by
 refine ⟨fun h0 => ?_, fun h0 => ?_⟩
 .rw [K.q]; simpa [h0] using h
 .simpa [h0] using h
theorem Jdv {x : Int} {Q : Bool -> Prop} (K : GFk F p m v g) (h : Q (decide (inE (p ^ m) x ≠ 0))) : Y9 F x Q := by
 unfold inE at h; refine ⟨fun h0 => ?_, fun h0 => ?_⟩
 .rw [K.q]; by_cases hx : x < ((p ^ m : Nat) : Int)
  .rw [if_pos ⟨by omega, hx⟩] at h; rw [decide_eq_true hx]; rw [decide_eq_true (by omega)] at h; exact h
  .rw [if_neg (by omega)] at h; rw [decide_eq_false hx]; exact h
 .by_cases hx : 0 <= x /\ x < ((p ^ m : Nat) : Int)
  .rw [if_pos hx] at h; rw [decide_eq_false (by omega)] at h; exact h
  .rw [if_neg hx] at h; exact h
theorem Jfe {x : Int} {Q : Int -> Prop} (K : GFk F p m v g) (h : Q ((inE (p ^ m) x : Nat) : Int)) : Za F x Q := by
 refine v_Is K ⟨fun hb => ?_, fun hb => ?_⟩
 .have hb := of_decide_eq_true hb; unfold inE at h; rw [if_pos hb, Int.toNat_of_nonneg hb.1] at h; exact h
 .have hb := of_decide_eq_false hb; unfold inE at h; rw [if_neg hb] at h; exact h
theorem Jrr {q : Nat} {x : Int} (h : inE q x ≠ 0) : x = ((inE q x : Nat) : Int) := by
 unfold inE at h ⊢; split
 .rename_i hc; exact (Int.toNat_of_nonneg hc.1).symm
 .rename_i hc; rw [if_neg hc] at h; exact absurd rfl h
theorem GFk.lg (K : GFk F p m v g) {x : Int} (h : inE (p ^ m) x ≠ 0) : ∃ a : Nat, a < p ^ m - 1 /\ inE (p ^ m) x = pw (Jr p m (dv p v)) g a /\ gi F.log x = (a : Int) /\ (0 <= x /\ x < (F.log.length : Nat)) := by
  have R := K.fv.ring
  have hlt := JS R.pos x
  obtain ⟨a, ha, he⟩ := K.G.surj R (Nat.pos_of_ne_zero h) hlt
  have hx := Jrr h
  refine ⟨a, ha, he.symm, ?_, ?_⟩
  . rw [hx, <- he, JW, K.lv a ha]
  . rw [K.ll]; omega
theorem Jhu {x y : Int} {Q : Int -> Prop} (K : GFk F p m v g) (h : Q ((Jr p m (dv p v) (inE (p ^ m) x) (inE (p ^ m) y) : Nat) : Int)) : Jc4 F x y Q := by
 have R := K.fv.ring; have hq := K.fv.q; have hx := JS R.pos x; have hy := JS R.pos y; refine Jdv K ⟨fun hb => ?_, fun hb => Jdv K ⟨fun hb2 => ?_, fun hb2 => ?_⟩⟩
 .have h0 : inE (p ^ m) x = 0 := by simpa using hb
  rw [h0, R.Z0 hy] at h; exact h
 .have h0 : inE (p ^ m) y = 0 := by simpa using hb2
  rw [h0, R.M0 hx] at h; exact h
 .obtain ⟨a, ha, ea, la, bx⟩ := K.lg (x := x) (by simpa using hb); obtain ⟨b, hb', eb, lb, by_⟩ := K.lg (x := y) (by simpa using hb2); rw [la, lb]; have hel := K.el; refine ⟨bx, by_, Ju (by omega) (by omega), ⟨by omega, by omega⟩, ?_⟩; rw [show (a : Int) + (b : Int) = ((a + b : Nat) : Int) by push_cast; rfl, JW, K.ev _ (by omega), R.pw_add K.G.lt, <- ea, <- eb]; exact h
theorem Juk {p m : Nat} {c : Vec} {x : Nat} (hp : 2 <= p) (hm : 0 < m) (hx : x < p ^ m) : Jr p m c (p - 1) x = Qz p m x := by
 unfold Jr Qz; have hd : vcg p (dv p (p - 1)) (vsm (-1) e0) := fun i => by
  cases i with
  | zero =>
   rw [YM, Nat.mod_eq_of_lt (by omega)]; show ((p - 1 : Nat) : Int) % p = (-1 * 1) % p; rw [show ((p - 1 : Nat) : Int) = -1 * 1 + p * 1 by omega, Int.add_mul_emod_self_left]
  | succ i =>
   rw [Zr, Nat.div_eq_of_lt (by omega), Jel]; simp [vz, vsm, e0]
 rw [Zn (vcg.mul (vcg.refl c) hd (vcg.refl _))]; have : Yr m c (vsm (-1) e0) (dv p x) = vsm (-1) (dv p x) := by
  show opr m c (dv p x) m (vsm (-1) e0) = _; rw [Jks, ZG (Ys hx)]
 rw [this]
theorem Jmi {x : Int} {Q : Int -> Prop} (K : GFk F p m v g) (h : Q ((Qz p m (inE (p ^ m) x) : Nat) : Int)) : YU F x Q := by
 have hp := K.fv.p2; have hpq := K.fv.pq; have h256 := K.fv.p256; have R := K.fv.ring; unfold YU; rw [K.fv.eP]; refine ⟨Ju (by omega) (by omega), Jhu K ?_⟩; rw [show (p : Int) - 1 = ((p - 1 : Nat) : Int) by omega, J3 (by omega), Juk hp K.fv.m0 (JS R.pos x)]; exact h
theorem Jp1 {m x y : Nat} (hx : x < 2 ^ m) (hy : y < 2 ^ m) : x ^^^ y = JI 2 m x y := by
 refine (nm_eq (by decide) (Nat.xor_lt_two_pow hx hy) fun i hi => ?_).symm; have h := Nat.testBit_xor x y i; rw [Nat.testBit_eq_decide_div_mod_eq, Nat.testBit_eq_decide_div_mod_eq, Nat.testBit_eq_decide_div_mod_eq] at h; simp only [dv, J7]; have h1 := Nat.mod_two_eq_zero_or_one (x / 2 ^ i); have h2 := Nat.mod_two_eq_zero_or_one (y / 2 ^ i); have h3 := Nat.mod_two_eq_zero_or_one ((x ^^^ y) / 2 ^ i); rcases h1 with h1 | h1 <;> rcases h2 with h2 | h2 <;> rcases h3 with h3 | h3 <;> rw [h1, h2, h3] at h <;> rw [h1, h2, h3] <;> first | rfl | exact absurd h (by decide)
theorem v_Add {x y : Int} {Q : Int -> Prop} (K : GFk F p m v g) (h : Q ((JI p m (inE (p ^ m) x) (inE (p ^ m) y) : Nat) : Int)) : Jjz F x y Q := by
 have R := K.fv.ring; have hq := K.fv.q; have hx := JS R.pos x; have hy := JS R.pos y; have hq2 := R.q2; refine Jfe K (Jfe K ⟨fun h2 => ⟨⟨by omega, by omega, by omega, by omega⟩, ?_⟩, fun h2 => ⟨fun h0 => ?_, fun h0 => ⟨fun h1 => ?_, fun h1 => ?_⟩⟩⟩)
 .have hp2 : p = 2 := by have := K.fv.eP; omega
  subst hp2; rw [<- Jp1 hx hy] at h; exact h
 .rw [show inE (p ^ m) x = 0 by omega, R.zA hy] at h; exact h
 .rw [show inE (p ^ m) y = 0 by omega, R.Az hx] at h; exact h
 .have hi : ∀ z : Nat, z < p ^ m -> inE (p ^ m) (z : Int) = z := fun z hz => J3 hz; obtain ⟨a, ha, ea, la, bx⟩ := K.lg (x := ((inE (p ^ m) x : Nat) : Int)) (by rw [hi _ hx]; omega); obtain ⟨b, hb, eb, lb, by_⟩ := K.lg (x := ((inE (p ^ m) y : Nat) : Int)) (by rw [hi _ hy]; omega); rw [hi _ hx] at ea; rw [hi _ hy] at eb; rw [la, lb]; have hal := K.al; have hel := K.el; refine ⟨by_, bx, Ju (by omega) (by omega), fun z => ∃ d : Nat, z = d /\ d < p ^ m - 1 /\ pw (Jr p m (dv p v)) g (a + d) = pw (Jr p m (dv p v)) g b, ⟨fun hn => ?_, fun hn => ?_⟩, ?_⟩
  .rw [K.q]; refine ⟨Ju (by omega) (by omega), Ju (by omega) (by omega), b + (p ^ m - 1) - a, by omega, by omega, ?_⟩; have := K.G.per R b 1; rw [Nat.mul_one] at this; rw [show a + (b + (p ^ m - 1) - a) = b + (p ^ m - 1) by omega]; exact this
  .exact ⟨b - a, by omega, by omega, by rw [show a + (b - a) = b by omega]⟩
  .rintro _ ⟨d, rfl, hd, hpd⟩; rw [JW, K.av d hd]; have hgd := R.pw_lt g d; have hga := R.pw_lt g a
   -- x + y = x (g^d + 1)
   have hsum : JI p m (inE (p ^ m) x) (inE (p ^ m) y) = Jr p m (dv p v) (pw (Jr p m (dv p v)) g a) (JI p m (pw (Jr p m (dv p v)) g d) 1) := by
    rw [R.Md hga hgd R.one_lt, R.M1 hga, <- R.pw_add K.G.lt, hpd, <- ea, <- eb, R.Ac]
   rw [hsum] at h; have hsl := R.Al (pw (Jr p m (dv p v)) g d) 1; refine ⟨⟨by omega, by omega⟩, fun hm1 => ?_, fun hm1 => ?_⟩
   .have hz : JI p m (pw (Jr p m (dv p v)) g d) 1 = 0 := by
     rcases Nat.eq_zero_or_pos (JI p m (pw (Jr p m (dv p v)) g d) 1) with h3 | h3
     .exact h3
     .obtain ⟨s, hs, hse⟩ := K.G.surj R h3 hsl; rw [<- hse, K.lv s hs] at hm1; omega
    rw [hz, R.M0 hga] at h; exact h
   .have hnz : 0 < JI p m (pw (Jr p m (dv p v)) g d) 1 := by
     rcases Nat.eq_zero_or_pos (JI p m (pw (Jr p m (dv p v)) g d) 1) with h3 | h3
     .rw [h3, K.l0] at hm1; exact absurd rfl hm1
     .exact h3
    obtain ⟨s, hs, hse⟩ := K.G.surj R hnz hsl; rw [<- hse] at h ⊢; rw [K.lv s hs]; refine ⟨bx, Ju (by omega) (by omega), ⟨by omega, by omega⟩, ?_⟩; rw [show (a : Int) + (s : Int) = ((a + s : Nat) : Int) by push_cast; rfl, JW, K.ev _ (by omega), R.pw_add K.G.lt]; exact h
theorem v_Inv {x : Int} {Q : Int × Int -> Prop} (K : GFk F p m v g) (h0 : inE (p ^ m) x = 0 -> Q (0, 7)) (h1 : ∀ z : Nat, inE (p ^ m) x ≠ 0 -> z < p ^ m -> Jr p m (dv p v) z (inE (p ^ m) x) = 1 -> Q ((z : Int), 0)) : Jn5 F x Q := by
 have R := K.fv.ring; have hq := K.fv.q; refine Jdv K ⟨fun hb => h0 (by simpa using hb), fun hb => ?_⟩; have hne : inE (p ^ m) x ≠ 0 := by simpa using hb
 obtain ⟨a, ha, ea, la, bx⟩ := K.lg hne; have hel := K.el; rw [la, K.q]; refine ⟨Ju (by omega) (by omega), bx, Ju (by omega) (by omega), ⟨by omega, by omega⟩, ?_⟩; rw [show ((p ^ m : Nat) : Int) - 1 - (a : Int) = ((p ^ m - 1 - a : Nat) : Int) by omega, JW, K.ev _ (by omega)]; refine h1 _ hne (R.pw_lt g _) ?_; rw [ea, <- R.pw_add K.G.lt, show p ^ m - 1 - a + a = p ^ m - 1 by omega, K.G.one]
theorem Od.uniq {M : Nat -> Nat -> Nat} {x n k : Nat} (h : Od M x n) (h' : Od M x k) : n = k := by
 rcases Nat.lt_trichotomy n k with h1 | h1 | h1
 .exact absurd h.one (h'.least n h.pos h1)
 .exact h1
 .exact absurd h'.one (h.least k h'.pos h1)
theorem Jtu {x : Int} {l : LI} {Q : LI -> Prop} (K : GFk F p m v g) (hl : l.length <= 1000) (h : ∀ r : LI, r.length = l.length -> (∀ i, i < l.length -> vo r i = ((Jr p m (dv p v) (inE (p ^ m) x) (inE (p ^ m) (vo l i)) : Nat) : Int)) -> Q r) : Zx F x l Q := by
 refine ⟨⟨by omega, by omega, by omega⟩, fun r i => ∃ k : Nat, i = k /\ k <= l.length /\ r.length = l.length /\ ∀ j, j < k -> vo r j = ((Jr p m (dv p v) (inE (p ^ m) x) (inE (p ^ m) (vo l j)) : Nat) : Int), fun r i => (l.length - i).toNat, ⟨0, rfl, Nat.zero_le _, by simp, fun j hj => by omega⟩, ?_⟩; rintro r _ ⟨k, rfl, hk, hr, hv⟩; dsimp only; rw [JW]; refine ⟨fun hlt => ⟨⟨by omega, by omega⟩, Jhu K ⟨⟨by omega, by omega⟩, Ju (by omega) (by omega), ⟨k + 1, by push_cast; rfl, by omega, ?_, fun j hj => ?_⟩, by omega⟩⟩, fun hge => h r hr fun i hi => hv i (by omega)⟩
 .rw [Qo, List.length_set, hr]
 .rw [Qo, Qd]; by_cases hkj : k = j
  .subst hkj; rw [if_pos ⟨rfl, by omega⟩]
  .rw [if_neg (fun h => hkj h.1)]; exact hv j (by omega)
end
end Go.Proofs.Ytjgpkljepgcekaa
namespace Go.Proofs.Ytjgpkljepgcekaa
section
variable (p m v : Nat)
def Ad (x y : Int) : Int := ((JI p m (inE (p ^ m) x) (inE (p ^ m) y) : Nat) : Int)
def Ml (x y : Int) : Int := ((Jr p m (dv p v) (inE (p ^ m) x) (inE (p ^ m) y) : Nat) : Int)
def Ng (x : Int) : Int := ((Qz p m (inE (p ^ m) x) : Nat) : Int)
def Iv (x : Int) : Int := ((((List.range (p ^ m)).find? fun z => Jr p m (dv p v) z (inE (p ^ m) x) == 1).getD 0 : Nat) : Int)
def El (x : Int) : Prop := 0 <= x /\ x < ((p ^ m : Nat) : Int)
def Elr (l : LI) : Prop := ∀ x ∈ l, El p m x
def Els (X : LL) : Prop := ∀ r ∈ X, Elr p m r
def sc (x : Int) (l : LI) : LI := l.map (Ml p m v x)
def adm (a : LI) (x : Int) (o : LI) : LI := (List.range a.length).map fun i => if vo o i = 0 then vo a i else Ad p m (vo a i) (Ml p m v x (vo o i))
def adx (a : LI) (x : Int) (o : LI) : LI := if x = 0 then a else adm p m v a x o
def row (X : LL) (t : Nat) : LI := X.getD t []
def nz (X : LL) (c s : Nat) : Nat := s + ((X.drop s).takeWhile fun r => vo r c == 0).length
def swp (X : LL) (i j : Nat) : LL := (X.set i (row X j)).set j (row X i)
def clr (f : Nat -> Int) (cur : Nat) (X : LL) : LL := (List.range X.length).map fun t => if t = cur then row X t else adx p m v (row X t) (f t) (row X cur)
structure ES where
  X : LL
  Y : LL
  pv : LI
  d : Int
def es1 (c r cur : Nat) (S : ES) : ES :=
  let X1 := if r = cur then S.X else swp S.X r cur
  let Y1 := if r = cur then S.Y else swp S.Y r cur
  let e := vo (row X1 cur) c
  let X2 := X1.set cur (sc p m v (Iv p m v e) (row X1 cur))
  let Y2 := Y1.set cur (sc p m v (Iv p m v e) (row Y1 cur))
  { X := clr p m v (fun t => Ng p m (vo (row X2 t) c)) cur X2, Y := clr p m v (fun t => Ng p m (vo (row X2 t) c)) cur Y2, pv := S.pv ++ [(c : Int)], d := Ml p m v (if r = cur then S.d else Ng p m S.d) e }
def Yd (S : ES) (c : Nat) : ES :=
  if S.pv.length < S.X.length /\ nz S.X c S.pv.length < S.X.length then es1 p m v c (nz S.X c S.pv.length) S.pv.length S else S
def elim (cols : Nat) (S : ES) : ES := (List.range cols).foldl (Yd p m v) S
end
theorem Yw {X Y : LL} (h : X.length = Y.length) (hv : ∀ i, i < X.length -> row X i = row Y i) : X = Y := by
 apply List.ext_getElem?; intro i; rcases Nat.lt_or_ge i X.length with hi | hi
 .rw [Jaa (d := []) hi, Jaa (d := []) (ls := Y) (by omega)]; exact congrArg some (hv i hi)
 .rw [List.getElem?_eq_none hi, List.getElem?_eq_none (by omega)]
theorem QI (X : LL) (i j : Nat) (l : LI) : row (X.set i l) j = if i = j /\ i < X.length then l else row X j := by
 unfold row; rw [List.getD_eq_getElem?_getD, List.getD_eq_getElem?_getD, List.getElem?_set]; by_cases h : i = j
 .subst h; by_cases hi : i < X.length <;> simp [hi]
 .simp [h]
theorem Jgg {n : Nat} {f : Nat -> LI} {t : Nat} (h : t < n) : row ((List.range n).map f) t = f t := by
 unfold row; rw [List.getD_eq_getElem?_getD]; simp [h]
theorem Jf6 {n : Nat} {f : Nat -> Int} {t : Nat} (h : t < n) : vo ((List.range n).map f) t = f t := by
 unfold vo; rw [List.getD_eq_getElem?_getD]; simp [h]
theorem row_hi {X : LL} {t : Nat} (h : X.length <= t) : row X t = [] := by
 unfold row; rw [List.getD_eq_getElem?_getD, List.getElem?_eq_none h]; rfl
theorem Jda {X : LL} {t : Nat} (h : t < X.length) : row X t ∈ X := List.mem_of_getElem? (Jaa h)
theorem Jde {X : LL} {r : LI} (h : r ∈ X) : ∃ t, t < X.length /\ row X t = r := by
 obtain ⟨t, ht, e⟩ := List.mem_iff_getElem.1 h; refine ⟨t, ht, ?_⟩; unfold row; rw [List.getD_eq_getElem?_getD, List.getElem?_eq_getElem ht]; exact e
theorem Jk8 {l : LI} {x : Int} (h : x ∈ l) : ∃ t, t < l.length /\ vo l t = x := by
 obtain ⟨t, ht, e⟩ := List.mem_iff_getElem.1 h; refine ⟨t, ht, ?_⟩; unfold vo; rw [List.getD_eq_getElem?_getD, List.getElem?_eq_getElem ht]; exact e
theorem Jcd {l : LI} {t : Nat} (h : t < l.length) : vo l t ∈ l := List.mem_of_getElem? (Jaa h)
theorem Jtx (X : LL) (i j : Nat) : (swp X i j).length = X.length := by simp [swp]
theorem Jgd {X : LL} {i j t : Nat} (hi : i < X.length) (hj : j < X.length) : row (swp X i j) t = if t = j then row X i else if t = i then row X j else row X t := by
 unfold swp; rw [QI, QI, List.length_set]; by_cases h1 : t = j
 .subst h1; simp [hj]
 .by_cases h2 : t = i
  .subst h2; simp [hi, Ne.symm h1, h1]
  .simp [Ne.symm h1, Ne.symm h2, h1, h2]
theorem Z6 (X : LL) (c : Nat) : ∀ s, s <= X.length -> nz X c s <= X.length /\ (∀ t, s <= t -> t < nz X c s -> vo (row X t) c = 0) /\ (nz X c s < X.length -> vo (row X (nz X c s)) c ≠ 0) := by
 have key : ∀ (n s : Nat), n + s = X.length -> nz X c s <= X.length /\ (∀ t, s <= t -> t < nz X c s -> vo (row X t) c = 0) /\ (nz X c s < X.length -> vo (row X (nz X c s)) c ≠ 0) := by
  intro n
  induction n with
  | zero =>
   intro s hs; have hd : X.drop s = [] := List.drop_eq_nil_of_le (by omega); have e : nz X c s = s := by unfold nz; rw [hd]; rfl
   rw [e]; exact ⟨by omega, fun t h1 h2 => by omega, fun h => by omega⟩
  | succ n ih =>
   intro s hs; have hlt : s < X.length := by omega
   have hd : X.drop s = row X s :: X.drop (s + 1) := by
    rw [List.drop_eq_getElem_cons hlt]
    congr 1
    unfold row; rw [List.getD_eq_getElem?_getD, List.getElem?_eq_getElem hlt]; rfl
   by_cases h0 : vo (row X s) c = 0
   .have e : nz X c s = nz X c (s + 1) := by
     unfold nz; rw [hd, List.takeWhile_cons, if_pos (by simp [h0]), List.length_cons]; omega
    obtain ⟨h1, h2, h3⟩ := ih (s + 1) (by omega); rw [e]; refine ⟨h1, fun t ht1 ht2 => ?_, h3⟩; rcases Nat.eq_or_lt_of_le ht1 with rfl | h
    .exact h0
    .exact h2 t h ht2
   .have e : nz X c s = s := by
     unfold nz; rw [hd, List.takeWhile_cons, if_neg (by simpa using h0)]; rfl
    rw [e]; exact ⟨by omega, fun t h1 h2 => by omega, fun _ => h0⟩
 exact fun s hs => key (X.length - s) s (by omega)
theorem Jrh (X : LL) (c s : Nat) : s <= nz X c s := Nat.le_add_right _ _
theorem Jri {X : LL} {c s r : Nat} (hs : s <= r) (hr : r <= X.length) (h1 : ∀ t, s <= t -> t < r -> vo (row X t) c = 0) (h2 : r < X.length -> vo (row X r) c ≠ 0) : r = nz X c s := by
 obtain ⟨a, b, d⟩ := Z6 X c s (by omega); have := Jrh X c s; rcases Nat.lt_trichotomy r (nz X c s) with h | h | h
 .exact absurd (b r hs h) (h2 (by omega))
 .exact h
 .exact absurd (h1 _ this h) (d (by omega))
section
variable {p m v : Nat}
theorem Jdj (a : LI) (x : Int) (o : LI) : (adm p m v a x o).length = a.length := by simp [adm]
theorem Jdi (a : LI) (x : Int) (o : LI) : (adx p m v a x o).length = a.length := by
 unfold adx; split
 .rfl
 .exact Jdj ..
theorem Jd3 (x : Int) (l : LI) : (sc p m v x l).length = l.length := by simp [sc]
theorem Yx (f : Nat -> Int) (cur : Nat) (X : LL) : (clr p m v f cur X).length = X.length := by simp [clr]
theorem YL {f : Nat -> Int} {cur t : Nat} {X : LL} (h : t < X.length) : row (clr p m v f cur X) t = if t = cur then row X t else adx p m v (row X t) (f t) (row X cur) := Jgg h
theorem Jcf {a o : LI} {x : Int} {t : Nat} (h : t < a.length) : vo (adm p m v a x o) t = if vo o t = 0 then vo a t else Ad p m (vo a t) (Ml p m v x (vo o t)) := Jf6 h
theorem Jfb {x : Int} {l : LI} {t : Nat} (h : t < l.length) : vo (sc p m v x l) t = Ml p m v x (vo l t) := by
 unfold vo sc; rw [List.getD_eq_getElem?_getD, List.getElem?_map, List.getD_eq_getElem?_getD, List.getElem?_eq_getElem h]; rfl
end
section
variable {F : GFv} {p m v g : Nat} {P M : Int} {mf : LI} {X : LL}
theorem Je4 {l : LI} {Q : Bool -> Prop} (K : GFk F p m v g) (hl : l.length <= 1000000) (h1 : Elr p m l -> Q true) (h2 : ¬ Elr p m l -> Q false) : Yl F l Q := by
 refine ⟨fun z => ∃ t : Nat, z = t /\ t <= l.length /\ ∀ k, k < t -> El p m (vo l k), fun z => (l.length - z).toNat, ⟨0, rfl, Nat.zero_le _, fun k h => by omega⟩, ?_⟩; rintro _ ⟨t, rfl, ht, hk⟩; dsimp only; rw [JW]; refine ⟨fun hlt => ⟨⟨by omega, by omega⟩, v_Is K ?_⟩, fun hge => h1 fun x hx => ?_⟩
 .by_cases he : El p m (vo l t)
  .rw [decide_eq_true (show 0 <= vo l t /\ vo l t < ((p ^ m : Nat) : Int) from he)]; refine ⟨fun h => absurd h (by decide), fun _ => ⟨Ju (by omega) (by omega), ⟨t + 1, by push_cast; rfl, by omega, fun k hk' => ?_⟩, by omega⟩⟩; rcases Nat.lt_or_ge k t with h | h
   .exact hk k h
   .rw [show k = t by omega]; exact he
  .rw [decide_eq_false (show ¬ (0 <= vo l t /\ vo l t < ((p ^ m : Nat) : Int)) from he)]; exact ⟨fun _ => h2 fun h => he (h _ (Jcd (by omega))), fun h => absurd h (by decide)⟩
 .obtain ⟨t', h3, rfl⟩ := Jk8 hx; exact hk t' (by omega)
theorem Jj9 {l : LI} {Q : Int -> Prop} (hF : FV P M mf p m v) (hl : l.length <= 1000000) (h1 : Elr p m l -> Q 0) (h2 : ¬ Elr p m l -> Q 2) : Zv P M mf l Q := by
 refine ⟨fun z => ∃ t : Nat, z = t /\ t <= l.length /\ ∀ k, k < t -> El p m (vo l k), fun z => (l.length - z).toNat, ⟨0, rfl, Nat.zero_le _, fun k h => by omega⟩, ?_⟩; rintro _ ⟨t, rfl, ht, hk⟩; dsimp only; rw [JW]; refine ⟨fun hlt => ⟨⟨by omega, by omega⟩, _, v_rIs hF rfl, ?_⟩, fun hge => h1 fun x hx => ?_⟩
 .by_cases he : El p m (vo l t)
  .rw [decide_eq_true (show 0 <= vo l t /\ vo l t < ((p ^ m : Nat) : Int) from he)]; refine ⟨fun h => absurd h (by decide), fun _ => ⟨Ju (by omega) (by omega), ⟨t + 1, by push_cast; rfl, by omega, fun k hk' => ?_⟩, by omega⟩⟩; rcases Nat.lt_or_ge k t with h | h
   .exact hk k h
   .rw [show k = t by omega]; exact he
  .rw [decide_eq_false (show ¬ (0 <= vo l t /\ vo l t < ((p ^ m : Nat) : Int)) from he)]; exact ⟨fun _ => h2 fun h => he (h _ (Jcd (by omega))), fun h => absurd h (by decide)⟩
 .obtain ⟨t', h3, rfl⟩ := Jk8 hx; exact hk t' (by omega)
def shp (C : Int) (X : LL) : Prop := 0 <= C /\ C <= 256 /\ X.length <= 256 /\ ∀ r ∈ X, (r.length : Int) = C
theorem Jkb {C : Int} {Q : Bool -> Prop} (h1 : shp C X -> Q true) (h2 : ¬ shp C X -> Q false) : YH C X Q := by
 refine ⟨fun h => h2 fun s => by have := s.1; omega, fun h0 => ⟨fun h => h2 fun s => by have := s.2.1; omega, fun h3 => ⟨fun h => h2 fun s => by have := s.2.2.1; omega, fun h4 => ?_⟩⟩⟩; refine ⟨fun z => ∃ t : Nat, z = t /\ t <= X.length /\ ∀ k, k < t -> ((row X k).length : Int) = C, fun z => (X.length - z).toNat, ⟨0, rfl, Nat.zero_le _, fun k h => by omega⟩, ?_⟩; rintro _ ⟨t, rfl, ht, hk⟩; dsimp only; refine ⟨fun hlt => ⟨⟨by omega, by omega⟩, fun hne => h2 fun s => hne (s.2.2.2 _ (Jda (by omega))), fun he => ⟨Ju (by omega) (by omega), ⟨t + 1, by push_cast; rfl, by omega, fun k hk' => ?_⟩, by omega⟩⟩, fun hge => h1 ⟨by omega, by omega, by omega, fun r hr => ?_⟩⟩
 .rcases Nat.lt_or_ge k t with h | h
  .exact hk k h
  .rw [show k = t by omega]; exact Classical.not_not.1 he
 .obtain ⟨t', h3, rfl⟩ := Jde hr; exact hk t' (by omega)
theorem Jp5 {Q : LL -> Prop} (hX : X.length <= 1000000) (hr : ∀ r ∈ X, r.length <= 1000000) (h : Q X) : Jb7 X Q := by
 refine ⟨⟨by omega, by omega, by omega⟩, fun x z => ∃ t : Nat, z = t /\ t <= X.length /\ x.length = X.length /\ ∀ k, k < t -> row x k = row X k, fun x z => (X.length - z).toNat, ⟨0, rfl, Nat.zero_le _, by simp, fun k h => by omega⟩, ?_⟩; rintro x _ ⟨t, rfl, ht, hx, hk⟩; dsimp only; refine ⟨fun hlt => ⟨⟨by omega, by omega⟩, Z2 (hr _ (Jda (t := t) (by omega))) ⟨⟨by omega, by omega⟩, Ju (by omega) (by omega), ⟨t + 1, by push_cast; rfl, by omega, ?_, fun k hk' => ?_⟩, ?_⟩⟩, fun hge => ?_⟩
 .rw [Jgc]; exact hx
 .show row (x.set t (row X t)) k = row X k; rw [QI]; by_cases e : t = k
  .rw [if_pos ⟨e, by omega⟩, e]
  .rw [if_neg (fun h => e h.1)]; exact hk k (by omega)
 .omega
 .rw [show x = X from Yw hx fun i hi => hk i (by omega)]; exact h
theorem Jtp {c s : Nat} {Q : Int -> Prop} (hs : s <= X.length) (hX : X.length <= 1000000) (hc : ∀ t, t < X.length -> c < (row X t).length) (h : Q ((nz X c s : Nat) : Int)) : Yb X s c Q := by
 refine ⟨fun r => r = ((nz X c s : Nat) : Int), ⟨fun z => ∃ t : Nat, z = t /\ s <= t /\ t <= X.length /\ ∀ k, s <= k -> k < t -> vo (row X k) c = 0, fun z => (X.length - z).toNat, ⟨s, rfl, Nat.le_refl _, hs, fun k h1 h2 => by omega⟩, ?_⟩, ?_⟩
 .rintro _ ⟨t, rfl, h1, h2, h3⟩; dsimp only; refine ⟨fun hlt => ⟨⟨by omega, by omega⟩, ⟨by omega, by have := hc t (by omega); show (c : Int) < ((row X t).length : Nat); omega⟩, fun he => ⟨Ju (by omega) (by omega), ⟨t + 1, by push_cast; rfl, by omega, by omega, fun k hk1 hk2 => ?_⟩, by omega⟩, fun hne => ?_⟩, fun hge => ?_⟩
  .rcases Nat.lt_or_ge k t with h | h
   .exact h3 k hk1 h
   .rw [show k = t by omega]; exact he
  .exact congrArg _ (Jri h1 h2 h3 fun _ => hne)
  .exact congrArg _ (Jri h1 h2 h3 fun h => by omega)
 .rintro _ rfl; exact h
theorem Jaq {a o : LI} {x : Int} {Q : LI -> Prop} (K : GFk F p m v g) (hl : o.length <= a.length) (ha : a.length <= 1000000) (h : Q (adx p m v a x o)) : JY F a x o Q := by
 refine ⟨fun h0 => by unfold adx at h; rwa [if_pos h0] at h, fun h0 => ?_⟩; unfold adx at h; rw [if_neg h0] at h; refine ⟨fun y z => ∃ t : Nat, z = t /\ t <= o.length /\ y.length = a.length /\ ∀ k, k < a.length -> vo y k = if k < t then vo (adm p m v a x o) k else vo a k, fun y z => (o.length - z).toNat, ⟨0, rfl, Nat.zero_le _, rfl, fun k hk => by simp⟩, ?_⟩; rintro y _ ⟨t, rfl, ht, hy, hk⟩; dsimp only; rw [JW, JW]; refine ⟨fun hlt => ⟨fun y' => y'.length = a.length /\ ∀ k, k < a.length -> vo y' k = if k < t + 1 then vo (adm p m v a x o) k else vo a k, ⟨⟨by omega, by omega⟩, fun hne => ⟨⟨by omega, by omega⟩, _, Jhu K rfl, _, v_Add K rfl, ⟨by omega, by omega⟩, ?_⟩, fun he => ?_⟩, ?_⟩, fun hge => ?_⟩
 .rw [Qo]; refine ⟨by rw [List.length_set]; exact hy, fun k hk' => ?_⟩; rw [Qd]; by_cases e : t = k
  .subst e; rw [if_pos ⟨rfl, by omega⟩, if_pos (by omega), Jcf hk', if_neg hne, hk t hk', if_neg (by omega)]; rfl
  .rw [if_neg (fun h => e h.1), hk k hk']; by_cases hkt : k < t
   .rw [if_pos hkt, if_pos (by omega)]
   .rw [if_neg hkt, if_neg (by omega)]
 .have he' : vo o t = 0 := Classical.not_not.1 he; refine ⟨hy, fun k hk' => ?_⟩; rw [hk k hk']; by_cases e : k = t
  .subst e; rw [if_neg (by omega), if_pos (by omega), Jcf hk', if_pos he']
  .by_cases hkt : k < t
   .rw [if_pos hkt, if_pos (by omega)]
   .rw [if_neg hkt, if_neg (by omega)]
 .rintro y' ⟨h1, h2⟩; exact ⟨Ju (by omega) (by omega), ⟨t + 1, by push_cast; rfl, by omega, h1, h2⟩, by omega⟩
 .have : y = adm p m v a x o := YB (by rw [Jdj]; exact hy) fun i hi => by
   rw [hk i (by omega)]; by_cases hit : i < t
   .rw [if_pos hit]
   .rw [if_neg hit, Jcf (by omega), if_pos (Jar (by omega))]
  rw [this]; exact h
theorem Jmc {x : Int} {l : LI} {Q : LI -> Prop} (K : GFk F p m v g) (hl : l.length <= 1000) (h : Q (sc p m v x l)) : Zx F x l Q := Jtu K hl fun r h1 h2 => by
 have : r = sc p m v x l := YB (by rw [Jd3]; exact h1) fun i hi => by rw [h2 i (by omega), Jfb (by omega)]; rfl
 rw [this]; exact h
end
end Go.Proofs.Ytjgpkljepgcekaa
namespace Go.Proofs.Ytjgpkljepgcekaa
structure Shp (n w wy : Nat) (S : ES) : Prop where
  xl : S.X.length = n
  xr : ∀ t, t < n -> (row S.X t).length = w
  yl : S.Y.length = n
  yr : ∀ t, t < n -> (row S.Y t).length = wy
  pl : S.pv.length <= n
section
variable {p m v n w wy : Nat}
theorem Jhx {X : LL} {i j t w : Nat} (hi : i < X.length) (hj : j < X.length) (h : ∀ t, t < X.length -> (row X t).length = w) (ht : t < X.length) : (row (swp X i j) t).length = w := by
 rw [Jgd hi hj]; split
 .exact h _ hi
 .split
  .exact h _ hj
  .exact h _ ht
def swq (X : LL) (r cur : Nat) : LL := if r = cur then X else swp X r cur
theorem JT (X : LL) (r cur : Nat) : (swq X r cur).length = X.length := by
 unfold swq; split
 .rfl
 .exact Jtx ..
theorem QY {X : LL} {i j t w : Nat} (hi : i < X.length) (hj : j < X.length) (h : ∀ t, t < X.length -> (row X t).length = w) (ht : t < X.length) : (row (swq X i j) t).length = w := by
 unfold swq; split
 .exact h _ ht
 .exact Jhx hi hj h ht
def scq (p m v : Nat) (X : LL) (cur : Nat) (e : Int) : LL := X.set cur (sc p m v (Iv p m v e) (row X cur))
theorem Qv (X : LL) (cur : Nat) (e : Int) : (scq p m v X cur e).length = X.length := by simp [scq]
theorem QZ {X : LL} {cur t w : Nat} {e : Int} (hc : cur < X.length) (h : ∀ t, t < X.length -> (row X t).length = w) (ht : t < X.length) : (row (scq p m v X cur e) t).length = w := by
 unfold scq; rw [QI]; split
 .rw [Jd3]; exact h _ hc
 .exact h _ ht
theorem Jc2 {X : LL} {f : Nat -> Int} {cur t w : Nat} (h : ∀ t, t < X.length -> (row X t).length = w) (ht : t < X.length) : (row (clr p m v f cur X) t).length = w := by
 rw [YL ht]; split
 .exact h _ ht
 .rw [Jdi]; exact h _ ht
theorem Jbu (c r cur : Nat) (S : ES) : (es1 p m v c r cur S).X = clr p m v (fun t => Ng p m (vo (row (scq p m v (swq S.X r cur) cur (vo (row (swq S.X r cur) cur) c)) t) c)) cur (scq p m v (swq S.X r cur) cur (vo (row (swq S.X r cur) cur) c)) := rfl
theorem Jr0 (c r cur : Nat) (S : ES) : (es1 p m v c r cur S).Y = clr p m v (fun t => Ng p m (vo (row (scq p m v (swq S.X r cur) cur (vo (row (swq S.X r cur) cur) c)) t) c)) cur (scq p m v (swq S.Y r cur) cur (vo (row (swq S.X r cur) cur) c)) := rfl
theorem Jux {c r cur : Nat} {S : ES} (h : Shp n w wy S) (hr : r < n) (hc : cur < n) (hp : S.pv.length < n) : Shp n w wy (es1 p m v c r cur S) := by
 have hx := h.xl; have hy := h.yl; have ax : ∀ t, t < S.X.length -> (row S.X t).length = w := fun t ht => h.xr t (by omega); have ay : ∀ t, t < S.Y.length -> (row S.Y t).length = wy := fun t ht => h.yr t (by omega); refine ⟨?_, fun t ht => ?_, ?_, fun t ht => ?_, ?_⟩
 .rw [Jbu, Yx, Qv, JT]; exact hx
 .rw [Jbu]; refine Jc2 (fun t ht => ?_) (by rw [Qv, JT]; omega); rw [Qv, JT] at ht; refine QZ (by rw [JT]; omega) (fun t ht => ?_) (by rw [JT]; omega); rw [JT] at ht; exact QY (by omega) (by omega) ax ht
 .rw [Jr0, Yx, Qv, JT]; exact hy
 .rw [Jr0]; refine Jc2 (fun t ht => ?_) (by rw [Qv, JT]; omega); rw [Qv, JT] at ht; refine QZ (by rw [JT]; omega) (fun t ht => ?_) (by rw [JT]; omega); rw [JT] at ht; exact QY (by omega) (by omega) ay ht
 .show (S.pv ++ [(c : Int)]).length <= n; rw [List.length_append]; simp; omega
theorem Jpa {c : Nat} {S : ES} (h : Shp n w wy S) : Shp n w wy (Yd p m v S c) := by
 unfold Yd; split
 .rename_i hc
  exact Jux h (by have := h.xl; omega) (by have := h.xl; omega) (by have := h.xl; omega)
 .exact h
theorem QL (k : Nat) (S : ES) : elim p m v (k + 1) S = Yd p m v (elim p m v k S) k := by
 unfold elim; rw [List.range_succ, List.foldl_append]; rfl
theorem Y0 {S : ES} (h : Shp n w wy S) : ∀ k, Shp n w wy (elim p m v k S)
 | 0 => h
 | k + 1 => by rw [QL]; exact Jpa (Y0 h k)
theorem Jfu {S : ES} {k : Nat} (h : ¬ (elim p m v k S).pv.length < (elim p m v k S).X.length) : ∀ j, elim p m v (k + j) S = elim p m v k S
 | 0 => rfl
 | j + 1 => by
  rw [<- Nat.add_assoc, QL, Jfu h j]; unfold Yd; rw [if_neg (fun hc => h hc.1)]
end
section
variable {F : GFv} {p m v g : Nat} {P M : Int} {mf : LI} {X Y : LL}
theorem Jtl (R : CR (p ^ m) (JI p m) (Jr p m (dv p v))) {x : Int} {z : Nat} (hx : inE (p ^ m) x < p ^ m) (hz : z < p ^ m) (h : Jr p m (dv p v) z (inE (p ^ m) x) = 1) : Iv p m v x = (z : Int) := by
 unfold Iv; cases hf : (List.range (p ^ m)).find? fun z => Jr p m (dv p v) z (inE (p ^ m) x) == 1 with
 | none =>
  have := List.find?_eq_none.1 hf z (List.mem_range.2 hz); simp [h] at this
 | some y =>
  have h1 := List.find?_some hf; have h2 := List.mem_range.1 (List.mem_of_find?_eq_some hf); have h1' : Jr p m (dv p v) y (inE (p ^ m) x) = 1 := by simpa using h1
  show (y : Int) = z; have e : y = z := by
   have q1 : 1 < p ^ m := R.q2
   calc y = Jr p m (dv p v) y 1 := (R.M1 h2).symm
    _ = Jr p m (dv p v) y (Jr p m (dv p v) z (inE (p ^ m) x)) := by rw [h]
    _ = Jr p m (dv p v) y (Jr p m (dv p v) (inE (p ^ m) x) z) := by rw [R.Mc hz hx]
    _ = Jr p m (dv p v) (Jr p m (dv p v) y (inE (p ^ m) x)) z := (R.Ma h2 hx hz).symm
    _ = Jr p m (dv p v) 1 z := by rw [h1']
    _ = Jr p m (dv p v) z 1 := R.Mc q1 hz
    _ = z := R.M1 hz
  rw [e]
theorem Jvw (R : CR (p ^ m) (JI p m) (Jr p m (dv p v))) {x : Int} (hx : inE (p ^ m) x = 0) : Iv p m v x = 0 := by
 unfold Iv; cases hf : (List.range (p ^ m)).find? fun z => Jr p m (dv p v) z (inE (p ^ m) x) == 1 with
 | none => rfl
 | some y =>
  have h1 := List.find?_some hf; have h2 := List.mem_range.1 (List.mem_of_find?_eq_some hf); rw [hx, R.M0 h2] at h1; simp at h1
def prt (p m v : Nat) (f : Nat -> Int) (cur t : Nat) (X : LL) : LL := (List.range X.length).map fun s => if s < t /\ s ≠ cur then adx p m v (row X s) (f s) (row X cur) else row X s
theorem Q3 (f : Nat -> Int) (cur t : Nat) (X : LL) : (prt p m v f cur t X).length = X.length := by simp [prt]
theorem Q2 {f : Nat -> Int} {cur t s : Nat} (h : s < X.length) : row (prt p m v f cur t X) s = if s < t /\ s ≠ cur then adx p m v (row X s) (f s) (row X cur) else row X s := Jgg h
theorem Jh9 (f : Nat -> Int) (cur : Nat) : prt p m v f cur 0 X = X := Yw (Q3 ..) fun i hi => by
 rw [Q3] at hi; rw [Q2 hi, if_neg (by omega)]
theorem Jmv (f : Nat -> Int) (cur : Nat) : prt p m v f cur X.length X = clr p m v f cur X := Yw (by rw [Q3, Yx]) fun i hi => by
 rw [Q3] at hi; rw [Q2 hi, YL hi]; by_cases h : i = cur
 .rw [if_neg (fun hh => hh.2 h), if_pos h]
 .rw [if_pos ⟨hi, h⟩, if_neg h]
theorem prt_same {f : Nat -> Int} {cur : Nat} : prt p m v f cur (cur + 1) X = prt p m v f cur cur X := Yw (by rw [Q3, Q3]) fun i hi => by
 rw [Q3] at hi; rw [Q2 hi, Q2 hi]; by_cases h : i = cur
 .rw [if_neg (fun hh => hh.2 h), if_neg (fun hh => hh.2 h)]
 .by_cases h1 : i < cur
  .rw [if_pos ⟨by omega, h⟩, if_pos ⟨h1, h⟩]
  .rw [if_neg (fun hh => h1 (by omega)), if_neg (fun hh => h1 hh.1)]
theorem Jia {f : Nat -> Int} {cur t : Nat} (ht : t < X.length) (hc : t ≠ cur) : (prt p m v f cur t X).set t (adx p m v (row X t) (f t) (row X cur)) = prt p m v f cur (t + 1) X := Yw (by rw [List.length_set, Q3, Q3]) fun i hi => by
 rw [List.length_set, Q3] at hi; rw [QI, Q3, Q2 (t := t + 1) hi]; by_cases h : t = i
 .subst h; rw [if_pos ⟨rfl, ht⟩, if_pos ⟨by omega, hc⟩]
 .rw [if_neg (fun hh => h hh.1), Q2 hi]; by_cases h1 : i < t
  .by_cases h2 : i = cur
   .rw [if_neg (fun hh => hh.2 h2), if_neg (fun hh => hh.2 h2)]
   .rw [if_pos ⟨h1, h2⟩, if_pos ⟨by omega, h2⟩]
  .rw [if_neg (fun hh => h1 hh.1), if_neg (fun hh => h1 (by omega))]
theorem Jhp {cols wy : Nat} {Q : LI × Int × LL × LL -> Prop} (K : GFk F p m v g) (hX : X.length <= 300) (hc : cols <= 300) (hw : wy <= 300) (hS : Shp X.length cols wy ⟨X, Y, [], 1⟩)
  (h : Q ((elim p m v cols ⟨X, Y, [], 1⟩).pv, (elim p m v cols ⟨X, Y, [], 1⟩).d, (elim p m v cols ⟨X, Y, [], 1⟩).X, (elim p m v cols ⟨X, Y, [], 1⟩).Y)) : Yq F cols X Y Q := by
 have hYl : Y.length = X.length := hS.yl; generalize hS0 : (⟨X, Y, [], 1⟩ : ES) = S0 at h hS; refine ⟨fun a b c d => (⟨a, b, c, d⟩ : ES) = elim p m v cols S0, ⟨fun a b c d z => ∃ k : Nat, z = k /\ k <= cols /\ (⟨a, b, c, d⟩ : ES) = elim p m v k S0, fun _ _ _ _ z => (cols - z).toNat, ⟨0, rfl, Nat.zero_le _, hS0⟩, ?_⟩, ?_⟩
 .rintro a b c d _ ⟨k, rfl, hk, he⟩; have hs := Y0 (p := p) (m := m) (v := v) hS k; have hstop := Jfu (p := p) (m := m) (v := v) (S := S0) (k := k); have hsucc := QL (p := p) (m := m) (v := v) k S0; rw [<- he] at hs hstop hsucc; have hal : a.length = X.length := hs.xl; have hbl : b.length = X.length := hs.yl; have har := hs.xr; have hbr := hs.yr; have hpl : c.length <= X.length := hs.pl; simp only at har hbr; refine ⟨fun hlt => ⟨fun hlc => ?_, fun hge => ?_⟩, fun hge => ?_⟩
  .have hcur : c.length < X.length := by omega
   have hkc : k < cols := by omega
   refine ⟨fun pv x y d' _ _ => (⟨x, y, pv, d'⟩ : ES) = elim p m v (k + 1) S0, Jtp (by omega) (by omega) (fun t ht => by rw [har t (by omega)]; exact hkc) ?_, ?_⟩
   .refine ⟨fun heq => ?_, fun hne => ?_⟩
    .rw [hsucc]; unfold Yd; rw [if_neg (fun hh => by have := hh.2; simp only at this; omega)]
    .have hnz := (Z6 a k c.length (by omega)).1; have hr : nz a k c.length < X.length := by omega
     generalize hrr : nz a k c.length = r at hr hne; rw [show Yd p m v ⟨a, b, c, d⟩ k = es1 p m v k r c.length ⟨a, b, c, d⟩ by unfold Yd; rw [if_pos ⟨by simp only; omega, by simp only; omega⟩, <- hrr]] at hsucc; refine ⟨fun x y d' => x = swq a r c.length /\ y = swq b r c.length /\ d' = (if r = c.length then d else Ng p m d), ⟨fun hrc => ⟨⟨by omega, by omega⟩, ⟨by omega, by omega⟩, ⟨by omega, by omega⟩, ⟨by omega, by omega⟩, ⟨by omega, by omega⟩, ⟨by omega, by omega⟩, ⟨by omega, by omega⟩, ⟨by omega, by omega⟩, Jmi K ?_⟩, fun hrc => ?_⟩, ?_⟩
     .have hrc' : r ≠ c.length := fun e => hrc (by rw [e]); refine ⟨?_, ?_, by rw [if_neg hrc']; rfl⟩
      .unfold swq; rw [if_neg hrc']; rfl
      .unfold swq; rw [if_neg hrc']; rfl
     .have hrc' : r = c.length := by have := Classical.not_not.1 hrc; omega
      refine ⟨?_, ?_, by rw [if_pos hrc']⟩
      .unfold swq; rw [if_pos hrc']
      .unfold swq; rw [if_pos hrc']
     .rintro _ _ _ ⟨rfl, rfl, rfl⟩; have hx1 : ∀ t, t < X.length -> (row (swq a r c.length) t).length = cols := fun t ht => QY (by omega) (by omega) (fun t ht => har t (by omega)) (by omega); have hy1 : ∀ t, t < X.length -> (row (swq b r c.length) t).length = wy := fun t ht => QY (by omega) (by omega) (fun t ht => hbr t (by omega)) (by omega); have hl1 := JT a r c.length; have hl2 := JT b r c.length; have hxs := Jbu (p := p) (m := m) (v := v) k r c.length ⟨a, b, c, d⟩; have hys := Jr0 (p := p) (m := m) (v := v) k r c.length ⟨a, b, c, d⟩; have hds : (es1 p m v k r c.length ⟨a, b, c, d⟩).d = Ml p m v (if r = c.length then d else Ng p m d) (vo (row (swq a r c.length) c.length) k) := rfl; have hps : (es1 p m v k r c.length ⟨a, b, c, d⟩).pv = c ++ [(k : Int)] := rfl; simp only at hxs hys; generalize swq a r c.length = x1 at *
      generalize swq b r c.length = y1 at *
      have he1 : gi (gl x1 (c.length : Nat)) (k : Int) = vo (row x1 c.length) k := rfl; refine ⟨⟨by omega, by omega⟩, ⟨by omega, ?_⟩, _, Jhu K rfl, fun z => z = Iv p m v (vo (row x1 c.length) k), ⟨⟨by omega, by omega⟩, ⟨by omega, ?_⟩, Iv p m v (vo (row x1 c.length) k), ?_⟩, ?_⟩
      .show (k : Int) < ((row x1 c.length).length : Nat); rw [hx1 _ hcur]; omega
      .show (k : Int) < ((row x1 c.length).length : Nat); rw [hx1 _ hcur]; omega
      .by_cases h0 : inE (p ^ m) (vo (row x1 c.length) k) = 0
       .exact ⟨7, v_Inv K (fun _ => by rw [Jvw K.fv.ring h0]) (fun z h1 => absurd h0 h1), rfl⟩
       .exact ⟨0, v_Inv K (fun h1 => absurd h1 h0) (fun z h1 h2 h3 => by have e := Jtl (x := vo (row x1 c.length) k) K.fv.ring (JS (by have := K.fv.ring.q2; omega) _) h2 h3; rw [e]), rfl⟩
      .rintro _ rfl; have hsx : sll x1 (c.length : Int) (sc p m v (Iv p m v (vo (row x1 c.length) k)) (row x1 c.length)) = scq p m v x1 c.length (vo (row x1 c.length) k) := rfl; have hsy : sll y1 (c.length : Int) (sc p m v (Iv p m v (vo (row x1 c.length) k)) (row y1 c.length)) = scq p m v y1 c.length (vo (row x1 c.length) k) := rfl; refine ⟨⟨by omega, by omega⟩, _, Jmc K (by show (row x1 c.length).length <= 1000; rw [hx1 _ hcur]; omega) rfl, ⟨by omega, by omega⟩, ⟨by omega, by omega⟩, _, Jmc K (by show (row y1 c.length).length <= 1000; rw [hy1 _ hcur]; omega) rfl, ⟨by omega, by omega⟩, ?_⟩; have hx2 : ∀ t, t < X.length -> (row (scq p m v x1 c.length (vo (row x1 c.length) k)) t).length = cols := fun t ht => QZ (by omega) (fun t ht => hx1 t (by omega)) (by omega); have hy2 : ∀ t, t < X.length -> (row (scq p m v y1 c.length (vo (row x1 c.length) k)) t).length = wy := fun t ht => QZ (by omega) (fun t ht => hy1 t (by omega)) (by omega); have hl3 := Qv (p := p) (m := m) (v := v) x1 c.length (vo (row x1 c.length) k); have hl4 := Qv (p := p) (m := m) (v := v) y1 c.length (vo (row x1 c.length) k); generalize scq p m v x1 c.length (vo (row x1 c.length) k) = x2 at *
       generalize scq p m v y1 c.length (vo (row x1 c.length) k) = y2 at *
       have hfm : ∀ t, t < X.length -> vo (row (prt p m v (fun t => Ng p m (vo (row x2 t) k)) c.length t x2) t) k = vo (row x2 t) k := fun t ht => by
        rw [Q2 (by omega), if_neg (by omega)]
       generalize hf : (fun t => Ng p m (vo (row x2 t) k)) = f at *
       refine ⟨fun x y z => ∃ t : Nat, z = t /\ t <= X.length /\ x = prt p m v f c.length t x2 /\ y = prt p m v f c.length t y2, fun x y z => (X.length - z).toNat, ⟨0, rfl, Nat.zero_le _, hsx.trans (Jh9 _ _).symm, hsy.trans (Jh9 _ _).symm⟩, ?_⟩; rintro _ _ _ ⟨t, rfl, ht, rfl, rfl⟩; refine ⟨fun hlt2 => ?_, fun hge2 => ?_⟩
       .have htX : t < X.length := by omega
        have hg1 : gl (prt p m v f c.length t x2) (t : Int) = row x2 t := by
         show row (prt p m v f c.length t x2) t = _; rw [Q2 (by omega), if_neg (by omega)]
        have hg2 : gl (prt p m v f c.length t y2) (t : Int) = row y2 t := by
         show row (prt p m v f c.length t y2) t = _; rw [Q2 (by omega), if_neg (by omega)]
        have hg3 : gl (prt p m v f c.length t x2) (c.length : Int) = row x2 c.length := by
         show row (prt p m v f c.length t x2) c.length = _; rw [Q2 (by omega), if_neg (by omega)]
        have hg4 : gl (prt p m v f c.length t y2) (c.length : Int) = row y2 c.length := by
         show row (prt p m v f c.length t y2) c.length = _; rw [Q2 (by omega), if_neg (by omega)]
        rw [hg1, hg2, hg3, hg4]; have hft : Ng p m (gi (row x2 t) (k : Int)) = f t := by rw [<- hf]; rfl
        refine ⟨fun x y z => x = prt p m v f c.length (t + 1) x2 /\ y = prt p m v f c.length (t + 1) y2, ⟨⟨by omega, by omega⟩, ⟨by omega, by rw [hx2 t htX]; omega⟩, _, Jmi K rfl, fun hne2 => ?_, fun he2 => ?_⟩, ?_⟩
        .have hne3 : t ≠ c.length := fun e => hne2 (by rw [e]); have hne4 : (c.length : Int).toNat ≠ (t : Int).toNat := by omega
         refine ⟨⟨by omega, by omega⟩, ⟨by omega, by omega⟩, hne4, Jaq K (by rw [hx2 t htX, hx2 _ hcur]; exact Nat.le_refl _) (by rw [hx2 t htX]; omega) ⟨⟨by omega, by omega⟩, ⟨by omega, by omega⟩, hne4, Jaq K (by rw [hy2 t htX, hy2 _ hcur]; exact Nat.le_refl _) (by rw [hy2 t htX]; omega) ⟨?_, ?_⟩⟩⟩
         .show (prt p m v f c.length t x2).set t (adx p m v (row x2 t) (Ng p m (gi (row x2 t) (k : Int))) (row x2 c.length)) = _; rw [hft, Jia (by omega) hne3]
         .show (prt p m v f c.length t y2).set t (adx p m v (row y2 t) (Ng p m (gi (row x2 t) (k : Int))) (row y2 c.length)) = _; rw [hft, Jia (by omega) hne3]
        .have he3 : t = c.length := by have := Classical.not_not.1 he2; omega
         subst he3; exact ⟨prt_same.symm, prt_same.symm⟩
        .rintro _ _ _ ⟨rfl, rfl⟩; refine ⟨Ju (by omega) (by omega), ⟨t + 1, by push_cast; rfl, by omega, rfl, rfl⟩, ?_⟩; show ((X.length : Int) - ((t : Int) + 1)).toNat < ((X.length : Int) - (t : Int)).toNat; omega
       .have hte : t = X.length := by omega
        subst hte; refine ⟨by omega, ?_⟩; have e1 := Jmv (p := p) (m := m) (v := v) (X := x2) f c.length; have e2 := Jmv (p := p) (m := m) (v := v) (X := y2) f c.length; rw [show x2.length = X.length by omega] at e1; rw [show y2.length = X.length by omega] at e2; rw [e1, e2, hsucc]; rw [<- hxs, <- hys]; show (⟨_, _, c ++ [(k : Int)], _⟩ : ES) = _; rw [<- hps]; show (⟨(es1 p m v k r c.length ⟨a, b, c, d⟩).X, (es1 p m v k r c.length ⟨a, b, c, d⟩).Y, (es1 p m v k r c.length ⟨a, b, c, d⟩).pv, Ml p m v (if r = c.length then d else Ng p m d) (vo (row x1 c.length) k)⟩ : ES) = _; rw [<- hds]
   .rintro pv x y d' _ _ hE; refine ⟨Ju (by omega) (by omega), ⟨k + 1, by push_cast; rfl, by omega, hE⟩, ?_⟩; show ((cols : Int) - ((k : Int) + 1)).toNat < ((cols : Int) - (k : Int)).toNat; omega
  .have hst := hstop (by show ¬ c.length < a.length; omega) (cols - k); rw [show k + (cols - k) = cols by omega] at hst; exact hst.symm
  .show (⟨a, b, c, d⟩ : ES) = _; rw [he, show k = cols by omega]
 .rintro a b c d he; rw [<- he] at h; exact h
end
end Go.Proofs.Ytjgpkljepgcekaa
namespace Go.Proofs.Ytjgpkljepgcekaa
section
variable {p m v n w wy : Nat}
theorem Jek {q : Nat} (h : q < p ^ m) : El p m (q : Int) := ⟨by omega, by omega⟩
theorem Jcr {l : LI} (h : Elr p m l) {t : Nat} (ht : t < l.length) : El p m (vo l t) := h _ (Jcd ht)
theorem QK {X : LL} (h : Els p m X) (t : Nat) : Elr p m (row X t) := by
 rcases Nat.lt_or_ge t X.length with ht | ht
 .exact h _ (Jda ht)
 .rw [row_hi ht]; exact fun x hx => by cases hx
theorem Jg4 {X : LL} (h : ∀ t, t < X.length -> Elr p m (row X t)) : Els p m X := fun r hr => by
 obtain ⟨t, ht, rfl⟩ := Jde hr; exact h t ht
theorem Jr2 {l : LI} (h : ∀ t, t < l.length -> El p m (vo l t)) : Elr p m l := fun x hx => by
 obtain ⟨t, ht, rfl⟩ := Jk8 hx; exact h t ht
theorem sc_els (hp : 0 < p) {x : Int} {l : LI} : Elr p m (sc p m v x l) := Jr2 fun t ht => by
 rw [Jd3] at ht; rw [Jfb ht]; exact Jek (Jg3 hp _ _)
theorem Jva (hp : 0 < p) {a o : LI} {x : Int} (ha : Elr p m a) : Elr p m (adm p m v a x o) := Jr2 fun t ht => by
 rw [Jdj] at ht; rw [Jcf ht]; split
 .exact Jcr ha ht
 .exact Jek (Jne hp _ _)
theorem Jnn (hp : 0 < p) {a o : LI} {x : Int} (ha : Elr p m a) : Elr p m (adx p m v a x o) := by
 unfold adx; split
 .exact ha
 .exact Jva hp ha
theorem Jnf (hp : 0 < p) {c r cur : Nat} {S : ES} (h : Els p m S.X) (hr : r < S.X.length) (hc : cur < S.X.length) : Els p m (es1 p m v c r cur S).X := by
 rw [Jbu]; have h1 : Els p m (swq S.X r cur) := Jg4 fun t ht => by
  rw [JT] at ht; unfold swq; split
  .exact QK h t
  .rw [Jgd hr hc]; split
   .exact QK h _
   .split <;> exact QK h _
 have h2 : ∀ e, Els p m (scq p m v (swq S.X r cur) cur e) := fun e => Jg4 fun t ht => by
  unfold scq; rw [QI]; split
  .exact sc_els hp
  .exact QK h1 t
 refine Jg4 fun t ht => ?_; rw [Yx] at ht; rw [YL ht]; split
 .exact QK (h2 _) t
 .exact Jnn hp (QK (h2 _) t)
theorem Jpb (hp : 0 < p) {c : Nat} {S : ES} (h : Els p m S.X) : Els p m (Yd p m v S c).X := by
 unfold Yd; split
 .rename_i hc; exact Jnf hp h hc.2 hc.1
 .exact h
theorem Jbv (hp : 0 < p) {S : ES} (h : Els p m S.X) : ∀ k, Els p m (elim p m v k S).X
 | 0 => h
 | k + 1 => by rw [QL]; exact Jpb hp (Jbv hp h k)
end
section
variable {F : GFv} {p m v g : Nat} {P M : Int} {mf : LI} {X Y : LL}
theorem Jay {x : Int} (h : El p m x) : ((inE (p ^ m) x : Nat) : Int) = x := by
 unfold inE; rw [if_pos (show 0 <= x /\ x < ((p ^ m : Nat) : Int) from h)]; have := h.1; omega
theorem Jm7 (hF : FV P M mf p m v) {x : Int} (h : El p m x) : Ng p m x = 0 ↔ x = 0 := by
 have R := hF.ring; have hp := hF.p2; have hx := JS (q := p ^ m) (by have := R.q2; omega) x; have h1 := QR (p := p) (m := m) (by omega) hx; constructor
 .intro h0; have h2 : Qz p m (inE (p ^ m) x) = 0 := Int.ofNat.inj h0; rw [h2, R.Az hx] at h1; rw [<- Jay h, h1]; rfl
 .intro h0; have h3 : inE (p ^ m) x = 0 := by rw [h0]; unfold inE; split <;> rfl
  rw [h3] at h1; show ((Qz p m (inE (p ^ m) x) : Nat) : Int) = 0; rw [h3]; have h4 : Qz p m 0 < p ^ m := QJ (by omega) 0; have h5 : JI p m 0 (Qz p m 0) = Qz p m 0 := by rw [R.Ac, R.Az h4]
  rw [h5] at h1; rw [h1]; rfl
theorem ml_one (hF : FV P M mf p m v) {x : Int} (h : El p m x) : Ml p m v 1 x = x := by
 have R := hF.ring; have hq := R.q2; have hx := JS (q := p ^ m) (by omega) x; unfold Ml; rw [show inE (p ^ m) (1 : Int) = 1 from J3 (x := 1) (by omega), R.Mc (by omega) hx, R.M1 hx]; exact Jay h
theorem iv_one (hF : FV P M mf p m v) : Iv p m v 1 = 1 := by
 have R := hF.ring; have hq := R.q2; have e1 : inE (p ^ m) (1 : Int) = 1 := J3 (x := 1) (by omega); exact Jtl R (z := 1) (by rw [e1]; omega) (by omega) (by rw [e1]; exact R.M1 (by omega))
theorem sc_one (hF : FV P M mf p m v) {l : LI} (h : Elr p m l) : sc p m v 1 l = l := YB (Jd3 _ _) fun i hi => by
 rw [Jd3] at hi; rw [Jfb hi, ml_one hF (Jcr h hi)]
end
end Go.Proofs.Ytjgpkljepgcekaa
namespace Go.Proofs.Ytjgpkljepgcekaa
section
variable {F : GFv} {p m v g : Nat} {P M : Int} {mf : LI} {X Y : LL} {C : Int}
def Jp0 (P M : Int) (mf : LI) (X : LL) : Prop := ∃ p m v, FV P M mf p m v /\ Els p m X
open Classical in
noncomputable def mck (P M : Int) (mf : LI) (C : Int) (X : LL) : Int := if ¬ QB P M mf then 1 else if ¬ shp C X then 3 else if ¬ Jp0 P M mf X then 2 else 0
theorem FV.uniq {p' m' v' : Nat} (h : FV P M mf p m v) (h' : FV P M mf p' m' v') : p = p' /\ m = m' := ⟨by have := h.eP; have := h'.eP; omega, by have := h.eM; have := h'.eM; omega⟩
theorem Q8 (h : FV P M mf p m v) : Jp0 P M mf X ↔ Els p m X := ⟨fun ⟨p', m', v', h1, h2⟩ => by obtain ⟨rfl, rfl⟩ := h.uniq h1; exact h2, fun h2 => ⟨p, m, v, h, h2⟩⟩
theorem Jk9 (h : ¬ QB P M mf) : mck P M mf C X = 1 := if_pos h
theorem Jm9 (h : QB P M mf) (hs : ¬ shp C X) : mck P M mf C X = 3 := by unfold mck; rw [if_neg (fun hh => hh h), if_pos hs]
theorem Jgv (h : QB P M mf) (hs : shp C X) (he : ¬ Jp0 P M mf X) : mck P M mf C X = 2 := by unfold mck; rw [if_neg (fun hh => hh h), if_neg (fun hh => hh hs), if_pos he]
theorem Jcn (h : QB P M mf) (hs : shp C X) (he : Jp0 P M mf X) : mck P M mf C X = 0 := by unfold mck; rw [if_neg (fun hh => hh h), if_neg (fun hh => hh hs), if_neg (fun hh => hh he)]
theorem Jiu (h : mck P M mf C X = 0) : QB P M mf /\ shp C X /\ Jp0 P M mf X := by
 by_cases h1 : QB P M mf
 .by_cases h2 : shp C X
  .by_cases h3 : Jp0 P M mf X
   .exact ⟨h1, h2, h3⟩
   .rw [Jgv h1 h2 h3] at h; exact absurd h (by decide)
  .rw [Jm9 h1 h2] at h; exact absurd h (by decide)
 .rw [Jk9 h1] at h; exact absurd h (by decide)
theorem Jt0 (h : shp C X) : X.length <= 256 := h.2.2.1
theorem Z3 (h : shp C X) {t : Nat} (ht : t < X.length) : (row X t).length = C.toNat := by
 have := h.2.2.2 _ (Jda ht); have := h.1; omega
noncomputable def Jgk (P M : Int) (mf : LI) : List Mt -> Int
  | [] => 0
  | (C, X) :: ms => if mck P M mf C X = 0 then Jgk P M mf ms else mck P M mf C X
theorem w_open {ms : List Mt} {Q : Option GFv × Int -> Prop} (hl : ms.length <= 1000) (hno : ¬ QB P M mf -> Q (none, 1))
  (h : ∀ (F : GFv) (p m v g : Nat), GFk F p m v g -> FV P M mf p m v -> Jgk P M mf ms = 0 -> Q (some F, 0)) (hb : QB P M mf -> Jgk P M mf ms ≠ 0 -> Q (none, Jgk P M mf ms)) : Ja6 P M mf ms Q := by
 refine Jql (fun hn => ⟨fun h0 => ⟨h0, hno hn⟩, fun h0 => absurd (show (1 : Int) ≠ 0 by decide) h0⟩) fun F p m v g K eP eM emf => ⟨fun h0 => absurd rfl h0, fun _ => ?_⟩
 have hF : FV P M mf p m v := by rw [<- eP, <- eM, <- emf]; exact K.fv
 have hV : QB P M mf := ⟨p, m, v, hF⟩
 refine ⟨fun z => ∃ t : Nat, z = t /\ t <= ms.length /\ Jgk P M mf (ms.drop t) = Jgk P M mf ms, fun z => (ms.length - z).toNat, ⟨0, rfl, Nat.zero_le _, rfl⟩, ?_⟩; rintro _ ⟨t, rfl, ht, he⟩; refine ⟨fun hlt => ?_, fun hge => ?_⟩
 .have htl : t < ms.length := by omega
  have hd : ms.drop t = gm ms t :: ms.drop (t + 1) := by
   rw [List.drop_eq_getElem_cons htl]
   congr 1
   unfold gm; show _ = ms.getD t (0, []); rw [List.getD_eq_getElem?_getD, List.getElem?_eq_getElem htl]; rfl
  rw [hd] at he; generalize gm ms t = mt at *
  obtain ⟨C, X⟩ := mt; simp only [Jgk] at he; dsimp only; refine ⟨⟨by omega, by omega⟩, Jkb (fun hs => ⟨fun h => absurd h (by decide), fun _ => ?_⟩) (fun hs => ⟨fun _ => ⟨by decide, ?_⟩, fun h => absurd h (by decide)⟩)⟩
  .refine ⟨fun z => ∃ s : Nat, z = s /\ s <= X.length /\ ∀ k, k < s -> Elr p m (row X k), fun z => (X.length - z).toNat, ⟨0, rfl, Nat.zero_le _, fun k hk => by omega⟩, ?_⟩; rintro _ ⟨s, rfl, hs1, hs2⟩; have hX : X.length <= 256 := Jt0 hs; dsimp only; refine ⟨fun hlt2 => ⟨⟨by omega, by omega⟩, Je4 K (by show (row X s).length <= _; rw [Z3 hs (by omega)]; have := hs.2.1; omega) (fun hel => ⟨fun h => absurd h (by decide), fun _ => ⟨Ju (by omega) (by omega), ⟨s + 1, by push_cast; rfl, by omega, fun k hk => ?_⟩, by omega⟩⟩) (fun hel => ⟨fun _ => ⟨by decide, ?_⟩, fun h => absurd h (by decide)⟩)⟩, fun hge2 => ?_⟩
   .rcases Nat.lt_or_ge k s with h | h
    .exact hs2 k h
    .rw [show k = s by omega]; exact hel
   .have e : mck P M mf C X = 2 := Jgv hV hs fun hv => hel (QK ((Q8 hF).1 hv) s); rw [e, if_neg (by decide)] at he; have := hb hV (by rw [<- he]; decide)
    rwa [<- he] at this
   .have e : mck P M mf C X = 0 := Jcn hV hs ((Q8 hF).2 (Jg4 fun k hk => hs2 k (by omega))); rw [e, if_pos rfl] at he; exact ⟨Ju (by omega) (by omega), ⟨t + 1, by push_cast; rfl, by omega, he⟩, by omega⟩
  .have e : mck P M mf C X = 3 := Jm9 hV hs; rw [e, if_neg (by decide)] at he; have := hb hV (by rw [<- he]; decide)
   rwa [<- he] at this
 .rw [show t = ms.length by omega, List.drop_length] at he; exact h F p m v g K hF he.symm
theorem Jie : Jgk P M mf [(C, X)] = mck P M mf C X := by
 simp only [Jgk]; split
 .rename_i h; exact h.symm
 .rfl
theorem Jf5 {Q : Option GFv × Int -> Prop} (hb : mck P M mf C X ≠ 0 -> Q (none, mck P M mf C X))
    (h : ∀ (F : GFv) (p m v g : Nat), GFk F p m v g -> FV P M mf p m v -> shp C X -> Els p m X -> mck P M mf C X = 0 -> Q (some F, 0)) : Ja6 P M mf [(C, X)] Q := by
  refine w_open (by simp) (fun hn => ?_) (fun F p m v g K hF he => ?_) (fun hV he => ?_)
  . have := hb (by rw [Jk9 hn]; decide); rwa [Jk9 hn] at this
  . rw [Jie] at he
    obtain ⟨_, h2, h3⟩ := Jiu he
    exact h F p m v g K hF h2 ((Q8 hF).1 h3) he
  . rw [Jie] at he ⊢; exact hb he
theorem Jdp {Q : Int -> Prop} (h : Q (mck P M mf C X)) : Y8 P M mf C X Q := Jf5 (fun _ _ => h) (fun F p m v g K hF h1 h2 h3 => by show Q 0; rw [<- h3]; exact h)
def ec (p m v : Nat) (C : Int) (X : LL) : ES := elim p m v C.toNat ⟨X, List.replicate X.length [], [], 1⟩
def J2 (p m v : Nat) (C : Int) (X : LL) : LL := (ec p m v C X).X.take (ec p m v C X).pv.length
def JP (p m v : Nat) (C : Int) (X : LL) : LI := (ec p m v C X).pv
theorem Jt5 {n t : Nat} {l : LI} (h : t < n) : row (List.replicate n l) t = l := by
 unfold row; rw [List.getD_eq_getElem?_getD, List.getElem?_replicate, if_pos h]; rfl
theorem shp_S0 (hs : shp C X) {Z : LL} {wz : Nat} {d : Int} (hZ : Z.length = X.length) (hz : ∀ t, t < X.length -> (row Z t).length = wz) : Shp X.length C.toNat wz ⟨X, Z, [], d⟩ := ⟨rfl, fun t ht => Z3 hs ht, hZ, hz, Nat.zero_le _⟩
theorem Jbk (hs : shp C X) : Shp X.length C.toNat 0 ⟨X, List.replicate X.length [], [], 1⟩ := shp_S0 hs (by simp) fun t ht => by rw [Jt5 ht]; rfl
theorem ZD (hs : shp C X) : X.length <= 256 /\ C.toNat <= 256 /\ ((C.toNat : Nat) : Int) = C := ⟨hs.2.2.1, by have := hs.2.1; omega, by have := hs.1; omega⟩
theorem Jqt (hs : shp C X) : ∀ r ∈ X, r.length <= 1000000 := fun r hr => by have := hs.2.2.2 r hr; have := hs.2.1; omega
theorem Jaz (hs : shp C X) : Shp X.length C.toNat 0 (ec p m v C X) := Y0 (Jbk hs) _
theorem ZC {Q : Int × LL × LI -> Prop} (K : GFk F p m v g) (hs : shp C X) (h : Q (C, J2 p m v C X, JP p m v C X)) : Q1 F C X Q := by
 obtain ⟨h1, h2, h3⟩ := ZD hs; refine Jp5 (by omega) (Jqt hs) ⟨⟨by omega, by omega, by omega⟩, ?_⟩; show Yq F C X (List.replicate X.length ([] : LI)) _; rw [<- h3]; refine Jhp K (by omega) (by omega) (wy := 0) (by omega) (Jbk hs) ?_; rw [h3]; have := (Jaz (p := p) (m := m) (v := v) hs).pl; exact ⟨⟨by omega, by show ((ec p m v C X).pv.length : Int) <= _; omega⟩, h⟩
theorem Jhs {Q : Int × LL × LI × Int -> Prop} (hb : mck P M mf C X ≠ 0 -> Q (0, [], [], mck P M mf C X))
  (h : ∀ p m v, FV P M mf p m v -> shp C X -> Els p m X -> mck P M mf C X = 0 -> Q (C, J2 p m v C X, JP p m v C X, 0)) : YV P M mf C X Q :=
 Jf5 (fun h0 _ => hb h0) fun F p m v g K hF hs he h0 => ZC K hs (h p m v hF hs he h0)
theorem FV.uniq3 {p' m' v' : Nat} (h : FV P M mf p m v) (h' : FV P M mf p' m' v') : p = p' /\ m = m' /\ v = v' := by
 obtain ⟨e1, e2⟩ := h.uniq h'; subst e1; subst e2; refine ⟨rfl, rfl, ?_⟩; by_cases hm : m = 1
 .rw [(h.m1 hm).2, (h'.m1 hm).2]
 .have e1 := h.m2 hm; have e2 := h'.m2 hm; have hp := h.p2; have h3 : dv p v = dv p v' := by rw [<- h.vo, <- h'.vo]
  have h4 := Jau (p := p) (m := m) (x := v) (by omega) h.vlt; have h5 := Jau (p := p) (m := m) (x := v') (by omega) h'.vlt; rw [<- h4, <- h5, h3]
end
end Go.Proofs.Ytjgpkljepgcekaa
namespace Go.Proofs.Ytjgpkljepgcekaa
section
variable {p m v : Nat}
def Asc (k : Nat) (l : LI) : Prop := (∀ i, i < l.length -> 0 <= vo l i /\ vo l i < (k : Int)) /\ ∀ i j, i < j -> j < l.length -> vo l i < vo l j
theorem Jbf {l : LI} {x : Int} {i : Nat} : vo (l ++ [x]) i = if i < l.length then vo l i else if i = l.length then x else 0 := by
 unfold vo; rw [List.getD_eq_getElem?_getD, List.getD_eq_getElem?_getD, List.getElem?_append]; by_cases h : i < l.length
 .rw [if_pos h, if_pos h]
 .rw [if_neg h, if_neg h]; by_cases h2 : i = l.length
  .subst h2; simp
  .rw [if_neg h2]; have : i - l.length ≠ 0 := by omega
   cases hh : i - l.length with
   | zero => omega
   | succ n => simp
theorem Asc.snoc {k : Nat} {l : LI} (h : Asc k l) : Asc (k + 1) (l ++ [(k : Int)]) := by
 refine ⟨fun i hi => ?_, fun i j hij hj => ?_⟩
 .rw [List.length_append] at hi; rw [Jbf]; split
  .rename_i h1; have := h.1 i h1; omega
  .split
   .omega
   .simp at hi; omega
 .rw [List.length_append] at hj; have hj' : j < l.length + 1 := by simpa using hj
  rw [Jbf, Jbf, if_pos (show i < l.length by omega)]; split
  .rename_i h1; exact h.2 i j hij h1
  .rw [if_pos (show j = l.length by omega)]; exact (h.1 i (by omega)).2
theorem Asc.up {k : Nat} {l : LI} (h : Asc k l) : Asc (k + 1) l := ⟨fun i hi => by have := h.1 i hi; omega, h.2⟩
theorem Jej {S : ES} (h : S.pv = []) : ∀ k, Asc k (elim p m v k S).pv
 | 0 => by
  show Asc 0 S.pv; rw [h]; exact ⟨fun i hi => absurd hi (Nat.not_lt_zero i), fun i j _ hj => absurd hj (Nat.not_lt_zero j)⟩
 | k + 1 => by
  have ih := Jej h k; rw [QL]; unfold Yd; split
  .exact ih.snoc
  .exact ih.up
theorem Y4 (C : Int) (X : LL) : Asc C.toNat (JP p m v C X) := Jej rfl _
end
section
variable {F : GFv} {p m v g : Nat} {P M : Int} {mf : LI} {X Y : LL} {C : Int}
theorem Jp2 {l : LI} {x : Int} {k : Nat} {Q : Int × Bool -> Prop} (hl : l.length <= 1000000) (hs : Asc k l) (h1 : ∀ i, (∃ j, j < l.length /\ vo l j = x) -> Q (i, true)) (h2 : ∀ i, (¬ ∃ j, j < l.length /\ vo l j = x) -> Q (i, false)) : Jb2 l x Q := by
 refine ⟨fun a b => ∃ s t : Nat, a = s /\ b = t /\ s <= t /\ t <= l.length /\ (∀ j, j < s -> vo l j < x) /\ ∀ j, t <= j -> j < l.length -> x <= vo l j, fun a b => (b - a).toNat, ⟨0, l.length, rfl, rfl, Nat.zero_le _, Nat.le_refl _, fun j hj => by omega, fun j hj1 hj2 => by omega⟩, ?_⟩; rintro _ _ ⟨s, t, rfl, rfl, hst, htl, hlo, hhi⟩; dsimp only; refine ⟨fun hlt => ?_, fun hge => ?_⟩
 .obtain ⟨q, hq⟩ : ∃ q : Nat, ((s : Int) + t).fdiv 2 = q := ⟨(s + t) / 2, by
   rw [Int.fdiv_eq_ediv_of_nonneg _ (by decide)]; omega⟩
  have hq2 : q = (s + t) / 2 := by
   have : ((s : Int) + t).fdiv 2 = (((s + t) / 2 : Nat) : Int) := by rw [Int.fdiv_eq_ediv_of_nonneg _ (by decide)]; omega
   omega
  rw [hq]; have hql : q < l.length := by omega
  rw [JW]; refine ⟨Ju (by omega) (by omega), ⟨by omega, by omega⟩, Ju (by omega) (by omega), ⟨by omega, by omega⟩, ?_⟩; show (decide (vo l q ≠ vo l q) = true -> _) /\ (decide (vo l q ≠ vo l q) = false -> _)
  refine ⟨fun h => absurd (of_decide_eq_true h) (fun h => h rfl), fun _ => ⟨fun h => ?_, fun h => ?_⟩⟩
  .have hlt2 := of_decide_eq_true h; refine ⟨Ju (by omega) (by omega), ⟨q + 1, t, by push_cast; rfl, rfl, by omega, htl, fun j hj => ?_, hhi⟩, by omega⟩; rcases Nat.lt_or_ge j q with h3 | h3
   .have := hs.2 j q h3 hql; omega
   .rw [show j = q by omega]; exact hlt2
  .have hge2 := of_decide_eq_false h; refine ⟨⟨s, q, rfl, rfl, by omega, by omega, hlo, fun j hj1 hj2 => ?_⟩, by omega⟩; rcases Nat.eq_or_lt_of_le hj1 with h3 | h3
   .subst h3; omega
   .have := hs.2 q j h3 hj2; omega
 .have hse : s = t := by omega
  subst hse; rw [JW]; refine ⟨fun hlt2 => ⟨⟨by omega, by omega⟩, fun he => h1 _ ⟨s, by omega, he⟩, fun hne => ⟨⟨by omega, by omega⟩, ?_⟩⟩, fun hge2 => ?_⟩
  .have hno : ¬ ∃ j, j < l.length /\ vo l j = x := fun ⟨j, hj, he⟩ => by
    rcases Nat.lt_trichotomy j s with h3 | h3 | h3
    .have := hlo j h3; omega
    .subst h3; exact hne he
    .have := hs.2 s j h3 hj; have := hhi s (Nat.le_refl _) (by omega); omega
   show (decide (vo l s ≠ vo l s) = true -> _) /\ (decide (vo l s ≠ vo l s) = false -> _)
   exact ⟨fun h => absurd (of_decide_eq_true h) (fun h => h rfl), fun _ => h2 _ hno⟩
  .refine h2 _ fun ⟨j, hj, he⟩ => ?_; have := hlo j (by omega); omega
def YJ (p m : Nat) (C : Nat) (R : LL) (pv : LI) (t k : Nat) : LI := (List.range k).foldl (fun x i => x.set (vo pv i).toNat (Ng p m (vo (row R i) t))) ((List.replicate C 0).set t 1)
theorem YA (C : Nat) (R : LL) (pv : LI) (t k : Nat) : YJ p m C R pv t (k + 1) = (YJ p m C R pv t k).set (vo pv k).toNat (Ng p m (vo (row R k) t)) := by
 unfold YJ; rw [List.range_succ, List.foldl_append]; rfl
theorem Jd2 (C : Nat) (R : LL) (pv : LI) (t : Nat) : ∀ k, (YJ p m C R pv t k).length = C
 | 0 => by simp [YJ]
 | k + 1 => by rw [YA, List.length_set]; exact Jd2 C R pv t k
theorem Jh1 (hq : 1 < p ^ m) (hp : 0 < p) (C : Nat) (R : LL) (pv : LI) (t : Nat) : ∀ k, Elr p m (YJ p m C R pv t k)
 | 0 => fun x hx => by
  rcases List.mem_or_eq_of_mem_set hx with h | h
  .rw [List.eq_of_mem_replicate h]; exact Jek (q := 0) (by omega)
  .rw [h]; exact Jek (q := 1) (by omega)
 | k + 1 => fun x hx => by
  rw [YA] at hx; rcases List.mem_or_eq_of_mem_set hx with h | h
  .exact Jh1 hq hp C R pv t k x h
  .rw [h]; exact Jek (QJ hp _)
theorem Jj8 {R : LL} {pv : LI} {t : Nat} {Q : LI -> Prop} (K : GFk F p m v g) (hC : 0 <= C /\ C <= 256) (ht : t < C.toNat) (hR : pv.length <= R.length) (hl : pv.length <= 1000000) (hr : ∀ i, i < R.length -> t < (row R i).length) (hp : Asc C.toNat pv)
  (h : Q (YJ p m C.toNat R pv t pv.length)) : Zu F C R pv t Q := by
 refine ⟨⟨by omega, by omega, by omega⟩, ⟨by omega, by omega⟩, fun x z => ∃ k : Nat, z = k /\ k <= pv.length /\ x = YJ p m C.toNat R pv t k, fun _ z => (pv.length - z).toNat, ⟨0, rfl, Nat.zero_le _, rfl⟩, ?_⟩; rintro _ _ ⟨k, rfl, hk, rfl⟩; dsimp only; rw [JW]; refine ⟨fun hlt => ⟨⟨by omega, by omega⟩, ⟨by omega, by omega⟩, ⟨by omega, by show (t : Int) < ((row R k).length : Nat); have := hr k (by omega); omega⟩, Jmi K ?_⟩, fun hge => by rw [show k = pv.length by omega]; exact h⟩; have hv : 0 <= gi pv (k : Int) /\ gi pv (k : Int) < ((C.toNat : Nat) : Int) := hp.1 k (by omega); refine ⟨⟨hv.1, by have := hv.2; omega⟩, Ju (by omega) (by omega), ⟨k + 1, by push_cast; rfl, by omega, ?_⟩, by omega⟩; rw [YA]; rfl
def inP (pv : LI) (c : Nat) : Bool := (List.range pv.length).any fun i => vo pv i == (c : Int)
theorem Jdf {pv : LI} {c : Nat} : inP pv c = true ↔ ∃ j, j < pv.length /\ vo pv j = (c : Int) := by
 unfold inP; rw [List.any_eq_true]; exact ⟨fun ⟨i, hi, h⟩ => ⟨i, List.mem_range.1 hi, by simpa using h⟩, fun ⟨i, hi, h⟩ => ⟨i, List.mem_range.2 hi, by simpa using h⟩⟩
def bas (p m : Nat) (C : Nat) (R : LL) (pv : LI) (k : Nat) : LL := (List.range k).foldl (fun B c => if inP pv c then B else B ++ [YJ p m C R pv c pv.length]) []
theorem Y5 (C : Nat) (R : LL) (pv : LI) (k : Nat) : bas p m C R pv (k + 1) = if inP pv k then bas p m C R pv k else bas p m C R pv k ++ [YJ p m C R pv k pv.length] := by
 unfold bas; rw [List.range_succ, List.foldl_append]; rfl
theorem Jhb (C : Nat) (R : LL) (pv : LI) : ∀ k, (bas p m C R pv k).length <= k
 | 0 => Nat.le_refl _
 | k + 1 => by
  rw [Y5]; have := Jhb C R pv k; split
  .omega
  .rw [List.length_append]; simp; omega
theorem Jdh (C : Nat) (R : LL) (pv : LI) : ∀ k, ∀ r ∈ bas p m C R pv k, ∃ c, c < k /\ inP pv c = false /\ r = YJ p m C R pv c pv.length
 | 0, r, h => by cases h
 | k + 1, r, h => by
  rw [Y5] at h; split at h
  .obtain ⟨c, h1, h2⟩ := Jdh C R pv k r h; exact ⟨c, by omega, h2⟩
  .rename_i hn
   rcases List.mem_append.1 h with h | h
   .obtain ⟨c, h1, h2⟩ := Jdh C R pv k r h; exact ⟨c, by omega, h2⟩
   .exact ⟨k, by omega, by simpa using hn, by simpa using h⟩
def Yc (p m v : Nat) (C : Int) (X : LL) : LL := bas p m C.toNat (J2 p m v C X) (JP p m v C X) C.toNat
theorem Y6 (hs : shp C X) : shp C (Yc p m v C X) := by
 obtain ⟨h1, h2, h3⟩ := ZD hs; refine ⟨hs.1, hs.2.1, by have := Jhb (p := p) (m := m) C.toNat (J2 p m v C X) (JP p m v C X) C.toNat; unfold Yc; omega, fun r hr => ?_⟩; obtain ⟨c, _, _, rfl⟩ := Jdh _ _ _ _ r hr; rw [Jd2]; exact h3
theorem ZS (hF : FV P M mf p m v) : Els p m (Yc p m v C X) := fun r hr => by
 obtain ⟨c, _, _, rfl⟩ := Jdh _ _ _ _ r hr; exact Jh1 (by have := hF.ring.q2; omega) (by have := hF.p2; omega) _ _ _ _ _
theorem Yp (hs : shp C X) : (J2 p m v C X).length = (JP p m v C X).length := by
 have h0 := Jaz (p := p) (m := m) (v := v) hs; unfold J2 JP; rw [List.length_take]; have h1 := h0.pl; have h2 := h0.xl; omega
theorem ZE {Z : LL} {n t : Nat} (h : t < n) : row (Z.take n) t = row Z t := by
 unfold row; rw [List.getD_eq_getElem?_getD, List.getD_eq_getElem?_getD, List.getElem?_take, if_pos h]
theorem Jjl (hs : shp C X) {t : Nat} (ht : t < (J2 p m v C X).length) : (row (J2 p m v C X) t).length = C.toNat := by
 have h1 := Jaz (p := p) (m := m) (v := v) hs; rw [Yp hs] at ht; unfold J2; rw [ZE (n := (ec p m v C X).pv.length) ht]; exact h1.xr t (Nat.lt_of_lt_of_le ht h1.pl)
theorem Jbz (hs : shp C X) : shp C (J2 p m v C X) := by
 obtain ⟨h1, h2, h3⟩ := ZD hs; have h4 := Jaz (p := p) (m := m) (v := v) hs; refine ⟨hs.1, hs.2.1, by rw [Yp hs]; have := h4.pl; show (ec p m v C X).pv.length <= 256; omega, fun r hr => ?_⟩; obtain ⟨t, ht, rfl⟩ := Jde hr; rw [Jjl hs ht]; exact h3
theorem Jeq (hs : shp C X) : (JP p m v C X).length <= X.length := (Jaz (p := p) (m := m) (v := v) hs).pl
theorem Jp8 {Q : Int × LL × Int -> Prop} (hb : mck P M mf C X ≠ 0 -> Q (0, [], mck P M mf C X))
  (h : ∀ p m v, FV P M mf p m v -> shp C X -> Els p m X -> mck P M mf C X = 0 -> Q (C, J2 p m v C (Yc p m v C X), 0)) : ZY P M mf C X Q := by
 refine Jf5 (fun h0 _ => hb h0) fun F p m v g K hF hs he h0 => ZC K hs ?_; obtain ⟨h1, h2, h3⟩ := ZD hs; have hpl := Jeq (p := p) (m := m) (v := v) hs; have hcl := Yp (p := p) (m := m) (v := v) hs; have hasc := Y4 (p := p) (m := m) (v := v) C X; have hrow := fun i (hi : i < (J2 p m v C X).length) => Jjl (p := p) (m := m) (v := v) hs hi; have hfin := ZC (Q := fun q => Q (q.1, q.2.1, 0)) K (Y6 (p := p) (m := m) (v := v) hs) (h p m v hF hs he h0); unfold Yc at hfin; generalize J2 p m v C X = R at *
 generalize JP p m v C X = pv at *
 refine ⟨fun x z => ∃ k : Nat, z = k /\ k <= C.toNat /\ x = bas p m C.toNat R pv k, fun _ z => (C - z).toNat, ⟨0, rfl, Nat.zero_le _, rfl⟩, ?_⟩; rintro _ _ ⟨k, rfl, hk, rfl⟩; have hbl := Jhb (p := p) (m := m) C.toNat R pv k; dsimp only; refine ⟨fun hlt => ⟨fun x _ _ => x = bas p m C.toNat R pv (k + 1), Jp2 (by omega) hasc (fun i hin => ⟨fun h => absurd h (by simp), fun _ => ?_⟩) (fun i hin => ⟨fun _ => ⟨_, Jj8 K ⟨hs.1, hs.2.1⟩ (by omega) (by omega) (by omega) (fun i hi => by rw [hrow i hi]; omega) hasc rfl, by omega, ?_⟩, fun h => absurd h (by simp)⟩), ?_⟩, fun hge => ?_⟩
 .rw [Y5, if_pos (Jdf.2 hin)]
 .rw [Y5, if_neg (fun hh => hin (Jdf.1 hh))]
 .rintro _ _ _ rfl; exact ⟨Ju (by omega) (by omega), ⟨k + 1, by push_cast; rfl, by omega, rfl⟩, by omega⟩
 .rw [show k = C.toNat by omega]; exact hfin
end
end Go.Proofs.Ytjgpkljepgcekaa
namespace Go.Proofs.Ytjgpkljepgcekaa
section
variable {F : GFv} {p m v g : Nat} {P M : Int} {mf : LI} {X Y : LL} {C : Int}
open Classical in
noncomputable def sqe (P M : Int) (mf : LI) (C : Int) (X : LL) : Int := if mck P M mf C X ≠ 0 then mck P M mf C X else if (X.length : Int) ≠ C then 3 else 0
def cmb (p m v : Nat) (x : LI) (C : Nat) (X : LL) (k : Nat) : LI := (List.range k).foldl (fun s i => adx p m v s (vo x i) (row X i)) (List.replicate C 0)
open Classical in
noncomputable def vce (p m : Nat) (x : LI) (n : Nat) : Int := if x.length ≠ n then 3 else if ¬ Elr p m x then 2 else 0
def rgt (b : LI) : LL := b.map fun y => [y]
def eb (p m v : Nat) (C : Int) (X : LL) (b : LI) : ES := elim p m v C.toNat ⟨X, rgt b, [], 1⟩
end
def A3 : LL := [[1, 1, 0], [0, 1, 1], [1, 0, 1]]
def A2 : LL := [[1, 2], [3, 4]]
instance (p m : Nat) (x : Int) : Decidable (El p m x) := inferInstanceAs (Decidable (_ /\ _))
theorem vce_ok {p m : Nat} {x : LI} {n : Nat} (h : x.length = n) (he : Elr p m x) : vce p m x n = 0 := by
 unfold vce; rw [if_neg (fun hh => hh h), if_neg (fun hh => hh he)]
end Go.Proofs.Ytjgpkljepgcekaa
namespace Go.Proofs.Ytjgpkljepgcekaa
end Go.Proofs.Ytjgpkljepgcekaa
namespace Go.Proofs.Ytjgpkljepgcekaa
section
variable {F : GFv} {p m v g : Nat} {P M : Int} {mf : LI} {X : LL} {C : Int} {set y : LI}
end
end Go.Proofs.Ytjgpkljepgcekaa
namespace Go.Proofs.Ytjgpkljepgcekaa
section
variable {p m v : Nat} {P M : Int} {mf : LI} {X Y : LL} {C : Int} {w : Nat}
def en (p m : Nat) (l : LI) : Nat -> Nat := fun c => inE (p ^ m) (vo l c)
structure Lin (p m v w : Nat) (f : (Nat -> Nat) -> Nat) : Prop where
  lt : ∀ a, f a < p ^ m
  cg : ∀ {a b : Nat -> Nat}, (∀ c, c < w -> a c = b c) -> f a = f b
  ad : ∀ {a b : Nat -> Nat} {x : Nat}, (∀ c, a c < p ^ m) -> (∀ c, b c < p ^ m) -> x < p ^ m -> f (fun c => JI p m (a c) (Jr p m (dv p v) x (b c))) = JI p m (f a) (Jr p m (dv p v) x (f b))
  ml : ∀ {a : Nat -> Nat} {x : Nat}, (∀ c, a c < p ^ m) -> x < p ^ m -> f (fun c => Jr p m (dv p v) x (a c)) = Jr p m (dv p v) x (f a)
def Ann (p m : Nat) (f : (Nat -> Nat) -> Nat) (X : LL) : Prop := ∀ t, t < X.length -> f (en p m (row X t)) = 0
theorem JV (hF : FV P M mf p m v) (l : LI) (c : Nat) : en p m l c < p ^ m := JS (by have := hF.ring.q2; omega) _
theorem Jlm (hF : FV P M mf p m v) {a o : LI} {x : Int} {c : Nat} (hc : c < a.length) : en p m (adx p m v a x o) c = JI p m (en p m a c) (Jr p m (dv p v) (inE (p ^ m) x) (en p m o c)) := by
 have R := hF.ring; have hq : 0 < p ^ m := by have := R.q2; omega
 have e0 : inE (p ^ m) 0 = 0 := J3 (x := 0) hq; have hz : ∀ y, y < p ^ m -> Jr p m (dv p v) 0 y = 0 := fun y hy => by rw [R.Mc hq hy]; exact R.M0 hy
 unfold en adx; split
 .rename_i h; subst h
  rw [e0, hz _ (JS hq _), R.Az (JS hq _)]
 .rw [Jcf hc]; split
  .rename_i h; rw [h, e0, R.M0 (JS hq _), R.Az (JS hq _)]
  .unfold Ad Ml; rw [J3 (R.Al _ _), J3 (R.Ml _ _)]
theorem en_sc (hF : FV P M mf p m v) {l : LI} {x : Int} {c : Nat} (hc : c < l.length) : en p m (sc p m v x l) c = Jr p m (dv p v) (inE (p ^ m) x) (en p m l c) := by
 unfold en; rw [Jfb hc]; unfold Ml; rw [J3 (hF.ring.Ml _ _)]
theorem Lin.adx {f : (Nat -> Nat) -> Nat} (L : Lin p m v w f) (hF : FV P M mf p m v) {a o : LI} {x : Int} (ha : a.length = w) : f (en p m (adx p m v a x o)) = JI p m (f (en p m a)) (Jr p m (dv p v) (inE (p ^ m) x) (f (en p m o))) := by
 rw [<- L.ad (JV hF a) (JV hF o) (JS (by have := hF.ring.q2; omega) x)]; exact L.cg fun c hc => Jlm hF (by omega)
theorem Lin.sc {f : (Nat -> Nat) -> Nat} (L : Lin p m v w f) (hF : FV P M mf p m v) {l : LI} {x : Int} (hl : l.length = w) : f (en p m (sc p m v x l)) = Jr p m (dv p v) (inE (p ^ m) x) (f (en p m l)) := by
 rw [<- L.ml (JV hF l) (JS (by have := hF.ring.q2; omega) x)]; exact L.cg fun c hc => en_sc hF (by omega)
theorem Zh {r cur t : Nat} (hr : r < X.length) (hc : cur < X.length) : row (swq X r cur) t = if t = cur then row X r else if t = r then row X cur else row X t := by
  unfold swq
  split
  . rename_i h; subst h
    split
    . rename_i h; rw [h]
    . rfl
  . exact Jgd hr hc
theorem Jgf {cur t : Nat} {e : Int} (hc : cur < X.length) : row (scq p m v X cur e) t = if t = cur then sc p m v (Iv p m v e) (row X cur) else row X t := by
 unfold scq; rw [QI]; by_cases h : cur = t
 .rw [if_pos ⟨h, hc⟩, if_pos h.symm]
 .rw [if_neg (fun hh => h hh.1), if_neg (fun hh => h hh.symm)]
theorem Ju7 {f : (Nat -> Nat) -> Nat} {r cur : Nat} (hr : r < X.length) (hc : cur < X.length) (h : Ann p m f (swq X r cur)) : Ann p m f X := fun t ht => by
 rw [Ann, JT] at h; by_cases h1 : t = r
 .have := h cur hc; rw [Zh hr hc, if_pos rfl] at this; rw [h1]; exact this
 .by_cases h2 : t = cur
  .have := h r hr; rw [Zh hr hc] at this; rw [if_neg (fun e => h1 (h2.trans e.symm)), if_pos rfl] at this; rw [h2]; exact this
  .have := h t ht; rw [Zh hr hc, if_neg h2, if_neg h1] at this; exact this
theorem Ju8 {f : (Nat -> Nat) -> Nat} (L : Lin p m v w f) (hF : FV P M mf p m v) {cur : Nat} {e : Int} {z : Nat} (hz : z < p ^ m) (he : Jr p m (dv p v) z (inE (p ^ m) (Iv p m v e)) = 1) (hc : cur < X.length) (hw : (row X cur).length = w) (h : Ann p m f (scq p m v X cur e)) : Ann p m f X := fun t ht => by
 have R := hF.ring; have q1 : 1 < p ^ m := R.q2; rw [Ann, Qv] at h; have h3 := h t ht; rw [Jgf hc] at h3; split at h3
 .rename_i h1; subst h1
  rw [L.sc hF hw] at h3; have hi := JS (q := p ^ m) (by omega) (Iv p m v e); have h4 := R.Ma hz hi (L.lt (en p m (row X t))); rw [he, h3, R.M0 hz, R.Mc q1 (L.lt _), R.M1 (L.lt _)] at h4; exact h4
 .exact h3
theorem Ju9 {f : (Nat -> Nat) -> Nat} (L : Lin p m v w f) (hF : FV P M mf p m v) {cur : Nat} {g : Nat -> Int} (hc : cur < X.length) (hw : ∀ t, t < X.length -> (row X t).length = w) (h : Ann p m f (clr p m v g cur X)) : Ann p m f X := fun t ht => by
 have R := hF.ring; have hq : 0 < p ^ m := by have := R.q2; omega
 rw [Ann, Yx] at h; have hcur := h cur hc; rw [YL hc, if_pos rfl] at hcur; have h3 := h t ht; rw [YL ht] at h3; split at h3
 .exact h3
 .rw [L.adx hF (hw t ht), hcur, R.M0 (JS hq _), R.Az (L.lt _)] at h3; exact h3
theorem Jrl {g : Nat} (K : Gn (p ^ m) (Jr p m (dv p v)) g) (hF : FV P M mf p m v) {x : Int} (h0 : x ≠ 0) (hx : El p m x) : inE (p ^ m) x < p ^ m /\ Jr p m (dv p v) (inE (p ^ m) x) (inE (p ^ m) (Iv p m v x)) = 1 := by
 have R := hF.ring; have q1 : 1 < p ^ m := R.q2; have hx1 := JS (q := p ^ m) (by omega) x; have hne : 0 < inE (p ^ m) x := by
  have := Jay hx; omega
 have h1 := K.xone R hne hx1; refine ⟨hx1, ?_⟩; have hz : pw (Jr p m (dv p v)) (inE (p ^ m) x) (p ^ m - 1 - 1) < p ^ m := by
  cases p ^ m - 1 - 1 with
  | zero => exact q1
  | succ n => exact R.Ml _ _
 have h2 : Jr p m (dv p v) (pw (Jr p m (dv p v)) (inE (p ^ m) x) (p ^ m - 1 - 1)) (inE (p ^ m) x) = 1 := by
  rw [show p ^ m - 1 = (p ^ m - 1 - 1) + 1 by omega] at h1; exact h1
 rw [Jtl R hx1 hz h2, J3 hz, R.Mc hx1 hz]; exact h2
theorem Jsk {g : Nat} (K : Gn (p ^ m) (Jr p m (dv p v)) g) (hF : FV P M mf p m v) {f : (Nat -> Nat) -> Nat} (L : Lin p m v w f) {S : ES} {c : Nat} (he : Els p m S.X) (hw : ∀ t, t < S.X.length -> (row S.X t).length = w) (h : Ann p m f (Yd p m v S c).X) : Ann p m f S.X := by
  unfold Yd at h
  split at h
  . rename_i h1
    obtain ⟨hc, hr⟩ := h1
    rw [Jbu] at h
    have hw1 : ∀ t, t < (swq S.X (nz S.X c S.pv.length) S.pv.length).length -> (row (swq S.X (nz S.X c S.pv.length) S.pv.length) t).length = w := fun t ht => by
      rw [JT] at ht; exact QY hr hc hw ht
    have hrow : row (swq S.X (nz S.X c S.pv.length) S.pv.length) S.pv.length = row S.X (nz S.X c S.pv.length) := by rw [Zh hr hc, if_pos rfl]
    have hne := (Z6 S.X c S.pv.length (by omega)).2.2 hr
    have hcl : c < (row S.X (nz S.X c S.pv.length)).length := by
      rcases Nat.lt_or_ge c (row S.X (nz S.X c S.pv.length)).length with h | h
      . exact h
      . exact absurd (Jar h) hne
    have hel : El p m (vo (row S.X (nz S.X c S.pv.length)) c) := QK he _ _ (Jcd hcl)
    obtain ⟨h4, h5⟩ := Jrl K hF hne hel
    have h2 := Ju9 L hF (by rw [Qv, JT]; exact hc) (fun t ht => by rw [Qv] at ht; exact QZ (by rw [JT]; exact hc) hw1 ht) h
    rw [hrow] at h2
    have h3 := Ju8 L hF h4 h5 (by rw [JT]; exact hc) (hw1 _ (by rw [JT]; exact hc)) h2
    exact Ju7 hr hc h3
  . exact h
theorem Jjo {g : Nat} (K : Gn (p ^ m) (Jr p m (dv p v)) g) (hF : FV P M mf p m v) {f : (Nat -> Nat) -> Nat} (L : Lin p m v w f) {n wy : Nat} {S : ES} (hS : Shp n w wy S) (he : Els p m S.X) : ∀ k, Ann p m f (elim p m v k S).X -> Ann p m f S.X
 | 0, h => h
 | k + 1, h => by
  rw [QL] at h; have hk := Y0 (p := p) (m := m) (v := v) hS k; refine Jjo K hF L hS he k (Jsk K hF L (Jbv (by have := hF.p2; omega) he k) (fun t ht => hk.xr t (by have := hk.xl; omega)) h)
end
end Go.Proofs.Ytjgpkljepgcekaa
namespace Go.Proofs.Ytjgpkljepgcekaa
section
variable {p m v g : Nat} {P M : Int} {mf : LI} {X Y : LL} {C : Int} {w : Nat}
structure Red (k : Nat) (S : ES) : Prop where
  one : ∀ i, i < S.pv.length -> ∀ t, t < S.X.length -> vo (row S.X t) (vo S.pv i).toNat = if t = i then 1 else 0
  lo : ∀ t, S.pv.length <= t -> t < S.X.length -> ∀ c, c < k -> vo (row S.X t) c = 0
  lf : ∀ i, i < S.pv.length -> ∀ c : Nat, (c : Int) < vo S.pv i -> vo (row S.X i) c = 0
theorem Jtr {a o : LI} {x : Int} {c : Nat} (h : vo o c = 0) : vo (adx p m v a x o) c = vo a c := by
 unfold adx; split
 .rfl
 .rcases Nat.lt_or_ge c a.length with hc | hc
  .rw [Jcf hc, if_pos h]
  .rw [Jar hc, Jar (by rw [Jdj]; exact hc)]
theorem Jp9 (hF : FV P M mf p m v) {l : LI} {x : Int} {c : Nat} (h : vo l c = 0) : vo (sc p m v x l) c = 0 := by
 have hq : 0 < p ^ m := by have := hF.ring.q2; omega
 rcases Nat.lt_or_ge c l.length with hc | hc
 .rw [Jfb hc, h]; unfold Ml; rw [show inE (p ^ m) 0 = 0 from J3 (x := 0) hq, hF.ring.M0 (JS hq _)]; rfl
 .exact Jar (by unfold sc; rw [List.length_map]; exact hc)
theorem Jq6 (K : Gn (p ^ m) (Jr p m (dv p v)) g) (hF : FV P M mf p m v) {S : ES} {k : Nat} (hA : Asc k S.pv) (hl : S.pv.length <= S.X.length) (he : Els p m S.X) (h : Red k S) : Red (k + 1) (Yd p m v S k) := by
 have R := hF.ring; have q1 : 1 < p ^ m := R.q2; have hp : 0 < p := by have := hF.p2; omega
 unfold Yd; split
 case isFalse h1 =>
  refine ⟨h.one, fun t ht1 ht2 c hc => ?_, h.lf⟩; rcases Nat.lt_or_ge c k with hck | hck
  .exact h.lo t ht1 ht2 c hck
  .have e : c = k := by omega
   subst e; have hs := Z6 S.X c S.pv.length hl; exact hs.2.1 t ht1 (by
    rcases Nat.lt_or_ge t (nz S.X c S.pv.length) with h | h
    .exact h
    .exact absurd ⟨by omega, by omega⟩ h1)
 case isTrue h1 =>
  obtain ⟨hc, hr⟩ := h1; have hrs := Jrh S.X k S.pv.length; have hne := (Z6 S.X k S.pv.length hl).2.2 hr; have hkl : k < (row S.X (nz S.X k S.pv.length)).length := by
   rcases Nat.lt_or_ge k (row S.X (nz S.X k S.pv.length)).length with h | h
   .exact h
   .exact absurd (Jar h) hne
  have hel : El p m (vo (row S.X (nz S.X k S.pv.length)) k) := QK he _ _ (Jcd hkl); obtain ⟨h4, h5⟩ := Jrl K hF hne hel; have hE3 : Els p m (es1 p m v k (nz S.X k S.pv.length) S.pv.length S).X := Jnf hp he hr hc; have hn : (es1 p m v k (nz S.X k S.pv.length) S.pv.length S).X.length = S.X.length := by rw [Jbu, Yx, Qv, JT]
  generalize hrr : nz S.X k S.pv.length = r at *
  have hx2 : ∀ t, row (scq p m v (swq S.X r S.pv.length) S.pv.length (vo (row (swq S.X r S.pv.length) S.pv.length) k)) t = if t = S.pv.length then sc p m v (Iv p m v (vo (row S.X r) k)) (row S.X r) else if t = r then row S.X S.pv.length else row S.X t := fun t => by
   rw [Jgf (by rw [JT]; exact hc), Zh hr hc, Zh hr hc, if_pos rfl]; split <;> rfl
  have hx3 : ∀ t, t < S.X.length -> row (es1 p m v k r S.pv.length S).X t = if t = S.pv.length then sc p m v (Iv p m v (vo (row S.X r) k)) (row S.X r) else adx p m v (if t = r then row S.X S.pv.length else row S.X t) (Ng p m (vo (if t = r then row S.X S.pv.length else row S.X t) k)) (sc p m v (Iv p m v (vo (row S.X r) k)) (row S.X r)) := fun t ht => by
   rw [Jbu, YL (by rw [Qv, JT]; exact ht), hx2, hx2, if_pos rfl]; split
   .rfl
   .rfl
  -- the columns before stay
  have hold : ∀ t, t < S.X.length -> ∀ c, c < k -> vo (row (es1 p m v k r S.pv.length S).X t) c = vo (row S.X t) c := fun t ht c hck => by
   have z1 : vo (row S.X r) c = 0 := h.lo r hrs hr c hck; have z2 : vo (row S.X S.pv.length) c = 0 := h.lo _ (Nat.le_refl _) hc c hck; rw [hx3 t ht]; split
   .rename_i e; rw [Jp9 hF z1, e, z2]
   .rw [Jtr (Jp9 hF z1)]; split
    .rename_i e; rw [z2, e, z1]
    .rfl
  have hone : vo (sc p m v (Iv p m v (vo (row S.X r) k)) (row S.X r)) k = 1 := by
   rw [Jfb hkl]; unfold Ml; rw [R.Mc (JS (by omega) _) h4, h5]; rfl
  have hnew : ∀ t, t < S.X.length -> vo (row (es1 p m v k r S.pv.length S).X t) k = if t = S.pv.length then 1 else 0 := fun t ht => by
   have hEt := QK hE3 t; have hx := hx3 t ht; by_cases e : t = S.pv.length
   .rw [if_pos e] at hx ⊢; rw [hx]; exact hone
   .rw [if_neg e] at hx ⊢; rcases Nat.lt_or_ge k (if t = r then row S.X S.pv.length else row S.X t).length with hkt | hkt
    .have h6 := Jlm hF (x := Ng p m (vo (if t = r then row S.X S.pv.length else row S.X t) k)) (o := sc p m v (Iv p m v (vo (row S.X r) k)) (row S.X r)) hkt; rw [<- hx] at h6; have h7 : en p m (sc p m v (Iv p m v (vo (row S.X r) k)) (row S.X r)) k = 1 := by unfold en; rw [hone]; exact J3 (x := 1) q1
     rw [h7] at h6; unfold Ng at h6; have h8 : Qz p m (inE (p ^ m) (vo (if t = r then row S.X S.pv.length else row S.X t) k)) < p ^ m := QJ hp _; rw [J3 h8, R.M1 h8] at h6; have h9 : en p m (row (es1 p m v k r S.pv.length S).X t) k = 0 := by rw [h6]; exact QR hp (JS (by omega) _)
     have h10 : El p m (vo (row (es1 p m v k r S.pv.length S).X t) k) := hEt _ (Jcd (by rw [hx, Jdi]; exact hkt)); rw [<- Jay h10]; show ((en p m (row (es1 p m v k r S.pv.length S).X t) k : Nat) : Int) = 0; rw [h9]; rfl
    .rw [hx]; exact Jar (by rw [Jdi]; exact hkt)
  have hpv : (es1 p m v k r S.pv.length S).pv = S.pv ++ [(k : Int)] := rfl; refine ⟨fun i hi t ht => ?_, fun t ht1 ht2 c hck => ?_, fun i hi c hci => ?_⟩
  .rw [hn] at ht; rw [hpv, List.length_append, List.length_singleton] at hi; rw [hpv, Jbf]; by_cases e : i < S.pv.length
   .rw [if_pos e, hold t ht _ (by have := hA.1 i e; omega)]; exact h.one i e t ht
   .have e2 : i = S.pv.length := by omega
    rw [if_neg e, if_pos e2, e2]; exact hnew t ht
  .rw [hn] at ht2; rw [hpv, List.length_append, List.length_singleton] at ht1; rcases Nat.lt_or_ge c k with h6 | h6
   .rw [hold t ht2 c h6]; exact h.lo t (by omega) ht2 c h6
   .rw [show c = k by omega, hnew t ht2, if_neg (by omega)]
  .rw [hpv, List.length_append, List.length_singleton] at hi; rw [hpv, Jbf] at hci; by_cases e : i < S.pv.length
   .rw [if_pos e] at hci; rw [hold i (by omega) c (by have := hA.1 i e; omega)]; exact h.lf i e c hci
   .have e2 : i = S.pv.length := by omega
    rw [if_neg e, if_pos e2] at hci; rw [hold i (by omega) c (by omega), e2]; exact h.lo _ (Nat.le_refl _) hc c (by omega)
theorem Jh6 (K : Gn (p ^ m) (Jr p m (dv p v)) g) (hF : FV P M mf p m v) {n wy : Nat} {S : ES} (hS : Shp n w wy S) (he : Els p m S.X) (h0 : S.pv = []) : ∀ k, Red k (elim p m v k S)
 | 0 => ⟨fun i hi => by
   have : (elim p m v 0 S).pv = [] := h0; rw [this] at hi; exact absurd hi (Nat.not_lt_zero _), fun t _ _ c hc => absurd hc (Nat.not_lt_zero _), fun i hi => by
   have : (elim p m v 0 S).pv = [] := h0; rw [this] at hi; exact absurd hi (Nat.not_lt_zero _)⟩
 | k + 1 => by
  rw [QL]; have hk := Y0 (p := p) (m := m) (v := v) hS k; exact Jq6 K hF (Jej h0 k) (by have := hk.pl; have := hk.xl; omega) (Jbv (by have := hF.p2; omega) he k) (Jh6 K hF hS he h0 k)
end
end Go.Proofs.Ytjgpkljepgcekaa
namespace Go.Proofs.Ytjgpkljepgcekaa
section
variable {p m v g : Nat} {P M : Int} {mf : LI} {X Y : LL} {C : Int} {w : Nat}
def fs (p m : Nat) (f : Nat -> Nat) : Nat -> Nat
  | 0 => 0
  | n + 1 => JI p m (fs p m f n) (f n)
theorem YZ (hF : FV P M mf p m v) (f : Nat -> Nat) : ∀ n, fs p m f n < p ^ m
 | 0 => by have := hF.ring.q2; show 0 < _; omega
 | n + 1 => hF.ring.Al _ _
theorem Jfs {f h : Nat -> Nat} : ∀ n, (∀ i, i < n -> f i = h i) -> fs p m f n = fs p m h n
 | 0, _ => rfl
 | n + 1, e => by show JI p m _ _ = JI p m _ _; rw [Jfs n fun i hi => e i (by omega), e n (by omega)]
theorem mix (hF : FV P M mf p m v) {a b c d : Nat} (ha : a < p ^ m) (hb : b < p ^ m) (hc : c < p ^ m) (hd : d < p ^ m) : JI p m (JI p m a b) (JI p m c d) = JI p m (JI p m a c) (JI p m b d) := by
 have R := hF.ring; rw [R.Aa ha hb (R.Al _ _), <- R.Aa hb hc hd, R.Ac b c, R.Aa hc hb hd, <- R.Aa ha hc (R.Al _ _)]
theorem Jg2 (hF : FV P M mf p m v) {f h : Nat -> Nat} {x : Nat} (hf : ∀ i, f i < p ^ m) (hh : ∀ i, h i < p ^ m) (hx : x < p ^ m) : ∀ n, fs p m (fun i => JI p m (f i) (Jr p m (dv p v) x (h i))) n = JI p m (fs p m f n) (Jr p m (dv p v) x (fs p m h n))
 | 0 => by
  have R := hF.ring; show 0 = JI p m 0 (Jr p m (dv p v) x 0); rw [R.M0 hx, R.Az (by have := R.q2; omega)]
 | n + 1 => by
  have R := hF.ring; show JI p m (fs p m _ n) _ = JI p m (JI p m _ _) (Jr p m (dv p v) x (JI p m _ _)); rw [Jg2 hF hf hh hx n, R.Md hx (YZ hF h n) (hh n), mix hF (YZ hF f n) (R.Ml _ _) (hf n) (R.Ml _ _)]
theorem Jrw (hF : FV P M mf p m v) {f : Nat -> Nat} {x : Nat} (hf : ∀ i, f i < p ^ m) (hx : x < p ^ m) : ∀ n, fs p m (fun i => Jr p m (dv p v) x (f i)) n = Jr p m (dv p v) x (fs p m f n)
 | 0 => by show 0 = Jr p m (dv p v) x 0; rw [hF.ring.M0 hx]
 | n + 1 => by
  show JI p m (fs p m _ n) _ = Jr p m (dv p v) x (JI p m _ _); rw [Jrw hF hf hx n, hF.ring.Md hx (YZ hF f n) (hf n)]
theorem Jbt (hF : FV P M mf p m v) {f : Nat -> Nat} : ∀ n, (∀ i, i < n -> f i = 0) -> fs p m f n = 0
 | 0, _ => rfl
 | n + 1, h => by
  show JI p m (fs p m f n) (f n) = 0; rw [Jbt hF n fun i hi => h i (by omega), h n (by omega), hF.ring.Az (by have := hF.ring.q2; omega)]
theorem Jco (hF : FV P M mf p m v) {f : Nat -> Nat} {j : Nat} (hj : f j < p ^ m) : ∀ n, j < n -> (∀ i, i < n -> i ≠ j -> f i = 0) -> fs p m f n = f j
 | 0, h, _ => absurd h (Nat.not_lt_zero _)
 | n + 1, h, e => by
  have R := hF.ring; show JI p m (fs p m f n) (f n) = f j; by_cases en : n = j
  .subst en; rw [Jbt hF n fun i hi => e i (by omega) (by omega), R.Ac, R.Az hj]
  .rw [Jco hF hj n (by omega) fun i hi => e i (by omega), e n (by omega) en, R.Az hj]
def cof (p m v c r : Nat) (pv : Nat -> Nat) (nR : Nat -> Nat) (a : Nat -> Nat) : Nat := JI p m (a c) (fs p m (fun i => Jr p m (dv p v) (nR i) (a (pv i))) r)
theorem Ju1 (hF : FV P M mf p m v) {c r : Nat} {pv nR : Nat -> Nat} (hc : c < w) (hpv : ∀ i, i < r -> pv i < w) (hn : ∀ i, nR i < p ^ m) : Lin p m v w (cof p m v c r pv nR) where
 lt a := hF.ring.Al _ _
 cg h := by
  unfold cof; rw [h c hc, Jfs r fun i hi => by rw [h _ (hpv i hi)]]
 ad {a b x} ha hb hx := by
  have R := hF.ring; unfold cof; have e : (fun i => Jr p m (dv p v) (nR i) (JI p m (a (pv i)) (Jr p m (dv p v) x (b (pv i))))) = fun i => JI p m (Jr p m (dv p v) (nR i) (a (pv i))) (Jr p m (dv p v) x (Jr p m (dv p v) (nR i) (b (pv i)))) := funext fun i => by
   rw [R.Md (hn i) (ha _) (R.Ml _ _), <- R.Ma (hn i) hx (hb _), R.Mc (hn i) hx, R.Ma hx (hn i) (hb _)]
  rw [e, Jg2 hF (fun i => R.Ml _ _) (fun i => R.Ml _ _) hx, mix hF (ha c) (R.Ml _ _) (YZ hF _ _) (R.Ml _ _), <- R.Md hx (hb c) (YZ hF _ _)]
 ml {a x} ha hx := by
  have R := hF.ring; unfold cof; have e : (fun i => Jr p m (dv p v) (nR i) (Jr p m (dv p v) x (a (pv i)))) = fun i => Jr p m (dv p v) x (Jr p m (dv p v) (nR i) (a (pv i))) := funext fun i => by
   rw [<- R.Ma (hn i) hx (ha _), R.Mc (hn i) hx, R.Ma hx (hn i) (ha _)]
  rw [e, Jrw hF (fun i => R.Ml _ _) hx, <- R.Md hx (ha c) (YZ hF _ _)]
theorem Jrv (hF : FV P M mf p m v) : ∃ g, Gn (p ^ m) (Jr p m (dv p v)) g := hF.gen
end
end Go.Proofs.Ytjgpkljepgcekaa
namespace Go.Proofs.Ytjgpkljepgcekaa
section
variable {p m v g : Nat} {P M : Int} {mf : LI} {X Y : LL} {C : Int} {w : Nat}
theorem Ji3 (hF : FV P M mf p m v) {l : LI} {c : Nat} {z : Nat} (hz : z < p ^ m) (h : vo l c = (z : Int)) : en p m l c = z := by unfold en; rw [h]; exact J3 hz
theorem Jha (hF : FV P M mf p m v) (hs : shp C X) (he : Els p m X) : Red C.toNat (ec p m v C X) := by
 obtain ⟨g, G⟩ := Jrv hF; exact Jh6 G hF (Jbk hs) he rfl _
theorem Jep (hF : FV P M mf p m v) (he : Els p m X) : Els p m (J2 p m v C X) := fun r hr => Jbv (S := ⟨X, List.replicate X.length [], [], 1⟩) (by have := hF.p2; omega) he C.toNat r (List.mem_of_mem_take hr)
theorem ZQ (hF : FV P M mf p m v) (hs : shp C X) (he : Els p m X) {i t : Nat} (hi : i < (JP p m v C X).length) (ht : t < (JP p m v C X).length) : vo (row (J2 p m v C X) t) (vo (JP p m v C X) i).toNat = if t = i then 1 else 0 := by
 have hS := Jaz (p := p) (m := m) (v := v) hs; have := Jeq (p := p) (m := m) (v := v) hs; rw [show row (J2 p m v C X) t = row (ec p m v C X).X t from ZE ht]; exact (Jha hF hs he).one i hi t (by have := hS.xl; omega)
theorem Jsb (hF : FV P M mf p m v) (hs : shp C X) (he : Els p m X) {i c : Nat} (hi : i < (JP p m v C X).length) (hc : (c : Int) < vo (JP p m v C X) i) : vo (row (J2 p m v C X) i) c = 0 := by
 rw [show row (J2 p m v C X) i = row (ec p m v C X).X i from ZE hi]; exact (Jha hF hs he).lf i hi c hc
end
end Go.Proofs.Ytjgpkljepgcekaa
namespace Go.Proofs.Ytjgpkljepgcekaa
end Go.Proofs.Ytjgpkljepgcekaa
namespace Go.Proofs.Ytjgpkljepgcekaa
section
variable {p m v : Nat} {P M : Int} {mf : LI} {X Y : LL} {C : Int} {w : Nat}
theorem Jsj {f : (Nat -> Nat) -> Nat} {r cur : Nat} (hr : r < X.length) (hc : cur < X.length) (h : Ann p m f X) : Ann p m f (swq X r cur) := fun t ht => by
  rw [JT] at ht
  rw [Zh hr hc]
  split
  . exact h r hr
  . split
    . exact h cur hc
    . exact h t ht
theorem Jsl {f : (Nat -> Nat) -> Nat} (L : Lin p m v w f) (hF : FV P M mf p m v) {cur : Nat} {e : Int} (hc : cur < X.length) (hw : (row X cur).length = w) (h : Ann p m f X) : Ann p m f (scq p m v X cur e) := fun t ht => by
 rw [Qv] at ht; rw [Jgf hc]; split
 .rw [L.sc hF hw, h cur hc, hF.ring.M0 (JS (by have := hF.ring.q2; omega) _)]
 .exact h t ht
theorem Jsm {f : (Nat -> Nat) -> Nat} (L : Lin p m v w f) (hF : FV P M mf p m v) {cur : Nat} {g : Nat -> Int} (hc : cur < X.length) (hw : ∀ t, t < X.length -> (row X t).length = w) (h : Ann p m f X) : Ann p m f (clr p m v g cur X) := fun t ht => by
 have R := hF.ring; have hq : 0 < p ^ m := by have := R.q2; omega
 rw [Yx] at ht; rw [YL ht]; split
 .exact h t ht
 .rw [L.adx hF (hw t ht), h cur hc, h t ht, R.M0 (JS hq _), R.Az hq]
theorem Jps (hF : FV P M mf p m v) {f : (Nat -> Nat) -> Nat} (L : Lin p m v w f) {S : ES} {c : Nat} (hw : ∀ t, t < S.X.length -> (row S.X t).length = w) (h : Ann p m f S.X) : Ann p m f (Yd p m v S c).X := by
 unfold Yd; split
 .rename_i h1
  obtain ⟨hc, hr⟩ := h1; rw [Jbu]; have hw1 : ∀ t, t < (swq S.X (nz S.X c S.pv.length) S.pv.length).length -> (row (swq S.X (nz S.X c S.pv.length) S.pv.length) t).length = w := fun t ht => by
   rw [JT] at ht; exact QY hr hc hw ht
  exact Jsm L hF (by rw [Qv, JT]; exact hc) (fun t ht => by rw [Qv] at ht; exact QZ (by rw [JT]; exact hc) hw1 ht) (Jsl L hF (by rw [JT]; exact hc) (hw1 _ (by rw [JT]; exact hc)) (Jsj hr hc h))
 .exact h
theorem Jfx (hF : FV P M mf p m v) {f : (Nat -> Nat) -> Nat} (L : Lin p m v w f) {n wy : Nat} {S : ES} (hS : Shp n w wy S) (h : Ann p m f S.X) : ∀ k, Ann p m f (elim p m v k S).X
 | 0 => h
 | k + 1 => by
  rw [QL]; have hk := Y0 (p := p) (m := m) (v := v) hS k; exact Jps hF L (fun t ht => hk.xr t (by have := hk.xl; omega)) (Jfx hF L hS h k)
theorem Zs (hF : FV P M mf p m v) (hs : shp C X) (he : Els p m X) {f : (Nat -> Nat) -> Nat} (L : Lin p m v C.toNat f) : Ann p m f (J2 p m v C X) ↔ Ann p m f X := by
  have R := hF.ring
  have hq : 0 < p ^ m := by have := R.q2; omega
  obtain ⟨g, G⟩ := Jrv hF
  have hS := Jaz (p := p) (m := m) (v := v) hs
  have red := Jha hF hs he
  have hl := Yp (p := p) (m := m) (v := v) hs
  have hpl := Jeq (p := p) (m := m) (v := v) hs
  have f0 : ∀ a : Nat -> Nat, (∀ c, c < C.toNat -> a c = 0) -> f a = 0 := fun a ha => by
    have h1 := L.ml (a := fun _ => 0) (x := 0) (fun _ => hq) hq
    rw [R.Mc hq (L.lt _), R.M0 (L.lt _)] at h1
    rw [<- h1]
    exact L.cg fun c hc => by rw [ha c hc, R.M0 hq]
  refine ⟨fun h => Jjo G hF L (Jbk hs) he C.toNat fun t ht => ?_, fun h t ht => ?_⟩
  . by_cases hr : t < (JP p m v C X).length
    . have := h t (by omega)
      rwa [show row (J2 p m v C X) t = row (ec p m v C X).X t from ZE hr] at this
    . exact f0 _ fun c hc => Ji3 hF hq (red.lo t (by show (JP p m v C X).length <= t; omega) ht c hc)
  . rw [show row (J2 p m v C X) t = row (ec p m v C X).X t from ZE (by show t < (JP p m v C X).length; omega)]
    exact Jfx hF L (Jbk hs) h C.toNat t (by have := hS.xl; show t < (ec p m v C X).X.length; omega)
end
end Go.Proofs.Ytjgpkljepgcekaa
namespace Go.Proofs.Ytjgpkljepgcekaa
section
variable {p m v : Nat} {P M : Int} {mf : LI} {X Y : LL} {C : Int} {w : Nat}
def dt (p m v w : Nat) (u a : Nat -> Nat) : Nat := fs p m (fun c => Jr p m (dv p v) (u c) (a c)) w
theorem ZN (hF : FV P M mf p m v) {u : Nat -> Nat} (hu : ∀ c, u c < p ^ m) : Lin p m v w (dt p m v w u) where
 lt a := YZ hF _ _
 cg h := Jfs _ fun c hc => by rw [h c hc]
 ad {a b x} ha hb hx := by
  have R := hF.ring; unfold dt; have e : (fun c => Jr p m (dv p v) (u c) (JI p m (a c) (Jr p m (dv p v) x (b c)))) = fun c => JI p m (Jr p m (dv p v) (u c) (a c)) (Jr p m (dv p v) x (Jr p m (dv p v) (u c) (b c))) := funext fun c => by
   rw [R.Md (hu c) (ha _) (R.Ml _ _), <- R.Ma (hu c) hx (hb _), R.Mc (hu c) hx, R.Ma hx (hu c) (hb _)]
  rw [e, Jg2 hF (fun c => R.Ml _ _) (fun c => R.Ml _ _) hx]
 ml {a x} ha hx := by
  have R := hF.ring; unfold dt; have e : (fun c => Jr p m (dv p v) (u c) (Jr p m (dv p v) x (a c))) = fun c => Jr p m (dv p v) x (Jr p m (dv p v) (u c) (a c)) := funext fun c => by
   rw [<- R.Ma (hu c) hx (ha _), R.Mc (hu c) hx, R.Ma hx (hu c) (ha _)]
  rw [e, Jrw hF (fun c => R.Ml _ _) hx]
theorem Jln (hF : FV P M mf p m v) {u u' a : Nat -> Nat} {d y : Nat} (ha : ∀ c, a c < p ^ m) (hy : y < p ^ m) (h0 : u d = 0) (h : ∀ c, u' c = if c = d then y else u c) : ∀ w, d < w -> dt p m v w u' a = JI p m (dt p m v w u a) (Jr p m (dv p v) y (a d))
 | 0, hd => absurd hd (Nat.not_lt_zero _)
 | k + 1, hd => by
  have R := hF.ring; have hq : 0 < p ^ m := by have := R.q2; omega
  show JI p m (dt p m v k u' a) (Jr p m (dv p v) (u' k) (a k)) = JI p m (JI p m (dt p m v k u a) (Jr p m (dv p v) (u k) (a k))) (Jr p m (dv p v) y (a d)); have hD : dt p m v k u a < p ^ m := YZ hF (fun c => Jr p m (dv p v) (u c) (a c)) k; by_cases e : k = d
  .subst e; have e1 : dt p m v k u' a = dt p m v k u a := Jfs _ fun c hc => by rw [h c, if_neg (by omega)]
   rw [e1, h k, if_pos rfl, h0, R.Mc hq (ha k), R.M0 (ha k), R.Az hD]
  .rw [Jln hF ha hy h0 h k (by omega), h k, if_neg e, R.Aa hD (R.Ml _ _) (R.Ml _ _), R.Aa hD (R.Ml _ _) (R.Ml _ _), R.Ac (Jr p m (dv p v) y (a d))]
theorem Jbi {n t d : Nat} {R : LL} {pv : LI} (hd : d ≠ t) : ∀ k, (∀ i, i < k -> (vo pv i).toNat ≠ d) -> vo (YJ p m n R pv t k) d = 0
 | 0, _ => by
  show vo ((List.replicate n (0 : Int)).set t 1) d = 0; rw [Qd, if_neg (fun h => hd h.1.symm)]; exact Jkd n d
 | k + 1, h => by
  rw [YA, Qd, if_neg (fun e => h k (by omega) e.1)]; exact Jbi hd k fun i hi => h i (by omega)
theorem Jr6 (hF : FV P M mf p m v) {n t : Nat} {R : LL} {pv : LI} (ht : t < n) (hp : Asc n pv) (hf : ∀ i, i < pv.length -> (vo pv i).toNat ≠ t) {a : Nat -> Nat} (ha : ∀ c, a c < p ^ m) : ∀ k, k <= pv.length ->
  dt p m v n (en p m (YJ p m n R pv t k)) a = cof p m v t k (fun i => (vo pv i).toNat) (fun i => Qz p m (en p m (row R i) t)) a
 | 0, _ => by
  have R' := hF.ring; have q1 : 1 < p ^ m := R'.q2; have h1 := Jln (w := n) hF (u := fun _ => 0) (u' := en p m (YJ p m n R pv t 0)) (a := a) (d := t) (y := 1) ha q1 rfl (fun c => by
   show inE (p ^ m) (vo ((List.replicate n (0 : Int)).set t 1) c) = _; rw [Qd]; by_cases e : t = c
   .rw [if_pos ⟨e, by rw [List.length_replicate]; exact ht⟩, if_pos e.symm]; exact J3 (x := 1) q1
   .rw [if_neg (fun h => e h.1), if_neg (fun h => e h.symm), Jkd]; exact J3 (x := 0) (by omega)) ht
  rw [h1]; have h2 : dt p m v n (fun _ => 0) a = 0 := Jbt hF _ fun c _ => by
   show Jr p m (dv p v) 0 (a c) = 0; rw [R'.Mc (by omega) (ha c), R'.M0 (ha c)]
  rw [h2, R'.Ac, R'.Az (R'.Ml _ _), R'.Mc q1 (ha t), R'.M1 (ha t)]; show a t = JI p m (a t) 0; rw [R'.Az (ha t)]
 | k + 1, hk => by
  have R' := hF.ring; have hpos : 0 < p := by have := hF.p2; omega
  have hpk := hp.1 k (by omega); have hne : ∀ i, i < k -> (vo pv i).toNat ≠ (vo pv k).toNat := fun i hi => by
   have h1 := hp.2 i k hi (by omega); have h2 := hp.1 i (by omega); omega
  have hn := QJ (m := m) hpos (en p m (row R k) t); have h1 := Jln (w := n) hF (u := en p m (YJ p m n R pv t k)) (u' := en p m (YJ p m n R pv t (k + 1))) (a := a) (d := (vo pv k).toNat) (y := Qz p m (en p m (row R k) t)) ha hn (by
    unfold en; rw [Jbi (hf k (by omega)) k hne]; exact J3 (x := 0) (by have := R'.q2; omega)) (fun c => by
   unfold en; rw [YA, Qd]; by_cases e : (vo pv k).toNat = c
   .rw [if_pos ⟨e, by rw [Jd2]; omega⟩, if_pos e.symm]; exact J3 hn
   .rw [if_neg (fun h => e h.1), if_neg (fun h => e h.symm)]) (by omega)
  rw [h1, Jr6 hF ht hp hf ha k (by omega)]; show JI p m (JI p m (a t) _) _ = JI p m (a t) (JI p m _ _); rw [R'.Aa (ha t) (YZ hF _ _) (R'.Ml _ _)]
theorem Jtz (hF : FV P M mf p m v) (hs : shp C X) (he : Els p m X) {t : Nat} (ht : t < C.toNat) (hf : ∀ i, i < (JP p m v C X).length -> (vo (JP p m v C X) i).toNat ≠ t) : Ann p m (dt p m v C.toNat (en p m (YJ p m C.toNat (J2 p m v C X) (JP p m v C X) t (JP p m v C X).length))) X := by
  have R := hF.ring
  have q1 : 1 < p ^ m := R.q2
  have hp : 0 < p := by have := hF.p2; omega
  have hasc := Y4 (p := p) (m := m) (v := v) C X
  have hl := Yp (p := p) (m := m) (v := v) hs
  refine (Zs hF hs he (ZN hF fun c => JV hF _ c)).1 fun s hs' => ?_
  rw [Jr6 hF ht hasc hf (fun c => JV hF _ c) _ (Nat.le_refl _)]
  unfold cof
  have hsr : s < (JP p m v C X).length := by omega
  have hd : ∀ i, i < (JP p m v C X).length -> en p m (row (J2 p m v C X) s) (vo (JP p m v C X) i).toNat = if s = i then 1 else 0 := fun i hi => by
    have := ZQ hF hs he hi hsr
    by_cases e : s = i
    . rw [if_pos e] at this ⊢; exact Ji3 hF q1 this
    . rw [if_neg e] at this ⊢; exact Ji3 hF (by omega) this
  have hneg : ∀ i, Qz p m (en p m (row (J2 p m v C X) i) t) < p ^ m := fun i => QJ hp _
  rw [Jco hF (f := fun i => Jr p m (dv p v) (Qz p m (en p m (row (J2 p m v C X) i) t)) (en p m (row (J2 p m v C X) s) (vo (JP p m v C X) i).toNat)) (j := s) (R.Ml _ _) _ hsr fun i hi hne => by
    show Jr p m (dv p v) _ _ = 0
    rw [hd i hi, if_neg (fun e => hne e.symm), R.M0 (hneg i)]]
  show JI p m _ (Jr p m (dv p v) _ _) = 0
  rw [hd s hsr, if_pos rfl, R.M1 (hneg s)]
  exact QR hp (JV hF _ _)
end
end Go.Proofs.Ytjgpkljepgcekaa
namespace Go.Proofs.Ytjgpkljepgcekaa
section
variable {p m v : Nat} {P M : Int} {mf : LI} {X Y : LL} {C : Int} {w : Nat}
theorem Jrq {pv : LI} {c : Nat} (h : ¬ inP pv c = true) : ∀ i, i < pv.length -> vo pv i ≠ (c : Int) := fun i hi e => h (Jdf.2 ⟨i, hi, e⟩)
theorem Jgh {Z : LL} {l : LI} {t : Nat} : row (Z ++ [l]) t = if t < Z.length then row Z t else if t = Z.length then l else [] := by
 unfold row; rw [List.getD_eq_getElem?_getD, List.getElem?_append]; split
 .rw [<- List.getD_eq_getElem?_getD]
 .rename_i h
  split
  .rename_i e; rw [e, Nat.sub_self]; rfl
  .rw [List.getElem?_eq_none (by simp; omega)]; rfl
theorem Jes {n : Nat} (R : LL) (pv : LI) : ∀ k, ∃ fc : Nat -> Nat, (∀ j, j < (bas p m n R pv k).length -> fc j < k /\ ¬ inP pv (fc j) = true /\ row (bas p m n R pv k) j = YJ p m n R pv (fc j) pv.length) /\ ∀ i j, i < j -> j < (bas p m n R pv k).length -> fc i < fc j
 | 0 => ⟨fun _ => 0, fun j hj => absurd hj (Nat.not_lt_zero _), fun i j _ hj => absurd hj (Nat.not_lt_zero _)⟩
 | k + 1 => by
  obtain ⟨fc, h1, h2⟩ := Jes (n := n) R pv k; rw [Y5]; by_cases hin : inP pv k = true
  .rw [if_pos hin]; exact ⟨fc, fun j hj => ⟨by have := (h1 j hj).1; omega, (h1 j hj).2⟩, h2⟩
  .rw [if_neg hin]; refine ⟨fun j => if j < (bas p m n R pv k).length then fc j else k, fun j hj => ?_, fun i j hij hj => ?_⟩
   .rw [List.length_append, List.length_singleton] at hj; dsimp only; rw [Jgh]; by_cases e : j < (bas p m n R pv k).length
    .rw [if_pos e, if_pos e]; exact ⟨by have := (h1 j e).1; omega, (h1 j e).2⟩
    .rw [if_neg e, if_neg e, if_pos (by omega)]; exact ⟨by omega, hin, rfl⟩
   .rw [List.length_append, List.length_singleton] at hj; dsimp only; rw [if_pos (by omega : i < (bas p m n R pv k).length)]; by_cases e : j < (bas p m n R pv k).length
    .rw [if_pos e]; exact h2 i j hij e
    .rw [if_neg e]; exact (h1 i (by omega)).1
theorem Jqs {n t : Nat} {R : LL} {pv : LI} (ht : t < n) : ∀ k, (∀ i, i < k -> (vo pv i).toNat ≠ t) -> vo (YJ p m n R pv t k) t = 1
 | 0, _ => by
  show vo ((List.replicate n (0 : Int)).set t 1) t = 1; rw [Qd, if_pos ⟨rfl, by rw [List.length_replicate]; exact ht⟩]
 | k + 1, h => by
  rw [YA, Qd, if_neg (fun e => h k (by omega) e.1)]; exact Jqs ht k fun i hi => h i (by omega)
theorem Jjm (hF : FV P M mf p m v) (hs : shp C X) (he : Els p m X) {t : Nat} (ht : t < X.length) : Ann p m (dt p m v C.toNat (en p m (row X t))) (J2 p m v C (Yc p m v C X)) := by
  have R := hF.ring
  have hasc := Y4 (p := p) (m := m) (v := v) C X
  refine (Zs hF (Y6 hs) (ZS hF) (ZN hF fun c => JV hF _ c)).2 fun j hj => ?_
  obtain ⟨fc, h1, h2⟩ := Jes (p := p) (m := m) (n := C.toNat) (J2 p m v C X) (JP p m v C X) C.toNat
  have e : row (Yc p m v C X) j = YJ p m C.toNat (J2 p m v C X) (JP p m v C X) (fc j) (JP p m v C X).length := (h1 j hj).2.2
  rw [e]
  have := Jtz hF hs he (h1 j hj).1 (fun i hi => by
    have h5 := Jrq (h1 j hj).2.1 i hi
    have h6 := hasc.1 i hi
    omega) t ht
  rw [<- this]
  refine Jfs _ fun c _ => ?_
  exact R.Mc (JV hF _ _) (JV hF _ _)
end
end Go.Proofs.Ytjgpkljepgcekaa
namespace Go.Proofs.Ytjgpkljepgcekaa
section
variable {p m v : Nat} {P M : Int} {mf : LI} {X Y : LL} {C : Int} {w : Nat}
end
end Go.Proofs.Ytjgpkljepgcekaa
namespace Go.Proofs.Ytjgpkljepgcekaa
section
variable {p m v : Nat} {P M : Int} {mf : LI} {X Y : LL} {C : Int} {w wy : Nat}
def e2 (p m w : Nat) (a b : LI) : Nat -> Nat := fun c => if c < w then en p m a c else en p m b (c - w)
end
end Go.Proofs.Ytjgpkljepgcekaa
namespace Go.Proofs.Ytjgpkljepgcekaa
section
variable {p m v : Nat} {P M : Int} {mf : LI} {X Y : LL} {C : Int} {w wy : Nat}
def u1 (p m w : Nat) (u : Nat -> Nat) : Nat -> Nat := fun c => if c < w then u c else Qz p m 1
end
end Go.Proofs.Ytjgpkljepgcekaa
namespace Go.Proofs.Ytjgpkljepgcekaa
end Go.Proofs.Ytjgpkljepgcekaa
namespace Go.Proofs.Ytjgpkljepgcekaa
section
variable {p m v : Nat} {P M : Int} {mf : LI} {X Y : LL} {C D : Int} {w wy : Nat}
theorem Jiv (hF : FV P M mf p m v) {f : (Nat -> Nat) -> Nat} (L : Lin p m v w f) {a : Nat -> Nat} (ha : ∀ c, c < w -> a c = 0) : f a = 0 := by
  have hq : 0 < p ^ m := by have := hF.ring.q2; omega
  have h := L.ml (a := fun _ => 0) (x := 0) (fun _ => hq) hq
  have e : f (fun _ => Jr p m (dv p v) 0 0) = f a := L.cg fun c hc => by rw [ha c hc, hF.ring.M0 hq]
  rw [<- e, h, hF.ring.Mc hq (L.lt _), hF.ring.M0 (L.lt _)]
def mm (p m v w : Nat) (A B : LL) : LL := (List.range A.length).map fun t => cmb p m v (row A t) w B B.length
def tr (n : Nat) (A : LL) : LL := (List.range n).map fun c => (List.range A.length).map fun t => vo (row A t) c
theorem tr_len (n : Nat) (A : LL) : (tr n A).length = n := by simp [tr]
theorem Jkn {n c : Nat} {A : LL} (h : c < n) : row (tr n A) c = (List.range A.length).map fun t => vo (row A t) c := Jgg h
theorem Jkg {n c : Nat} {A : LL} (h : c < n) : (row (tr n A) c).length = A.length := by rw [Jkn h]; simp
end
end Go.Proofs.Ytjgpkljepgcekaa
namespace Go.Proofs.Ytjgpkljepgcekaa
section
variable {P M : Int} {mf : LI} {X : LL} {C : Int}
end
end Go.Proofs.Ytjgpkljepgcekaa
namespace Go.Proofs.Ytjgpkljepgcekaa
section
variable {p m v : Nat} {P M : Int} {mf : LI} {X Y : LL} {C D : Int} {w wy : Nat}
theorem Ju0 (hF : FV P M mf p m v) (hs : shp C X) (he : Els p m X) {a : Nat -> Nat} (ha : ∀ c, a c < p ^ m) (hA : ∀ f, Lin p m v C.toNat f -> Ann p m f (J2 p m v C X) -> f a = 0) {c : Nat} (hc : c < C.toNat) :
    a c = fs p m (fun i => Jr p m (dv p v) (a (vo (JP p m v C X) i).toNat) (en p m (row (J2 p m v C X) i) c)) (JP p m v C X).length := by
  have R := hF.ring
  have q1 : 1 < p ^ m := R.q2
  have hp : 0 < p := by have := hF.p2; omega
  have hasc := Y4 (p := p) (m := m) (v := v) C X
  have hcl := Yp (p := p) (m := m) (v := v) hs
  have hneg : ∀ y, y < p ^ m -> Qz p m y < p ^ m := fun y _ => QJ hp y
  have L := Ju1 (w := C.toNat) hF (c := c) (r := (JP p m v C X).length) (pv := fun i => (vo (JP p m v C X) i).toNat) (nR := fun i => Qz p m (en p m (row (J2 p m v C X) i) c)) hc (fun i hi => by have := hasc.1 i hi; show (vo (JP p m v C X) i).toNat < _; omega) (fun i => hneg _ (JV hF _ _))
  have hann := hA _ L (fun s hsl => by
    show cof _ _ _ _ _ _ _ (en p m (row (J2 p m v C X) s)) = 0
    unfold cof
    have hsr : s < (JP p m v C X).length := by omega
    have hd : ∀ i, i < (JP p m v C X).length -> en p m (row (J2 p m v C X) s) (vo (JP p m v C X) i).toNat = if s = i then 1 else 0 := fun i hi => by
      have := ZQ hF hs he hi hsr
      by_cases e : s = i
      . rw [if_pos e] at this ⊢; exact Ji3 hF q1 this
      . rw [if_neg e] at this ⊢; exact Ji3 hF (by omega) this
    have h9 := Jco hF (f := fun i => Jr p m (dv p v) (Qz p m (en p m (row (J2 p m v C X) i) c)) (en p m (row (J2 p m v C X) s) (vo (JP p m v C X) i).toNat)) (j := s) (R.Ml _ _) _ hsr fun i hi hne => by
      show Jr p m (dv p v) _ _ = 0
      rw [hd i hi, if_neg (fun e => hne e.symm), R.M0 (hneg _ (JV hF _ _))]
    show JI p m _ (fs p m (fun i => Jr p m (dv p v) (Qz p m (en p m (row (J2 p m v C X) i) c)) (en p m (row (J2 p m v C X) s) (vo (JP p m v C X) i).toNat)) (JP p m v C X).length) = 0
    rw [h9]
    show JI p m _ (Jr p m (dv p v) _ _) = 0
    rw [hd s hsr, if_pos rfl, R.M1 (hneg _ (JV hF _ _))]
    exact QR hp (JV hF _ _))
  unfold cof at hann
  have hG := YZ hF (fun i => Jr p m (dv p v) (a (vo (JP p m v C X) i).toNat) (en p m (row (J2 p m v C X) i) c)) (JP p m v C X).length
  have hN := YZ hF (fun i => Jr p m (dv p v) (Qz p m (en p m (row (J2 p m v C X) i) c)) (a (vo (JP p m v C X) i).toNat)) (JP p m v C X).length
  have hGN : JI p m (fs p m (fun i => Jr p m (dv p v) (a (vo (JP p m v C X) i).toNat) (en p m (row (J2 p m v C X) i) c)) (JP p m v C X).length) (fs p m (fun i => Jr p m (dv p v) (Qz p m (en p m (row (J2 p m v C X) i) c)) (a (vo (JP p m v C X) i).toNat)) (JP p m v C X).length) = 0 := by
    have h1 := Jg2 hF (f := fun i => Jr p m (dv p v) (a (vo (JP p m v C X) i).toNat) (en p m (row (J2 p m v C X) i) c)) (h := fun i => Jr p m (dv p v) (Qz p m (en p m (row (J2 p m v C X) i) c)) (a (vo (JP p m v C X) i).toNat)) (x := 1) (fun i => R.Ml _ _) (fun i => R.Ml _ _) q1 (JP p m v C X).length
    rw [R.Mc q1 hN, R.M1 hN] at h1
    rw [<- h1]
    refine Jbt hF _ fun i hi => ?_
    show JI p m (Jr p m (dv p v) _ _) (Jr p m (dv p v) 1 (Jr p m (dv p v) _ _)) = 0
    have ha' := ha (vo (JP p m v C X) i).toNat
    have hb := JV hF (row (J2 p m v C X) i) c
    rw [R.Mc q1 (R.Ml _ _), R.M1 (R.Ml _ _), R.Mc (hneg _ hb) ha', <- R.Md ha' hb (hneg _ hb), QR hp hb, R.M0 ha']
  have hx := ha c
  generalize fs p m (fun i => Jr p m (dv p v) (a (vo (JP p m v C X) i).toNat) (en p m (row (J2 p m v C X) i) c)) (JP p m v C X).length = G1 at *
  generalize fs p m (fun i => Jr p m (dv p v) (Qz p m (en p m (row (J2 p m v C X) i) c)) (a (vo (JP p m v C X) i).toNat)) (JP p m v C X).length = N1 at *
  generalize a c = b at *
  calc b = JI p m b (JI p m G1 N1) := by rw [hGN, R.Az hx]
    _ = JI p m G1 (JI p m b N1) := by rw [<- R.Aa hx hG hN, R.Ac b G1, R.Aa hG hx hN]
    _ = G1 := by rw [hann, R.Az hG]
end
end Go.Proofs.Ytjgpkljepgcekaa
namespace Go.Proofs.Ytjgpkljepgcekaa
section
variable {p m v : Nat} {P M : Int} {mf : LI} {X Y : LL} {C D : Int} {w wy : Nat}
end
end Go.Proofs.Ytjgpkljepgcekaa
namespace Go.Proofs.Ytjgpkljepgcekaa
/-! ### canonical matrices -/
variable {P M : Int} {mf : LI} {p m v : Nat} {C : Int} {X Y : LL}
/-- The rows are canonical; q: the columns of their first entries. -/
structure Cnl (C : Nat) (X : LL) (q : Nat -> Nat) : Prop where
  lt : ∀ i, i < X.length -> q i < C
  one : ∀ i, i < X.length -> ∀ t, t < X.length -> vo (row X t) (q i) = if t = i then 1 else 0
  lf : ∀ i, i < X.length -> ∀ c, c < q i -> vo (row X i) c = 0
  asc : ∀ i j, i < j -> j < X.length -> q i < q j
def IsCn (C : Int) (X : LL) : Prop := ∃ q, Cnl C.toNat X q
theorem Jjq (a o : LI) : adx p m v a 0 o = a := by unfold adx; rw [if_pos rfl]
theorem ng_0 (hF : FV P M mf p m v) : Ng p m 0 = 0 := (Jm7 hF ⟨by omega, by
 have := hF.ring.q2; have h : (0 : Int) < ((p ^ m : Nat) : Int) := by exact_mod_cast (by omega : 0 < p ^ m)
 exact h⟩).2 rfl
theorem Juy (hF : FV P M mf p m v) {S : ES} {k : Nat} (he : Els p m S.X) (hj : S.pv.length < S.X.length) (h1 : ∀ t, t < S.X.length -> vo (row S.X t) k = if t = S.pv.length then 1 else 0) : (es1 p m v k S.pv.length S.pv.length S).X = S.X := by
 rw [Jbu]; have e1 : swq S.X S.pv.length S.pv.length = S.X := by unfold swq; rw [if_pos rfl]
 rw [e1]; have e2 : scq p m v S.X S.pv.length (vo (row S.X S.pv.length) k) = S.X := by
  unfold scq; rw [h1 _ hj, if_pos rfl, iv_one hF, sc_one hF (QK he _)]; refine Yw (by simp) fun i hi => ?_; rw [QI]; split
  .rename_i h; rw [h.1]
  .rfl
 rw [e2]; refine Yw (by rw [Yx]) fun i hi => ?_; rw [Yx] at hi; rw [YL hi]; split
 .rfl
 .rename_i hne
  rw [h1 i hi, if_neg hne, ng_0 hF, Jjq]
theorem Ji4 (hF : FV P M mf p m v) {q : Nat -> Nat} {w wy : Nat} {Y : LL} {d : Int} (hq : Cnl w X q) (he : Els p m X) : ∀ k, k <= w -> (elim p m v k ⟨X, Y, [], d⟩).X = X /\ ∃ j, j <= X.length /\ (∀ i, i < j -> q i < k) /\ (∀ i, j <= i -> i < X.length -> k <= q i) /\ (elim p m v k ⟨X, Y, [], d⟩).pv = (List.range j).map fun i => ((q i : Nat) : Int)
 | 0, _ => ⟨rfl, 0, Nat.zero_le _, fun i h => absurd h (Nat.not_lt_zero i), fun i _ _ => Nat.zero_le _, rfl⟩
 | k + 1, hk => by
  obtain ⟨h1, j, hj, h2, h3, h4⟩ := Ji4 hF (Y := Y) (d := d) (wy := wy) hq he k (by omega); rw [QL]; generalize elim p m v k ⟨X, Y, [], d⟩ = S at h1 h4 ⊢; have hl : S.pv.length = j := by rw [h4]; simp
  unfold Yd; rw [hl, h1]; by_cases hjn : j < X.length
  .by_cases hqk : q j = k
   .have hn : nz X k j = j := (Jri (Nat.le_refl _) hj (fun t a b => by omega) (fun hh => by
     have := hq.one j hh j hh; rw [hqk, if_pos rfl] at this; rw [this]; decide)).symm
    rw [hn, if_pos ⟨hjn, hjn⟩]; have e := Juy (k := k) hF (S := S) (by rw [h1]; exact he) (by rw [hl, h1]; exact hjn) (fun t ht => by
     rw [h1] at ht ⊢; rw [hl, <- hqk]; exact hq.one j hjn t ht)
    rw [hl] at e; refine ⟨e.trans h1, j + 1, hjn, fun i hi => ?_, fun i a b => ?_, ?_⟩
    .rcases Nat.lt_or_ge i j with h | h
     .have := h2 i h; omega
     .have : i = j := by omega
      subst this; omega
    .have := hq.asc j i (by omega) b; omega
    .show S.pv ++ [(k : Int)] = _; rw [h4, List.range_succ, List.map_append, List.map_cons, List.map_nil, hqk]
   .have hlt : k < q j := by have := h3 j (Nat.le_refl _) hjn; omega
    have hz : ∀ t, j <= t -> t < X.length -> vo (row X t) k = 0 := fun t a b => hq.lf t b k (by
     rcases Nat.lt_or_ge j t with h | h
     .have := hq.asc j t h b; omega
     .have : t = j := by omega
      subst this; exact hlt)
    have hn : ¬ nz X k j < X.length := fun hh => (Z6 X k j hj).2.2 hh (hz _ (Jrh X k j) hh); rw [if_neg (fun hh => hn hh.2)]; refine ⟨h1, j, hj, fun i hi => by have := h2 i hi; omega, fun i a b => ?_, h4⟩; rcases Nat.lt_or_ge j i with h | h
    .have := hq.asc j i h b; omega
    .have : i = j := by omega
     subst this; omega
  .rw [if_neg (fun hh => hjn hh.1)]; exact ⟨h1, j, hj, fun i hi => by have := h2 i hi; omega, fun i a b => by omega, h4⟩
theorem Ju4 (hF : FV P M mf p m v) (hs : shp C X) (he : Els p m X) {q : Nat -> Nat} (hq : Cnl C.toNat X q) : J2 p m v C X = X /\ JP p m v C X = (List.range X.length).map fun i => ((q i : Nat) : Int) := by
 obtain ⟨h1, j, hj, h2, h3, h4⟩ := Ji4 (wy := 0) (Y := List.replicate X.length []) (d := 1) hF hq he C.toNat (Nat.le_refl _); have e : j = X.length := by
  rcases Nat.lt_or_ge j X.length with h | h
  .have := h3 j (Nat.le_refl _) h; have := hq.lt j h; omega
  .omega
 subst e; have hP : JP p m v C X = (List.range X.length).map fun i => ((q i : Nat) : Int) := h4; refine ⟨?_, hP⟩; show (elim p m v C.toNat ⟨X, List.replicate X.length [], [], 1⟩).X.take (elim p m v C.toNat ⟨X, List.replicate X.length [], [], 1⟩).pv.length = X; rw [h1, h4, List.length_map, List.length_range, List.take_length]
theorem ZR (hs : shp C X) {i : Nat} (hi : i < (JP p m v C X).length) : (((vo (JP p m v C X) i).toNat : Nat) : Int) = vo (JP p m v C X) i /\ (vo (JP p m v C X) i).toNat < C.toNat := by
 have h := (Y4 (p := p) (m := m) (v := v) C X).1 i hi; omega
theorem Jsc (hF : FV P M mf p m v) (hs : shp C X) (he : Els p m X) : Cnl C.toNat (J2 p m v C X) fun i => (vo (JP p m v C X) i).toNat := by
 have hl := Yp (p := p) (m := m) (v := v) hs; refine ⟨fun i hi => (ZR hs (by omega)).2, fun i hi t ht => ZQ hF hs he (by omega) (by omega), fun i hi c hc => ?_, fun i j hij hj => ?_⟩
 .exact Jsb hF hs he (by omega) (by have := (ZR (p := p) (m := m) (v := v) hs (i := i) (by omega)).1; omega)
 .have h := (Y4 (p := p) (m := m) (v := v) C X).2 i j hij (by omega); have h1 := (ZR (p := p) (m := m) (v := v) hs (i := i) (by omega)).1; have h2 := (ZR (p := p) (m := m) (v := v) hs (i := j) (by omega)).1; omega
/-- Canonical rows are no more than columns. -/
theorem Cnl.len {w : Nat} {q : Nat -> Nat} (h : Cnl w X q) : X.length <= w := by
  have : ∀ k, k <= X.length -> k = 0 ∨ k <= q (k - 1) + 1 := by
    intro k
    induction k with
    | zero => intro _; exact .inl rfl
    | succ k ih =>
      intro hk
      refine .inr ?_
      rcases ih (by omega) with h0 | h1
      . subst h0; omega
      . rcases Nat.eq_zero_or_pos k with h0 | h0
        . subst h0; omega
        . have := h.asc (k - 1) k (by omega) (by omega)
          rw [Nat.add_sub_cancel]; omega
  rcases this X.length (Nat.le_refl _) with h0 | h1
  . omega
  . rcases Nat.eq_zero_or_pos X.length with h0 | h0
    . omega
    . have := h.lt (X.length - 1) (by omega); omega
end Go.Proofs.Ytjgpkljepgcekaa
namespace Go.Proofs.Ytjgpkljepgcekaa
/-! ### words reduced by canonical rows -/
variable {P M : Int} {mf : LI} {p m v : Nat} {C : Int} {X Y : LL} {w : Nat}
def Sb (p m : Nat) (x y : Int) : Int := ((JI p m (inE (p ^ m) x) (Qz p m (inE (p ^ m) y)) : Nat) : Int)
def sbx (p m v : Nat) (a : LI) (x : Int) (o : LI) : LI := if x = 0 then a else (List.range a.length).map fun i => if i < o.length then Sb p m (vo a i) (Ml p m v x (vo o i)) else vo a i
theorem ml_z (hF : FV P M mf p m v) {x z : Int} (hz : inE (p ^ m) z = 0 ∨ inE (p ^ m) x = 0) : Ml p m v x z = 0 := by
 have hq : 0 < p ^ m := by have := hF.ring.q2; omega
 unfold Ml; rcases hz with h | h
 .rw [h, hF.ring.M0 (JS hq _)]; rfl
 .rw [h, hF.ring.Mc hq (JS hq _), hF.ring.M0 (JS hq _)]; rfl
theorem Jfr (hF : FV P M mf p m v) : inE (p ^ m) 0 = 0 := J3 (x := 0) (by have := hF.ring.q2; omega)
theorem neg_ml (hF : FV P M mf p m v) {x y : Nat} (hx : x < p ^ m) (hy : y < p ^ m) : Qz p m (Jr p m (dv p v) x y) = Jr p m (dv p v) (Qz p m x) y := by
 have R := hF.ring; have hp : 0 < p := by have := hF.p2; omega
 have hn := QJ (m := m) hp x; have h1 : JI p m (Jr p m (dv p v) x y) (Jr p m (dv p v) (Qz p m x) y) = 0 := by
  rw [R.Mc hx hy, R.Mc hn hy, <- R.Md hy hx hn, QR hp hx, R.M0 hy]
 have h2 := QR (m := m) hp (R.Ml x y); have h3 := R.Ml (Qz p m x) y; have h4 := QJ (m := m) hp (Jr p m (dv p v) x y); have h5 : JI p m (JI p m (Jr p m (dv p v) (Qz p m x) y) (Jr p m (dv p v) x y)) (Qz p m (Jr p m (dv p v) x y)) = Jr p m (dv p v) (Qz p m x) y := by
  rw [R.Aa h3 (R.Ml x y) h4, h2, R.Az h3]
 rw [R.Ac (Jr p m (dv p v) (Qz p m x) y), h1, R.Ac, R.Az h4] at h5; exact h5
theorem Jnc (hF : FV P M mf p m v) {x : Nat} (h : x < p ^ m) : inE (p ^ m) ((x : Nat) : Int) = x := J3 h
theorem Jt2 (hF : FV P M mf p m v) {a o : LI} {x : Int} (ha : Elr p m a) (hx : El p m x) : sbx p m v a x o = adx p m v a (Ng p m x) o := by
 have R := hF.ring; have hp : 0 < p := by have := hF.p2; omega
 have hq : 0 < p ^ m := by have := R.q2; omega
 unfold sbx; by_cases h : x = 0
 .subst h; rw [if_pos rfl, ng_0 hF, Jjq]
 .rw [if_neg h]; have hn : Ng p m x ≠ 0 := fun e => h ((Jm7 hF hx).1 e); unfold adx; rw [if_neg hn]; refine List.ext_getElem (by simp [adm]) fun i h1 h2 => ?_; simp only [List.length_map, List.length_range] at h1; simp only [adm, List.getElem_map, List.getElem_range]; have hai : El p m (vo a i) := Jcr ha h1; by_cases ho : vo o i = 0
  .rw [if_pos ho, ho]; split
   .unfold Sb; rw [ml_z hF (.inl (Jfr hF)), Jfr hF]; have : Qz p m 0 = 0 := by
     have h0 := QR (m := m) hp hq; rw [R.Ac, R.Az (QJ hp 0)] at h0; exact h0
    rw [this, R.Az (JS hq _), Jay hai]
   .rfl
  .have hi : i < o.length := by
    rcases Nat.lt_or_ge i o.length with hh | hh
    .exact hh
    .exact absurd (Jar hh) ho
   rw [if_pos hi, if_neg ho]; unfold Sb Ad Ml Ng; rw [Jnc hF (R.Ml _ _), Jnc hF (R.Ml _ _), Jnc hF (QJ hp _), neg_ml hF (JS hq _) (JS hq _)]
/-- The word u less the combination of the first k rows that has the entries of u at Q. -/
def rsd (p m v : Nat) (Q : Nat -> Nat) (X : LL) (u : LI) : Nat -> LI
  | 0 => u
  | k + 1 => adx p m v (rsd p m v Q X u k) (Ng p m (vo u (Q k))) (row X k)
theorem Zf (Q : Nat -> Nat) (u : LI) : ∀ k, (rsd p m v Q X u k).length = u.length
 | 0 => rfl
 | k + 1 => by rw [rsd, Jdi, Zf Q u k]
theorem Zg (hp : 0 < p) (Q : Nat -> Nat) {u : LI} (hu : Elr p m u) : ∀ k, Elr p m (rsd p m v Q X u k)
 | 0 => hu
 | k + 1 => Jnn hp (Zg hp Q hu k)
theorem Jq4 (hF : FV P M mf p m v) {Q : Nat -> Nat} {u : LI} {c : Nat} (hc : c < u.length) : ∀ k, en p m (rsd p m v Q X u k) c = JI p m (en p m u c) (fs p m (fun i => Jr p m (dv p v) (inE (p ^ m) (Ng p m (vo u (Q i)))) (en p m (row X i) c)) k)
 | 0 => by
  have R := hF.ring; show en p m u c = JI p m (en p m u c) 0; rw [R.Az (JV hF u c)]
 | k + 1 => by
  have R := hF.ring; rw [rsd, Jlm hF (by rw [Zf]; exact hc), Jq4 hF hc k, R.Aa (JV hF u c) (YZ hF _ k) (R.Ml _ _)]; rfl
theorem Jbm (hF : FV P M mf p m v) {f : (Nat -> Nat) -> Nat} (L : Lin p m v w f) {Q : Nat -> Nat} {u : LI} (hu : u.length = w) (hX : Ann p m f X) : ∀ k, k <= X.length -> f (en p m (rsd p m v Q X u k)) = f (en p m u)
 | 0, _ => rfl
 | k + 1, hk => by
  have R := hF.ring; rw [rsd, L.adx hF (by rw [Zf]; exact hu), hX k (by omega), R.M0 (JS (by have := R.q2; omega) _), R.Az (L.lt _), Jbm hF L hu hX k (by omega)]
theorem Jng (hF : FV P M mf p m v) {l : LI} {c : Nat} (h : El p m (vo l c)) : en p m l c = 0 ↔ vo l c = 0 := by
 unfold en; constructor
 .intro h0; have := Jay h; rw [h0] at this; exact this.symm
 .intro h0; rw [h0, Jfr hF]
theorem Jdg (hF : FV P M mf p m v) {l : LI} (h : Elr p m l) (c : Nat) : El p m (vo l c) := by
 rcases Nat.lt_or_ge c l.length with hc | hc
 .exact Jcr h hc
 .rw [Jar hc]; have := hF.ring.q2; exact ⟨by omega, by exact_mod_cast (by omega : 0 < p ^ m)⟩
/-- At the pivots the reduced word is 0. -/
theorem Jh4 (hF : FV P M mf p m v) {Q : Nat -> Nat} (hlt : ∀ j, j < X.length -> Q j < w) (hone : ∀ j, j < X.length -> ∀ t, t < X.length -> vo (row X t) (Q j) = if t = j then 1 else 0) {u : LI} (hu : u.length = w) (he : Elr p m u) {j : Nat} (hj : j < X.length) : vo (rsd p m v Q X u X.length) (Q j) = 0 := by
  have R := hF.ring
  have hp : 0 < p := by have := hF.p2; omega
  have hq1 : 1 < p ^ m := by have := R.q2; omega
  refine (Jng hF (Jdg hF (Zg hp Q he _) _)).1 ?_
  rw [Jq4 hF (by rw [hu]; exact hlt j hj)]
  have e1 : inE (p ^ m) 1 = 1 := J3 (x := 1) hq1
  have hs : fs p m (fun i => Jr p m (dv p v) (inE (p ^ m) (Ng p m (vo u (Q i)))) (en p m (row X i) (Q j))) X.length = inE (p ^ m) (Ng p m (vo u (Q j))) := by
    refine (Jco hF (f := fun i => Jr p m (dv p v) (inE (p ^ m) (Ng p m (vo u (Q i)))) (en p m (row X i) (Q j))) (j := j) (R.Ml _ _) X.length hj (fun i hi hne => ?_)).trans ?_
    . show Jr p m (dv p v) _ (inE (p ^ m) (vo (row X i) (Q j))) = 0
      rw [hone j hj i hi, if_neg hne, Jfr hF, R.M0 (JS (by omega) _)]
    . show Jr p m (dv p v) _ (inE (p ^ m) (vo (row X j) (Q j))) = _
      rw [hone j hj j hj, if_pos rfl, e1, R.M1 (JS (by omega) _)]
  rw [hs]
  unfold Ng en
  rw [Jnc hF (QJ hp _), QR hp (JS (by omega) _)]
theorem Jt4 (hF : FV P M mf p m v) {Q : Nat -> Nat} (hq : Cnl w X Q) {u : LI} (hu : u.length = w) (he : Elr p m u) {j : Nat} (hj : j < X.length) : vo (rsd p m v Q X u X.length) (Q j) = 0 := Jh4 hF hq.lt hq.one hu he hj
/-- u is a combination of the rows: what takes the rows to 0 takes u to 0. -/
def Sp (p m v w : Nat) (X : LL) (u : LI) : Prop := ∀ f, Lin p m v w f -> Ann p m f X -> f (en p m u) = 0
theorem sp_rsd (hF : FV P M mf p m v) (hs : shp C X) (he : Els p m X) {Q : Nat -> Nat} (hq : Cnl C.toNat X Q) {u : LI} (hu : u.length = C.toNat) (hue : Elr p m u) : Sp p m v C.toNat X u ↔ ∀ c, c < C.toNat -> vo (rsd p m v Q X u X.length) c = 0 := by
 have R := hF.ring; have hp : 0 < p := by have := hF.p2; omega
 obtain ⟨hX, hP⟩ := Ju4 hF hs he hq; constructor
 .intro h c hc; refine (Jng hF (Jdg hF (Zg hp Q hue _) _)).1 ?_; rw [Ju0 hF hs he (a := en p m (rsd p m v Q X u X.length)) (JV hF _) (fun f L hf => by
   rw [hX] at hf; rw [Jbm hF L hu hf X.length (Nat.le_refl _)]; exact h f L hf) hc]
  refine Jbt hF _ fun i hi => ?_; have hi' : i < X.length := by rw [hP] at hi; simpa using hi
  have e : (vo (JP p m v C X) i).toNat = Q i := by rw [hP, Jf6 hi']; simp
  rw [e, hX]; have : en p m (rsd p m v Q X u X.length) (Q i) = 0 := (Jng hF (Jdg hF (Zg hp Q hue _) _)).2 (Jt4 hF hq hu hue hi'); rw [this, R.Mc (by have := R.q2; omega) (JV hF _ _), R.M0 (JV hF _ _)]
 .intro h f L hf; rw [<- Jbm hF L hu hf X.length (Nat.le_refl _) (Q := Q)]; exact Jiv hF L fun c hc => (Jng hF (Jdg hF (Zg hp Q hue _) _)).2 (h c hc)
end Go.Proofs.Ytjgpkljepgcekaa
namespace Go.Proofs.Ytjgpkljepgcekaa
/-! ### the checks of a space -/
variable {P M : Int} {mf : LI} {p m v g : Nat} {C : Int} {X Y : LL} {F : GFv}
theorem Jto {l : LI} {pf : Int -> (Bool -> Prop) -> Prop} {f : Int -> Bool} {Q : Int -> Prop} (hl : l.length <= 1000000) (hp : ∀ x (R : Bool -> Prop), R (f x) -> pf x R)
  (h1 : ∀ k : Nat, k < l.length -> f (vo l k) = true -> (∀ j, j < k -> f (vo l j) = false) -> Q (k : Int)) (h2 : (∀ j, j < l.length -> f (vo l j) = false) -> Q (-1)) : Yy l pf Q := by
 refine ⟨fun z => ∃ k : Nat, z = k /\ k <= l.length /\ ∀ j, j < k -> f (vo l j) = false, fun z => (l.length - z).toNat, ⟨0, rfl, Nat.zero_le _, fun j hj => by omega⟩, ?_⟩; rintro _ ⟨k, rfl, hk, hv⟩; dsimp only; refine ⟨fun hlt => ⟨⟨by omega, by omega⟩, hp _ _ ⟨fun hb => h1 k (by omega) hb hv, fun hb => ⟨Ju (by omega) (by omega), ⟨k + 1, by push_cast; rfl, by omega, fun j hj => ?_⟩, by omega⟩⟩⟩, fun hge => h2 fun j hj => hv j (by omega)⟩; rcases Nat.lt_or_ge j k with h | h
 .exact hv j h
 .have : j = k := by omega
  subst this; exact hb
theorem Jka {l : LI} {Q : Int -> Prop} (hl : l.length <= 1000000)
  (h1 : ∀ k : Nat, k < l.length -> vo l k ≠ 0 -> (∀ j, j < k -> vo l j = 0) -> Q (k : Int)) (h2 : (∀ j, j < l.length -> vo l j = 0) -> Q (-1)) : Yy l (fun xc Qc => Q0 xc Qc) Q :=
 Jto (f := fun x => decide (x ≠ 0)) hl (fun x R hR => hR) (fun k hk hb hv => h1 k hk (of_decide_eq_true hb) fun j hj => Classical.not_not.1 (of_decide_eq_false (hv j hj))) (fun hv => h2 fun j hj => Classical.not_not.1 (of_decide_eq_false (hv j hj)))
/-- The first entry of a canonical row. -/
theorem Cnl.lead {w : Nat} {q : Nat -> Nat} (h : Cnl w X q) {t k : Nat} (ht : t < X.length) (hk : vo (row X t) k ≠ 0) (hz : ∀ j, j < k -> vo (row X t) j = 0) : q t = k := by
  rcases Nat.lt_trichotomy (q t) k with h1 | h1 | h1
  . have := hz _ h1
    rw [h.one t ht t ht, if_pos rfl] at this; exact absurd this (by decide)
  . exact h1
  . exact absurd (h.lf t ht k h1) hk
theorem Je3 {Q : Bool -> Prop} (hs : shp C X) (h1 : IsCn C X -> Q true) (h2 : ¬ IsCn C X -> Q false) : Yj C X Q := by
 obtain ⟨hX, hC, hCe⟩ := ZD hs; have hw : ∀ t, t < X.length -> (row X t).length = C.toNat := fun t ht => Z3 hs ht; refine ⟨fun last z => ∃ t : Nat, z = t /\ t <= X.length /\ ∃ q : Nat -> Nat, (∀ i, i < t -> q i < C.toNat /\ (∀ s, s < X.length -> vo (row X s) (q i) = if s = i then 1 else 0) /\ ∀ c, c < q i -> vo (row X i) c = 0) /\ (∀ i j, i < j -> j < t -> q i < q j) /\ (t = 0 -> last = -1) /\ ∀ u, t = u + 1 -> last = (q u : Int), fun _ z => (X.length - z).toNat, ⟨0, rfl, Nat.zero_le _, fun _ => 0, fun i hi => absurd hi (Nat.not_lt_zero i), fun i j _ hj => absurd hj (Nat.not_lt_zero j), fun _ => rfl, fun u hu => by omega⟩, ?_⟩; rintro last _ ⟨t, rfl, ht, q, hq1, hq2, hl0, hl1⟩; dsimp only; refine ⟨fun hlt => ?_, fun hge => ?_⟩
 .have htl : t < X.length := by omega
  have hwt := hw t htl; refine ⟨⟨by omega, by omega⟩, ?_⟩; show Yy (row X t) _ _; have hlast : ∀ q', Cnl C.toNat X q' -> ∀ u, t = u + 1 -> last = (q' u : Int) := fun q' hq' u hu => by
   have hul : u < X.length := by omega
   have := hq'.lead (t := u) (k := q u) hul (by rw [(hq1 u (by omega)).2.1 u hul, if_pos rfl]; decide) (hq1 u (by omega)).2.2; rw [this]; exact hl1 u hu
  refine Jka (by omega) (fun k hk hne hz => ?_) (fun hz => ?_)
  .have hkq : ∀ q', Cnl C.toNat X q' -> q' t = k := fun q' hq' => hq'.lead htl hne hz; refine ⟨fun hle => h2 ?_, fun hgt => ?_⟩
   .rintro ⟨q', hq'⟩; rcases Nat.eq_zero_or_pos t with h0 | h0
    .have := hl0 h0; omega
    .have e1 := hlast q' hq' (t - 1) (by omega); have e2 := hq'.asc (t - 1) t (by omega) htl; have e3 := hkq q' hq'; omega
   .refine ⟨⟨by omega, by show (k : Int) < ((row X t).length : Nat); omega⟩, fun hn1 => h2 ?_, fun h1' => ?_⟩
    .rintro ⟨q', hq'⟩; have := hq'.one t htl t htl; rw [hkq q' hq', if_pos rfl] at this; exact hn1 this
    .have hone : vo (row X t) k = 1 := Classical.not_not.1 h1'; refine ⟨fun z => ∃ u : Nat, z = u /\ u <= X.length /\ ∀ j, j < u -> j ≠ t -> vo (row X j) k = 0, fun z => (X.length - z).toNat, ⟨0, rfl, Nat.zero_le _, fun j hj => absurd hj (Nat.not_lt_zero j)⟩, ?_⟩; rintro _ ⟨u, rfl, hu, hju⟩; dsimp only; refine ⟨fun hlt2 => ?_, fun hge2 => ?_⟩
     .have hul : u < X.length := by omega
      have hwu := hw u hul; refine ⟨fun _ => u = t ∨ vo (row X u) k = 0, ⟨⟨by omega, by omega⟩, fun hne2 => ⟨⟨by omega, by show (k : Int) < ((row X u).length : Nat); omega⟩, fun hnz => h2 ?_, fun hz2 => .inr (Classical.not_not.1 hz2)⟩, fun he => .inl (by have := Classical.not_not.1 he; omega)⟩, ?_⟩
      .rintro ⟨q', hq'⟩; have := hq'.one t htl u hul; rw [hkq q' hq', if_neg (by omega)] at this; exact hnz this
      .intro b hb; refine ⟨Ju (by omega) (by omega), ⟨u + 1, by push_cast; rfl, by omega, fun j hj hne2 => ?_⟩, by omega⟩; rcases Nat.lt_or_ge j u with h | h
       .exact hju j h hne2
       .have : j = u := by omega
        subst this; exact hb.resolve_left hne2
     .obtain ⟨q2, e1, e2⟩ : ∃ q2 : Nat -> Nat, q2 t = k /\ ∀ i, i ≠ t -> q2 i = q i := ⟨fun i => if i = t then k else q i, if_pos rfl, fun i h => if_neg h⟩
      refine ⟨Ju (by omega) (by omega), ⟨t + 1, by push_cast; rfl, by omega, q2, fun i hi => ?_, fun i j hij hj => ?_, fun h0 => by omega, fun u hu => ?_⟩, by omega⟩
      .by_cases hit : i = t
       .subst hit; rw [e1]; refine ⟨by omega, fun s hs' => ?_, fun c hc => hz c hc⟩; by_cases hsi : s = i
        .subst hsi; rw [if_pos rfl]; exact hone
        .rw [if_neg hsi]; exact hju s (by omega) hsi
       .rw [e2 i hit]; exact hq1 i (by omega)
      .have hit : i ≠ t := by omega
       rw [e2 i hit]; by_cases hjt : j = t
       .subst hjt; rw [e1]; have hlu := hl1 (j - 1) (by omega); have : q i <= q (j - 1) := by
         rcases Nat.lt_or_ge i (j - 1) with h | h
         .exact Nat.le_of_lt (hq2 i (j - 1) h (by omega))
         .have : i = j - 1 := by omega
          rw [this]; exact Nat.le_refl _
        omega
       .rw [e2 j hjt]; exact hq2 i j hij (by omega)
      .have : u = t := by omega
       subst this; rw [e1]
  .have hge : (-1 : Int) <= last := by
    rcases Nat.eq_zero_or_pos t with h0 | h0
    .rw [hl0 h0]; exact Int.le_refl _
    .have := hl1 (t - 1) (by omega); omega
   refine ⟨fun _ => h2 ?_, fun hgt => absurd hge hgt⟩; rintro ⟨q', hq'⟩; have := hq'.one t htl t htl; rw [hz (q' t) (by have := hq'.lt t htl; omega), if_pos rfl] at this; exact absurd this (by decide)
 .have : t = X.length := by omega
  subst this; exact h1 ⟨q, fun i hi => (hq1 i hi).1, fun i hi t ht => (hq1 i hi).2.1 t ht, fun i hi => (hq1 i hi).2.2, hq2⟩
open Classical in
/-- the error of a space -/
noncomputable def sck (P M : Int) (mf : LI) (C : Int) (X : LL) : Int := if mck P M mf C X ≠ 0 then mck P M mf C X else if IsCn C X then 0 else 5
theorem sck_no (h : mck P M mf C X ≠ 0) : sck P M mf C X = mck P M mf C X := if_pos h
theorem sck_nc (h : mck P M mf C X = 0) (h2 : ¬ IsCn C X) : sck P M mf C X = 5 := by unfold sck; rw [if_neg (fun hh => hh h), if_neg h2]
theorem Jqx (h : mck P M mf C X = 0) (h2 : IsCn C X) : sck P M mf C X = 0 := by unfold sck; rw [if_neg (fun hh => hh h), if_pos h2]
theorem Jhl {Q : Int -> Prop} (h : Q (sck P M mf C X)) : ZU P M mf C X Q := by
 refine Jdp ⟨fun hne => by rw [sck_no hne] at h; exact h, fun he => ?_⟩; have h0 : mck P M mf C X = 0 := Classical.not_not.1 he; obtain ⟨hV, hs, hE⟩ := Jiu h0; refine Je3 hs (fun hc => ?_) (fun hc => ?_)
 .rw [Jqx h0 hc] at h; exact ⟨fun hb => (by cases hb), fun _ => h⟩
 .rw [sck_nc h0 hc] at h; exact ⟨fun _ => h, fun hb => by cases hb⟩
end Go.Proofs.Ytjgpkljepgcekaa
namespace Go.Proofs.Ytjgpkljepgcekaa
/-! ### pivots, reduced words -/
variable {P M : Int} {mf : LI} {p m v g : Nat} {C : Int} {X Y : LL} {F : GFv}
def pvl (q : Nat -> Nat) (n : Nat) : LI := (List.range n).map fun i => ((q i : Nat) : Int)
theorem Jbn (q : Nat -> Nat) (n : Nat) : (pvl q n).length = n := by simp [pvl]
theorem Jqb {q : Nat -> Nat} {n i : Nat} (h : i < n) : vo (pvl q n) i = (q i : Int) := Jf6 h
theorem Jp4 {q : Nat -> Nat} {Q : LI -> Prop} (hs : shp C X) (hq : Cnl C.toNat X q) (h : Q (pvl q X.length)) : ZW C X Q := by
 obtain ⟨hX, hC, hCe⟩ := ZD hs; refine ⟨⟨by omega, by omega, by omega⟩, fun x z => ∃ t : Nat, z = t /\ t <= X.length /\ x.length = X.length /\ ∀ j, j < t -> vo x j = (q j : Int), fun _ z => (X.length - z).toNat, ⟨0, rfl, Nat.zero_le _, by simp, fun j hj => absurd hj (Nat.not_lt_zero j)⟩, ?_⟩; rintro x _ ⟨t, rfl, ht, hx, hj⟩; dsimp only; refine ⟨fun hlt => ?_, fun hge => ?_⟩
 .have htl : t < X.length := by omega
  refine ⟨⟨by omega, by omega⟩, ?_⟩; show Yy (row X t) _ _; refine Jka (by have := Z3 hs htl; omega) (fun k hk hne hz => ?_) (fun hz => ?_)
  .have e := hq.lead htl hne hz; refine ⟨⟨by omega, by omega⟩, Ju (by omega) (by omega), ⟨t + 1, by push_cast; rfl, by omega, by rw [Qo, List.length_set]; exact hx, fun j hj' => ?_⟩, by omega⟩; rw [Qo, Qd]; by_cases e2 : t = j
   .subst e2; rw [if_pos ⟨rfl, by omega⟩, e]
   .rw [if_neg (fun hh => e2 hh.1)]; exact hj j (by omega)
  .have h1 := hq.one t htl t htl; rw [hz (q t) (by have := hq.lt t htl; have := Z3 hs htl; omega), if_pos rfl] at h1; exact absurd h1 (by decide)
 .have : x = pvl q X.length := YB (by rw [hx, Jbn]) fun i hi => by rw [hj i (by omega), Jqb (by omega)]
  rw [this]; exact h
theorem w_Sub {x y : Int} {Q : Int -> Prop} (K : GFk F p m v g) (h : Q (Sb p m x y)) : Jn4 F x y Q := by
 refine Jmi K (v_Add K ?_); rw [J3 (QJ (by have := K.fv.p2; omega) _)]; exact h
theorem Jqa {a o : LI} {x : Int} {k : Nat} (h0 : x ≠ 0) (hk : k < a.length) : vo (sbx p m v a x o) k = if k < o.length then Sb p m (vo a k) (Ml p m v x (vo o k)) else vo a k := by
 unfold sbx; rw [if_neg h0, Jf6 hk]
theorem Jt1 (a o : LI) (x : Int) : (sbx p m v a x o).length = a.length := by
 unfold sbx; split
 .rfl
 .simp
theorem Jj7 {a o : LI} {x : Int} {Q : LI -> Prop} (K : GFk F p m v g) (hl : o.length <= a.length) (ha : a.length <= 1000000) (h : Q (sbx p m v a x o)) : Zt F a x o Q := by
 refine ⟨fun h0 => by unfold sbx at h; rwa [if_pos h0] at h, fun h0 => ?_⟩; refine ⟨fun y z => ∃ t : Nat, z = t /\ t <= o.length /\ y.length = a.length /\ ∀ k, k < a.length -> vo y k = if k < t then vo (sbx p m v a x o) k else vo a k, fun y z => (o.length - z).toNat, ⟨0, rfl, Nat.zero_le _, rfl, fun k hk => by simp⟩, ?_⟩; rintro y _ ⟨t, rfl, ht, hy, hk⟩; dsimp only; rw [JW, JW]; refine ⟨fun hlt => ⟨⟨by omega, by omega⟩, ⟨by omega, by omega⟩, _, Jhu K rfl, _, w_Sub K rfl, ⟨by omega, by omega⟩, Ju (by omega) (by omega), ⟨t + 1, by push_cast; rfl, by omega, by rw [Qo, List.length_set]; exact hy, fun k hk' => ?_⟩, by omega⟩, fun hge => ?_⟩
 .rw [Qo, Qd]; by_cases e : t = k
  .subst e; rw [if_pos ⟨rfl, by omega⟩, if_pos (by omega), Jqa h0 hk', if_pos (by omega), hk t hk', if_neg (by omega)]; rfl
  .rw [if_neg (fun h => e h.1), hk k hk']; by_cases hkt : k < t
   .rw [if_pos hkt, if_pos (by omega)]
   .rw [if_neg hkt, if_neg (by omega)]
 .have : y = sbx p m v a x o := YB (by rw [hy, Jt1]) fun k hk' => by
   rw [hk k (by omega)]; split
   .rfl
   .rw [Jqa h0 (by omega), if_neg (by omega)]
  rw [this]; exact h
theorem Jp3 {l : LL} {q : Nat -> Nat} {Q : LL -> Prop} (hF : FV P M mf p m v) (hs : shp C X) (hq : Cnl C.toNat X q) (hl : l.length <= 1000) (hw : ∀ t, t < l.length -> (row l t).length = C.toNat) (hE : Els p m l)
  (h : Q (l.map fun u => rsd p m v q X u X.length)) : ZV P M mf C X l Q := by
 obtain ⟨hX, hC, hCe⟩ := ZD hs; refine Jql (fun hV => absurd ⟨p, m, v, hF⟩ hV) fun F p' m' v' g' K e1 e2 e3 => ?_; have hF' : FV P M mf p' m' v' := by rw [<- e1, <- e2, <- e3]; exact K.fv
 obtain ⟨rfl, rfl, rfl⟩ := hF.uniq3 hF'; have hp : 0 < p := by have := hF.p2; omega
 refine Jp4 hs hq ?_; refine ⟨⟨by omega, by omega, by omega⟩, fun x z => ∃ t : Nat, z = t /\ t <= l.length /\ x.length = l.length /\ ∀ j, j < t -> row x j = rsd p m v q X (row l j) X.length, fun _ z => (l.length - z).toNat, ⟨0, rfl, Nat.zero_le _, by simp, fun j hj => absurd hj (Nat.not_lt_zero j)⟩, ?_⟩; rintro x _ ⟨t, rfl, ht, hx, hj⟩; dsimp only; refine ⟨fun hlt => ?_, fun hge => ?_⟩
 .have htl : t < l.length := by omega
  have hwt := hw t htl; have hgl : gl l (t : Int) = row l t := rfl; rw [hgl]; refine ⟨⟨by omega, by omega⟩, Z2 (by omega) ⟨⟨by omega, by omega⟩, ?_⟩⟩; refine ⟨fun y z => ∃ s : Nat, z = s /\ s <= X.length /\ y.length = l.length /\ row y t = rsd p m v q X (row l t) s /\ ∀ j, j < t -> row y j = row x j, fun _ z => (X.length - z).toNat, ⟨0, rfl, Nat.zero_le _, by rw [Jgc]; exact hx, ?_, fun j hj' => ?_⟩, ?_⟩
  .show row (x.set t (row l t)) t = _; rw [QI, if_pos ⟨rfl, by omega⟩]; rfl
  .show row (x.set t (row l t)) j = _; rw [QI, if_neg (fun hh => by omega)]
  rintro y _ ⟨s, rfl, hsx, hy, hyt, hyj⟩; dsimp only; refine ⟨fun hlt2 => ?_, fun hge2 => ?_⟩
  .have hsl : s < X.length := by rw [Jbn] at hlt2; omega
   have e : gi (pvl q X.length) (s : Int) = (q s : Int) := Jqb hsl; have hqs := hq.lt s hsl; rw [e]; refine ⟨⟨by omega, by rw [Jbn]; omega⟩, ⟨by omega, by omega⟩, ⟨by omega, by omega⟩, ⟨by omega, by omega⟩, ?_⟩; have e4 : gi (row l t) (q s : Int) = vo (row l t) (q s) := rfl; have e5 : gl X (s : Int) = row X s := rfl; have e6 : gl y (t : Int) = row y t := rfl; rw [e4, e5, e6]; have hrow : (row X s).length = C.toNat := Z3 hs hsl; have hyl : (row y t).length = C.toNat := by rw [hyt, Zf]; exact hwt
   have hyE : Elr p m (row y t) := by rw [hyt]; exact Zg hp q (QK hE t) s
   refine Jj7 K (by omega) (by omega) ?_; have hx1 : El p m (vo (row l t) (q s)) := Jcr (QK hE t) (by omega); rw [Jt2 hF hyE hx1, hyt]; refine ⟨Ju (by omega) (by omega), ⟨s + 1, by push_cast; rfl, by omega, by rw [Jgc]; exact hy, ?_, fun j hj' => ?_⟩, by rw [Jbn] at hlt2; omega⟩
   .show row (y.set t _) t = _; rw [QI, if_pos ⟨rfl, by omega⟩]; rfl
   .show row (y.set t _) j = _; rw [QI, if_neg (fun hh => by omega)]; exact hyj j hj'
  .rw [Jbn] at hge2; have hsx' : s = X.length := by omega
   subst hsx'; refine ⟨Ju (by omega) (by omega), ⟨t + 1, by push_cast; rfl, by omega, hy, fun j hj' => ?_⟩, by omega⟩; by_cases e : j = t
   .subst e; exact hyt
   .rw [hyj j (by omega)]; exact hj j (by omega)
 .have : x = l.map fun u => rsd p m v q X u X.length := Yw (by simp [hx]) fun i hi => by
   rw [hj i (by omega)]; unfold row; rw [List.getD_eq_getElem?_getD, List.getD_eq_getElem?_getD, List.getElem?_map, List.getElem?_eq_getElem (by omega : i < l.length)]; rfl
  rw [this]; exact h
def zr (u : LI) : Prop := ∀ c, c < u.length -> vo u c = 0
theorem Joa {l : LL} {Q : Bool -> Prop} (hl : l.length <= 1000000) (hw : ∀ t, t < l.length -> (row l t).length <= 1000000) (h1 : (∀ t, t < l.length -> zr (row l t)) -> Q true) (h2 : (¬ ∀ t, t < l.length -> zr (row l t)) -> Q false) : Jai l Q := by
 refine ⟨fun z => ∃ t : Nat, z = t /\ t <= l.length /\ ∀ j, j < t -> zr (row l j), fun z => (l.length - z).toNat, ⟨0, rfl, Nat.zero_le _, fun j hj => absurd hj (Nat.not_lt_zero j)⟩, ?_⟩; rintro _ ⟨t, rfl, ht, hj⟩; dsimp only; refine ⟨fun hlt => ⟨⟨by omega, by omega⟩, ?_⟩, fun hge => h1 fun j hj' => hj j (by omega)⟩; have htl : t < l.length := by omega
 show QX (row l t) _ _; refine Jka (hw t htl) (fun k hk hne _ => ⟨fun _ => h2 fun hz => hne (hz t htl k hk), fun hb => ?_⟩) (fun hz => ⟨fun hb => absurd (of_decide_eq_true hb) (by decide), fun _ => ⟨Ju (by omega) (by omega), ⟨t + 1, by push_cast; rfl, by omega, fun j hj' => ?_⟩, by omega⟩⟩)
 .have := of_decide_eq_false hb; omega
 .rcases Nat.lt_or_ge j t with h | h
  .exact hj j h
  .rw [show j = t by omega]; exact hz
end Go.Proofs.Ytjgpkljepgcekaa
namespace Go.Proofs.Ytjgpkljepgcekaa
/-! ### two spaces: inclusion, quotient -/
variable {P M : Int} {mf : LI} {p m v g : Nat} {C Ca Cb : Int} {X Y a b : LL} {F : GFv}
/-- What is known of a space over a field. -/
structure Sg (P M : Int) (mf : LI) (p m v : Nat) (C : Int) (X : LL) (q : Nat -> Nat) : Prop where
  f : FV P M mf p m v
  s : shp C X
  e : Els p m X
  q : Cnl C.toNat X q
theorem Sg.mk0 {q : Nat -> Nat} (G : Sg P M mf p m v C X q) : mck P M mf C X = 0 := Jcn ⟨p, m, v, G.f⟩ G.s ((Q8 G.f).2 G.e)
theorem Sg.sck {q : Nat -> Nat} (G : Sg P M mf p m v C X q) : sck P M mf C X = 0 := Jqx G.mk0 ⟨q, G.q⟩
theorem Jqu {l : LL} (hC : 0 <= C /\ C <= 256) (hl : l.length <= 256) (hw : ∀ t, t < l.length -> (row l t).length = C.toNat) : shp C l := by
 unfold shp; refine ⟨hC.1, hC.2, by omega, fun r hr => ?_⟩; obtain ⟨t, ht, rfl⟩ := Jde hr; have := hw t ht; omega
theorem shp_C (hs : shp C X) : 0 <= C /\ C <= 256 := by have := ZD hs; omega
end Go.Proofs.Ytjgpkljepgcekaa
