/- Contracts of functions of the program, and what they lean on: V3, V4, V5, V6, M1, M2, M3, M4, M5, M6, M7, M8, M9, M10, M11, M12, M13, M14, M15, M16, M17, M18, M19, M20, M21, M22, M23, M24, S1, S2, S3, S4. -/
import Derived.Test.YtgjloioccgcceaaGreatCombineSumsG7
set_option linter.unusedVariables false
set_option linter.unusedSimpArgs false
namespace Go.Proofs.YtgjloioccgcceaaGreat
theorem Jbh {p m : Nat} {r : LI} {u : Vec} (hp : 0 < p) (hl : r.length = m) (hv : ∀ i, i < m -> vo r i = u i % (p : Int)) : r = dgi p m (nm p m u) :=
  YR (by rw [hl, JZ]) fun i hi => by rw [hv i (by omega), QY (by omega), Jnb hp _ (by omega)]
theorem Jc9 (p i : Nat) (l : LI) (n : Nat) (h : i < n) : vl p (i + 1) (fun t => vo l (n - (i + 1) + t)) = vo l (n - (i + 1)) + (p : Int) * vl p i (fun t => vo l (n - i + t)) := by
 show vo l (n - (i + 1) + 0) + (p : Int) * vl p i (fun t => vo l (n - (i + 1) + (t + 1))) = _; rw [Nat.add_zero]; have : (fun t => vo l (n - (i + 1) + (t + 1))) = fun t => vo l (n - i + t) := by
  funext t; rw [show n - (i + 1) + (t + 1) = n - i + t by omega]
 rw [this]
theorem Jda {p : Nat} {l : LI} {n i : Nat} (hp : 2 <= p) (hc : Cn p n (vo l)) (hq : p ^ n <= 256) (hi : i <= n) : 0 <= vl p i (fun t => vo l (n - i + t)) /\ vl p i (fun t => vo l (n - i + t)) < 256 := by
 have h1 := Jmd (p := p) (n := i) (v := fun t => vo l (n - i + t)) (by omega) (fun t ht => hc (n - i + t) (by omega)); have h2 := Qu (p := p) (by omega) hi; omega
theorem Jf4 {p : Nat} {l : LI} {Q : Int -> Prop} (hp : 2 <= p) (hp2 : p <= 256) (hc : Cn p l.length (vo l)) (hq : p ^ l.length <= 256) (h : Q (vl p l.length (vo l))) : Yx p l Q := by
 refine ⟨fun i z => i <= l.length /\ z = vl p i (fun t => vo l (l.length - i + t)), ⟨Nat.zero_le _, rfl⟩, ?_, ?_⟩
 .rintro i hi _ ⟨_, rfl⟩; have h1 := Jda hp hc hq (i := i) (by omega); have h2 := Jda hp hc hq (i := i + 1) (by omega); rw [Jc9 p i l l.length hi] at h2; have h3 := ZK (a := vl p i (fun t => vo l (l.length - i + t))) (b := p) (p := 256) (by omega) ⟨h1.1, by omega⟩ ⟨by omega, by omega⟩; rw [show ((l.length - 1 - i : Nat) : Int) = ((l.length - (i + 1) : Nat) : Int) by omega, JP]; refine ⟨Js (by omega) (by omega), ?_, by omega, ?_⟩
  .rw [Int.mul_comm, Int.add_comm]; exact Js (by omega) (by omega)
  .rw [Jc9 p i l l.length hi, Int.mul_comm, Int.add_comm]
 .rintro _ ⟨_, rfl⟩; have : (fun t => vo l (l.length - l.length + t)) = vo l := by funext t; rw [Nat.sub_self, Nat.zero_add]
  rw [this]; exact h
theorem Jsm {p : Nat} {M : Int} {mf l : LI} {Q : Int -> Prop} (hp : 2 <= p) (hp2 : p <= 256) (hl : l.length <= 1000) (hc : Cn p l.length (vo l)) (hq : p ^ l.length <= 256) (h : Q (vl p l.length (vo l))) : YD p M mf l Q := by
 refine ⟨Js (by omega) (by omega), fun z j => ∃ i : Nat, j = (l.length : Int) - 1 - i /\ i <= l.length /\ z = vl p i (fun t => vo l (l.length - i + t)), fun z j => (j + 1).toNat, ⟨0, by omega, Nat.zero_le _, rfl⟩, ?_⟩; rintro _ _ ⟨i, rfl, hi, rfl⟩; dsimp only; refine ⟨fun hge => ?_, fun hlt => ?_⟩
 .have h1 := Jda hp hc hq (i := i) (by omega); have h2 := Jda hp hc hq (i := i + 1) (by omega); rw [Jc9 p i l l.length (by omega)] at h2; have h3 := ZK (a := vl p i (fun t => vo l (l.length - i + t))) (b := p) (p := 256) (by omega) ⟨h1.1, by omega⟩ ⟨by omega, by omega⟩; rw [show (l.length : Int) - 1 - i = ((l.length - (i + 1) : Nat) : Int) by omega, JP]; refine ⟨Js (by omega) (by omega), ⟨by omega, by omega⟩, ?_, Js (by omega) (by omega), ⟨i + 1, by omega, by omega, ?_⟩, by omega⟩
  .rw [Int.mul_comm, Int.add_comm]; exact Js (by omega) (by omega)
  .rw [Jc9 p i l l.length (by omega), Int.mul_comm, Int.add_comm]
 .have hil : i = l.length := by omega
  subst hil; have : (fun t => vo l (l.length - l.length + t)) = vo l := by funext t; rw [Nat.sub_self, Nat.zero_add]
  rw [this]; exact h
theorem Jsj {p m x : Nat} (hp : 0 < p) (hx : x < p ^ m) : vl p (dgi p m x).length (vo (dgi p m x)) = (x : Int) := by
 rw [JZ, YU hx, Jsi hp hx]
namespace FV
variable {P M : Int} {mf : LI} {p m v : Nat} (F : FV P M mf p m v)
include F
theorem p2 : 2 <= p := F.pr.two
theorem pq : p <= p ^ m := by
 have := Qu (p := p) (by have := F.pr.two; omega) F.m0
 rwa [show p ^ (0 + 1) = p from Nat.pow_one p] at this
theorem p256 : p <= 256 := Nat.le_trans F.pq F.q
theorem m8 : m <= 8 := by
 rcases Nat.lt_or_ge 8 m with h1 | h1
 .have e1 : 2 ^ 9 <= p ^ 9 := Nat.pow_le_pow_left F.p2 9; have e2 := Qu (p := p) (by have := F.p2; omega) (show 9 <= m by omega); have := F.q; omega
 .exact h1
theorem ring : CR (p ^ m) (Qy p m) (JE p m (dv p v)) := Jl9 _ F.p2 F.m0
theorem gen : ∃ g, Gn (p ^ m) (JE p m (dv p v)) g := gen_ex F.pr F.m0 F.q F.vlt (fun h => (F.m1 h).2) F.irr
end FV
def sh (v : Vec) : Vec := fun i => if i = 0 then 0 else v (i - 1)
theorem Jst {m : Nat} {c v : Vec} {i : Nat} (hi : i < m) : tX m c v i = sh v i - c i * v (m - 1) := by simp only [tX, if_pos hi, sh]
theorem Jsk {P M : Int} {mf : LI} {p m v : Nat} (F : FV P M mf p m v) {x : Nat} {Q : LI -> Prop} (hx : x < p ^ m) (h : Q (dgi p m (nm p m (tX m (dv p v) (dv p x))))) : Jbl P M mf (dgi p m x) Q := by
 have hp := F.p2; have hp2 := F.p256; have hm0 := F.m0; have hm8 := F.m8; rw [F.eP, F.eM]; have hlen := JZ p m x; have hcx := Jfu (p := p) (by omega) x m; refine ⟨Js (by omega) (by omega), ⟨by omega, by omega⟩, ⟨by omega, by omega⟩, ⟨by omega, by omega⟩, ?_⟩; generalize hA : (si ((dgi p m x).take ((1 : Int).toNat) ++ (dgi p m x).take (min (dgi p m x).length ((dgi p m x).length - ((1 : Int).toNat))) ++ (dgi p m x).drop ((1 : Int).toNat + (min (dgi p m x).length ((dgi p m x).length - ((1 : Int).toNat))))) (0 : Int) (0 : Int)) = A; have hAl : A.length = m := by
  rw [<- hA]; show (List.set _ _ _).length = m; rw [List.length_set]; simp only [List.length_append, List.length_take, List.length_drop, hlen]; show min 1 m + min (min m (m - 1)) m + (m - (1 + min m (m - 1))) = m; omega
 have hAv : ∀ i, i < m -> vo A i = sh (dv p x) i := fun i hi => by
  unfold sh; rw [<- hA]; show vo (List.set _ 0 0) i = _; rw [Qe]; by_cases h0 : i = 0
  .subst h0; rw [if_pos ⟨rfl, by simp only [List.length_append, List.length_take, hlen]; show 0 < min 1 m + _ + _; omega⟩, if_pos rfl]
  .rw [if_neg (fun h => h0 h.1.symm), if_neg h0]; have e1 : ((dgi p m x).take ((1 : Int).toNat)).length = 1 := by rw [List.length_take, hlen]; show min 1 m = 1; omega
   have e2 : (min (dgi p m x).length ((dgi p m x).length - ((1 : Int).toNat))) = m - 1 := by rw [hlen]; show min m (m - 1) = m - 1; omega
   rw [e2]; have e3 : ((dgi p m x).take (m - 1)).length = m - 1 := by rw [List.length_take, hlen]; omega
   unfold vo; rw [List.getD_eq_getElem?_getD, List.append_assoc, List.getElem?_append_right (by omega), e1, List.getElem?_append_left (by omega), List.getElem?_take, if_pos (by omega)]; have := QY (p := p) (x := x) (i := i - 1) (n := m) (by omega); unfold vo at this; rw [List.getD_eq_getElem?_getD] at this; exact this
 rw [show (m : Int) - 1 = ((m - 1 : Nat) : Int) by omega, JP, QY (by omega)]; have hshift : ∀ i, i < m -> 0 <= sh (dv p x) i /\ sh (dv p x) i < p := fun i hi => by
  unfold sh; split
  .omega
  .exact hcx (i - 1) (by omega)
 refine ⟨fun h0 => ?_, fun h0 => ?_⟩
 .rw [Jbh (p := p) (u := tX m (dv p v) (dv p x)) (by omega) hAl fun i hi => ?_]
  .exact h
  .have := hshift i hi; rw [hAv i hi]; rw [Jst hi, h0, Int.mul_zero, Int.sub_zero, Int.emod_eq_of_lt this.1 this.2]
 .have hml : mf.length <= m := by
   by_cases hm1 : m = 1
   .rw [(F.m1 hm1).1]; simp
   .rw [F.m2 hm1, JZ]; omega
  have hcv := Jfu (p := p) (by omega) v m; have ht := hcx (m - 1) (by omega); refine ⟨fun l z => ∃ k : Nat, z = k /\ k <= mf.length /\ l.length = m /\ ∀ i, i < m -> vo l i = if i < k then tX m (dv p v) (dv p x) i % (p : Int) else vo A i, fun l z => (mf.length - z).toNat, ⟨0, rfl, Nat.zero_le _, hAl, fun i hi => by rw [if_neg (by omega)]⟩, ?_⟩; rintro l _ ⟨k, rfl, hk, hl, hv⟩; dsimp only; rw [JP, JP, Qs, F.vo]; refine ⟨fun hlt => ?_, fun hge => ?_⟩
  .have c1 := hcv k (by omega); have c2 := hshift k (by omega); have c3 := ZK (a := (p : Int) - dv p v k) (b := dv p x (m - 1)) hp2 ⟨by omega, by omega⟩ ⟨ht.1, by omega⟩; rw [hv k (by omega), if_neg (by omega), hAv k (by omega)]; refine ⟨⟨by omega, by omega⟩, ⟨by omega, by omega⟩, Js (by omega) (by omega), Js (by omega) (by omega), Js (by omega) (by omega), by omega, ⟨by omega, by omega⟩, Js (by omega) (by omega), ⟨k + 1, by push_cast; rfl, by omega, by rw [List.length_set, hl], fun i hi => ?_⟩, by omega⟩; rw [Qe]; by_cases hki : k = i
   .subst hki; rw [if_pos ⟨rfl, by omega⟩, if_pos (by omega), Jga (by omega) c2.1 (by omega) ht.1, Jst hi]
   .rw [if_neg (fun h => hki h.1), hv i hi]; by_cases hik : i < k
    .rw [if_pos hik, if_pos (by omega)]
    .rw [if_neg hik, if_neg (by omega)]
  .rw [Jbh (p := p) (u := tX m (dv p v) (dv p x)) (by omega) hl fun i hi => ?_]
   .exact h
   .rw [hv i hi]; by_cases hik : i < k
    .rw [if_pos hik]
    .rw [if_neg hik]; have hm1 : m = 1 := by
      by_cases hm1 : m = 1
      .exact hm1
      .rw [F.m2 hm1, JZ] at hge hk; omega
     have hi0 : i = 0 := by omega
     rw [hAv i hi, Jst hi, (F.m1 hm1).2, Jep]; subst hi0; simp [sh, vz]
theorem hz_z {m : Nat} {c b y : Vec} {n : Nat} : ∀ {k : Nat}, k <= n -> (∀ i, n - k <= i -> i < n -> b i = 0) -> hz m c b y n k = vz
 | 0, _, _ => rfl
 | k + 1, hk, h => by
  show JX (tX m c (hz m c b y n k)) (vsm (b (n - 1 - k)) y) = vz; rw [hz_z (k := k) (by omega) (fun i h1 h2 => h i (by omega) h2), h (n - 1 - k) (by omega) (by omega), tX_z]; funext i; simp [JX, vsm, vz]
theorem hz_sup {m : Nat} {c b y : Vec} {n : Nat} (hy : Sup m y) : ∀ k, Sup m (hz m c b y n k)
 | 0 => Sup.z
 | k + 1 => Sup.add Sup.tX hy.sm
theorem rep_z (p m : Nat) : List.replicate m (0 : Int) = dgi p m 0 := YR (by simp [JZ]) fun i hi => by
 rw [Jj7, QY (by simpa using hi), Jep]; rfl
theorem nm_z {p m : Nat} (hp : 0 < p) : nm p m vz = 0 := by rw [<- Jep p, Jaj hp (Nat.pow_pos hp)]
theorem Jn1 {P M : Int} {mf : LI} {p m v : Nat} (F : FV P M mf p m v) {o : LI} {x y : Nat} {Q : LI -> Prop} (ho : o.length = m) (hx : x < p ^ m) (hy : y < p ^ m) (h : Q (dgi p m (JE p m (dv p v) x y))) : Z9 P M mf o (dgi p m x) (dgi p m y) Q := by
 have hp := F.p2; have hp2 := F.p256; have hm0 := F.m0; have hm8 := F.m8; obtain rfl := F.eP; obtain rfl := F.eM; have hlx := JZ p m x; have hly := JZ p m y; have hcx := Jfu (p := p) (by omega) x m; have hcy := Jfu (p := p) (by omega) y m; refine ⟨Js (by omega) (by omega), fun z => ∃ k : Nat, z = k /\ k < m /\ ∀ i, k < i -> i < m -> dv p y i = 0, ⟨fun z => ∃ k : Nat, z = k /\ k < m /\ ∀ i, k < i -> i < m -> dv p y i = 0, fun z => z.toNat, ⟨m - 1, by omega, by omega, fun i h1 h2 => by omega⟩, ?_⟩, ?_⟩
 .rintro _ ⟨k, rfl, hk, hzz⟩; dsimp only; refine ⟨fun hlt => ⟨⟨by omega, by omega⟩, fun h0 => ⟨Js (by omega) (by omega), ⟨k - 1, by omega, by omega, fun i h1 h2 => ?_⟩, by omega⟩, fun _ => ⟨k, rfl, hk, hzz⟩⟩, fun _ => ⟨k, rfl, hk, hzz⟩⟩; rw [JP, QY hk] at h0; by_cases hik : i = k
  .subst hik; exact h0
  .exact hzz i (by omega) h2
 .rintro _ ⟨k0, rfl, hk0, hzz⟩; refine ⟨fun l z => ∃ k : Nat, z = (m : Int) - 1 - k /\ k <= m /\ l = dgi p m (nm p m (hz m (dv p v) (dv p y) (dv p x) m k)), fun l z => (z + 1).toNat, ⟨m - 1 - k0, by omega, by omega, ?_⟩, ?_⟩
  .rw [hz_z (by omega) (fun i h1 h2 => hzz i (by omega) h2), nm_z (by omega), ho, rep_z p m]
  .rintro _ _ ⟨k, rfl, hk, rfl⟩; dsimp only; refine ⟨fun hge => Jsk F (Jai (by omega) _) ?_, fun hlt => ?_⟩
   .have hs := hz_sup (c := dv p v) (b := dv p y) (n := m) (Yb hx) k; rw [YT (vcg.tX (vcg.refl _) (Jjn (by omega) hs))]; generalize hT : tX m (dv p v) (hz m (dv p v) (dv p y) (dv p x) m k) = T; have hnT := Jai (p := p) (m := m) (by omega) T; refine ⟨fun l z => ∃ t : Nat, z = t /\ t <= m /\ l.length = m /\ ∀ i, i < m -> vo l i = if i < t then (T i + dv p y (m - 1 - k) * dv p x i) % (p : Int) else T i % (p : Int), fun l z => (m - z).toNat, ⟨0, rfl, Nat.zero_le _, JZ _ _ _, fun i hi => by rw [if_neg (by omega), QY hi, Jnb (by omega) _ hi]⟩, ?_⟩; rintro l _ ⟨t, rfl, ht, hl, hv⟩; dsimp only; rw [show (m : Int) - 1 - k = ((m - 1 - k : Nat) : Int) by omega, JP, JP, JP, Qs]; rw [hlx]; refine ⟨fun hlt => ?_, fun hge2 => ?_⟩
    .rw [hv t (by omega), if_neg (by omega), QY (by omega), QY (by omega)]; have c1 := hcy (m - 1 - k) (by omega); have c2 := hcx t (by omega); have c3 := ZK (a := dv p y (m - 1 - k)) (b := dv p x t) hp2 ⟨c1.1, by omega⟩ ⟨c2.1, by omega⟩; have c4 : 0 <= T t % (p : Int) /\ T t % (p : Int) < p := ⟨Int.emod_nonneg _ (by omega), Int.emod_lt_of_pos _ (by omega)⟩
     refine ⟨⟨by omega, by omega⟩, ⟨by omega, by omega⟩, ⟨by omega, by omega⟩, Js (by omega) (by omega), Js (by omega) (by omega), by omega, ⟨by omega, by omega⟩, Js (by omega) (by omega), ⟨t + 1, by push_cast; rfl, by omega, by rw [List.length_set, hl], fun i hi => ?_⟩, by omega⟩; rw [Qe]; by_cases hti : t = i
     .subst hti; rw [if_pos ⟨rfl, by omega⟩, if_pos (by omega), Int.tmod_eq_emod_of_nonneg (by omega)]; exact Jch (Int.emod_emod _ _) rfl
     .rw [if_neg (fun h => hti h.1), hv i hi]; by_cases hit : i < t
      .rw [if_pos hit, if_pos (by omega)]
      .rw [if_neg hit, if_neg (by omega)]
    .refine ⟨Js (by omega) (by omega), ⟨k + 1, by omega, by omega, ?_⟩, by omega⟩; refine Jbh (by omega) hl fun i hi => ?_; rw [hv i hi, if_pos (by omega)]; show _ = (JX (tX m (dv p v) (hz m (dv p v) (dv p y) (dv p x) m k)) (vsm (dv p y (m - 1 - k)) (dv p x))) i % _; rw [hT]; rfl
   .have hkm : k = m := by omega
    subst hkm; rw [hz_all]; exact h
def pwl (M : Nat -> Nat -> Nat) (x n : Nat) : LI := (List.range n).map fun k => ((pw M x k : Nat) : Int)
theorem ZU (M : Nat -> Nat -> Nat) (x n : Nat) : (pwl M x n).length = n := by simp [pwl]
theorem Jd7 {M : Nat -> Nat -> Nat} {x n i : Nat} (h : i < n) : vo (pwl M x n) i = ((pw M x i : Nat) : Int) := by
 unfold vo pwl; rw [List.getD_eq_getElem?_getD, List.getElem?_map, List.getElem?_range h]; rfl
theorem Jtd (M : Nat -> Nat -> Nat) (x n : Nat) : pwl M x (n + 1) = pwl M x n ++ [((pw M x n : Nat) : Int)] := by simp [pwl, List.range_succ]
structure Od (M : Nat -> Nat -> Nat) (x n : Nat) : Prop where
  pos : 0 < n
  one : pw M x n = 1
  least : ∀ k, 0 < k -> k < n -> pw M x k ≠ 1
theorem Jsn {P M : Int} {mf : LI} {p m v : Nat} (F : FV P M mf p m v) {x : Nat} {Q : LI -> Prop} (h0 : 0 < x) (hx : x < p ^ m)
  (h : ∀ n, Od (JE p m (dv p v)) x n -> n <= p ^ m - 1 -> Q (pwl (JE p m (dv p v)) x n)) : Jbr P M mf x Q := by
 have hp := F.p2; have hp2 := F.p256; have hm0 := F.m0; have hm8 := F.m8; have hq := F.q; have R := F.ring; obtain ⟨g, G⟩ := F.gen; have hone := G.xone R h0 hx; have hq2 := R.q2; obtain rfl := F.eP; obtain rfl := F.eM; refine Jf3 hp hp2 fun r hr _ => ?_; rw [Int.toNat_natCast] at hr; rw [hr hq]; refine ⟨⟨by omega, by omega, by omega⟩, by omega, _, Jdy (by omega) (by omega) (by omega) rfl, _, Jdy (by omega) (by omega) (by omega) rfl, ⟨by omega, by omega, by omega⟩, ?_⟩; refine ⟨fun l z a b => ∃ k : Nat, 0 < k /\ k <= p ^ m - 1 /\ l = pwl (JE p m (dv p v)) x k /\ z = ((pw (JE p m (dv p v)) x k : Nat) : Int) /\ a = dgi p m (pw (JE p m (dv p v)) x k) /\ b.length = m /\ ∀ j, 0 < j -> j < k -> pw (JE p m (dv p v)) x j ≠ 1, fun l z a b => 300 - l.length, ⟨1, by omega, by omega, rfl, by rw [R.pw_one hx], by rw [R.pw_one hx], by simp, fun j h1 h2 => by omega⟩, ?_⟩; rintro _ _ _ b ⟨k, hk0, hk, rfl, rfl, rfl, hb, hno⟩; dsimp only; refine ⟨fun hne => ?_, fun heq => ?_⟩
 .have hkq : k < p ^ m - 1 := by
   rcases Nat.lt_or_ge k (p ^ m - 1) with hc | hc
   .exact hc
   .have : k = p ^ m - 1 := by omega
    rw [this, hone] at hne; exact absurd rfl hne
  rw [ZU]; refine ⟨by omega, ?_⟩; refine Jn1 F hb (R.pw_lt x k) hx ?_; have hlt := R.pw_lt x (k + 1); refine Jf4 hp hp2 (by rw [JZ]; exact Jcg (by omega) hlt _) (by rw [JZ]; exact hq) ?_; have hvd := Jsj (p := p) (m := m) (by omega) hlt; refine ⟨⟨k + 1, by omega, by omega, (Jtd _ _ _).symm, hvd, rfl, JZ _ _ _, fun j h1 h2 => ?_⟩, ?_⟩
  .by_cases hjk : j = k
   .subst hjk; intro e; rw [e] at hne; exact hne rfl
   .exact hno j h1 (by omega)
  .rw [List.length_append, ZU]; simp; omega
 .refine h k ⟨hk0, ?_, hno⟩ hk; have : ((pw (JE p m (dv p v)) x k : Nat) : Int) = 1 := by
   by_cases hc : ((pw (JE p m (dv p v)) x k : Nat) : Int) = 1
   .exact hc
   .exact absurd hc heq
  omega
end Go.Proofs.YtgjloioccgcceaaGreat
namespace Go.Proofs.YtgjloioccgcceaaGreat
theorem gb_nat (l : List Bool) (i : Nat) : gb l (i : Int) = l.getD i false := rfl
theorem Js5 (l : List Bool) (i : Nat) (x : Bool) : sb l (i : Int) x = l.set i x := rfl
theorem Z2 (l : List Bool) (i j : Nat) (x : Bool) : (l.set i x).getD j false = if i = j /\ i < l.length then x else l.getD j false := by
 rw [List.getD_eq_getElem?_getD, List.getD_eq_getElem?_getD, List.getElem?_set]; by_cases h : i = j
 .subst h; by_cases h2 : i < l.length
  .simp [h2]
  .simp [h2]
 .simp [h]
theorem Jvr {P M : Int} {mf : LI} {p m v : Nat} (F : FV P M mf p m v) {Q : LI -> Prop}
  (h : ∀ g, Gn (p ^ m) (JE p m (dv p v)) g -> Q (pwl (JE p m (dv p v)) g (p ^ m - 1))) : Jdl ⟨P, M, mf, ((p ^ m : Nat) : Int), [], [], []⟩ Q := by
 have hq := F.q; have R := F.ring; have hq2 := R.q2; obtain ⟨g0, G0⟩ := F.gen; generalize hqq : p ^ m = q at *
 generalize hMM : JE p m (dv p v) = Mu at *
 refine ⟨⟨by show (0 : Int) <= q; omega, by show (q : Int) * 1 <= _; omega, by show (q : Int) <= _; omega⟩, ⟨by omega, by show (0 : Int) < ((((q : Nat) : Int).toNat : Nat) : Int); omega⟩, ?_⟩; refine ⟨YS (by omega), fun i x s => s.length = q /\ s.getD 0 false = true /\ (∀ j, j < i -> ¬ Gn q Mu j) /\ ∀ j, j < q -> s.getD j false = true -> ¬ Gn q Mu j, fun x s => ∃ g, Gn q Mu g /\ x = pwl Mu g (q - 1), ?_, ?_, ?_, ?_⟩
 .have h0 : ¬ Gn q Mu 0 := fun G => by
   have := G.one; rw [R.zero_pw (by omega)] at this; omega
  dsimp only; rw [show (0 : Int) = ((0 : Nat) : Int) from rfl, Js5]; refine ⟨by rw [List.length_set, List.length_replicate]; exact Int.toNat_natCast q, ?_, fun j hj => by omega, fun j hj hs => ?_⟩
  .rw [Z2, if_pos ⟨rfl, by rw [List.length_replicate, Int.toNat_natCast]; omega⟩]
  .rw [Z2] at hs; by_cases hj0 : 0 = j
   .rw [<- hj0]; exact h0
   .rw [if_neg (fun h => hj0 h.1), List.getD_eq_getElem?_getD, List.getElem?_replicate] at hs; split at hs <;> exact absurd hs (by decide)
 .rintro i hi x s ⟨hs, hs0, hno, hsn⟩; dsimp only at hi ⊢; rw [Int.toNat_natCast] at hi; rw [gb_nat]; refine ⟨⟨by omega, by rw [Int.toNat_natCast]; omega⟩, fun hb => ⟨hs, hs0, fun j hj => ?_, hsn⟩, fun hb => ?_⟩
  .by_cases hji : j = i
   .subst hji; exact hsn j hi hb
   .exact hno j (by omega)
  .have hi0 : 0 < i := by
    rcases Nat.eq_zero_or_pos i with h0 | h0
    .subst h0; rw [hs0] at hb; exact absurd hb (by decide)
    .exact h0
   refine Jsn F hi0 (by rw [hqq]; exact hi) fun n O hn => ?_; rw [hMM] at O ⊢; rw [hqq] at hn; rw [ZU]; refine ⟨Js (by omega) (by omega), fun he => ?_, fun hne => ?_⟩
   .have hnq : n = q - 1 := by omega
    subst hnq; exact ⟨i, ⟨hi, O.one, O.least⟩, rfl⟩
   .have hnq : n < q - 1 := by omega
    have hnG : ∀ k, ¬ Gn q Mu (pw Mu i k) := fun k G => by
     have h1 : pw Mu (pw Mu i k) n = 1 := by rw [R.pw_pw hi, Nat.mul_comm, <- R.pw_pw hi, O.one, R.one_pw]
     exact G.no n O.pos hnq h1
    refine ⟨fun s' z => ∃ k : Nat, z = k /\ k <= n /\ s'.length = q /\ s'.getD 0 false = true /\ ∀ j, j < q -> s'.getD j false = true -> ¬ Gn q Mu j, fun s' z => (n - z).toNat, ⟨0, rfl, Nat.zero_le _, hs, hs0, hsn⟩, ?_⟩; rintro s' _ ⟨k, rfl, hk, hs', hs0', hsn'⟩; dsimp only; rw [JP]; refine ⟨fun hlt => ?_, fun hge => ⟨hs', hs0', fun j hj => ?_, hsn'⟩⟩
    .rw [Jd7 (by omega), Js5]; have hlt2 := R.pw_lt i k; refine ⟨⟨by omega, by omega⟩, ⟨by omega, by rw [Int.toNat_natCast]; omega⟩, Js (by omega) (by omega), ⟨k + 1, by push_cast; rfl, by omega, by rw [List.length_set, hs'], ?_, fun j hj hj2 => ?_⟩, by omega⟩
     .rw [Z2]; split
      .rfl
      .exact hs0'
     .rw [Z2] at hj2; by_cases hjk : pw Mu i k = j
      .rw [<- hjk]; exact hnG k
      .rw [if_neg (fun h => hjk h.1)] at hj2; exact hsn' j hj hj2
    .by_cases hji : j = i
     .subst hji; have := hnG 1
      rwa [R.pw_one hi] at this
     .exact hno j (by omega)
 .rintro x s ⟨hs, hs0, hno, hsn⟩; have := G0.lt; exact absurd G0 (hno g0 (by show g0 < ((q : Nat) : Int).toNat; rw [Int.toNat_natCast]; exact this))
 .rintro x s ⟨g, G, rfl⟩; exact h g G
structure GFk (F : GFv) (p m v g : Nat) : Prop where
  fv : FV F.P F.M F.mod p m v
  q : F.q = ((p ^ m : Nat) : Int)
  G : Gn (p ^ m) (JE p m (dv p v)) g
  el : F.exp.length = 2 * (p ^ m - 1)
  ev : ∀ k, k < 2 * (p ^ m - 1) -> vo F.exp k = ((pw (JE p m (dv p v)) g k : Nat) : Int)
  ll : F.log.length = p ^ m
  l0 : vo F.log 0 = -1
  lv : ∀ k, k < p ^ m - 1 -> vo F.log (pw (JE p m (dv p v)) g k) = (k : Int)
  al : F.above.length = p ^ m - 1
  av : ∀ k, k < p ^ m - 1 -> vo F.above k = vo F.log (Qy p m (pw (JE p m (dv p v)) g k) 1)
theorem Jn4 {p m x : Nat} (hp : 2 <= p) (hm : 0 < m) (hx : x < p ^ m) : (if x % p = p - 1 then x - x % p else x + 1) = Qy p m x 1 := by
 have hmd := Nat.mod_add_div x p; have hlt := Nat.mod_lt x (show 0 < p by omega); obtain ⟨n, rfl⟩ : ∃ n, m = n + 1 := ⟨m - 1, by omega⟩
 have hxd : x / p < p ^ n := by rw [Nat.div_lt_iff_lt_mul (by omega), <- Nat.pow_succ]; exact hx
 generalize hA : x / p = a at *
 generalize hR : x % p = r at *
 have key : ∀ y s, y = s + p * a -> s < p -> s = (r + 1) % p -> y = Qy p (n + 1) x 1 := fun y s hy hs hsr => by
  have hyd : y / p = a := by rw [hy, Nat.add_mul_div_left _ _ (by omega), Nat.div_eq_of_lt hs, Nat.zero_add]
  have hym : y % p = s := by rw [hy, Nat.add_mul_mod_self_left, Nat.mod_eq_of_lt hs]
  have hyl : y < p ^ (n + 1) := by
   have h1 : p * (a + 1) <= p * p ^ n := Nat.mul_le_mul_left p hxd; rw [Nat.pow_succ', hy]; rw [Nat.mul_add, Nat.mul_one] at h1; omega
  refine (nm_eq (by omega) hyl fun i hi => ?_).symm; cases i with
  | zero =>
   simp only [JX]; rw [YJ, YJ, YJ, hym, hR, Nat.mod_eq_of_lt (show 1 < p by omega), hsr]; push_cast; rfl
  | succ i =>
   simp only [JX]; rw [Zn, Zn, Zn, hyd, hA, Nat.div_eq_of_lt (show 1 < p by omega), Jep]; simp only [vz]; rw [Int.add_zero, Jao]
 by_cases hc : r = p - 1
 .rw [if_pos hc]; refine key (x - r) 0 (by omega) (by omega) ?_; rw [hc, show p - 1 + 1 = p by omega, Nat.mod_self]
 .rw [if_neg hc]; exact key (x + 1) (r + 1) (by omega) (by omega) (Nat.mod_eq_of_lt (by omega)).symm
theorem vo_app {a b : LI} {i : Nat} : vo (a ++ b) i = if i < a.length then vo a i else vo b (i - a.length) := by
 unfold vo; rw [List.getD_eq_getElem?_getD]; split
 .rename_i h
  rw [List.getElem?_append_left h, List.getD_eq_getElem?_getD]
 .rename_i h
  rw [List.getElem?_append_right (by omega), List.getD_eq_getElem?_getD]
theorem v_New {P M : Int} {mf : LI} {Q : Option GFv × Int -> Prop} (hno : ¬ Yt P M mf -> Q (none, 1)) (h : ∀ (F : GFv) (p m v g : Nat), GFk F p m v g -> F.P = P -> F.M = M -> F.mod = mf -> Q (some F, 0)) : Jnp P M mf Q := by
 refine Jme ?_; by_cases hV : Yt P M mf
 .rw [Jfv hV]; refine ⟨fun h1 => absurd rfl h1, fun _ => ?_⟩; obtain ⟨p, m, v, F⟩ := hV; obtain rfl := F.eP; obtain rfl := F.eM; have hp := F.p2; have hp2 := F.p256; have hm0 := F.m0; have hm8 := F.m8; have hq := F.q; have R := F.ring; have hq2 := R.q2; have hml : mf.length <= 1000000 := by
   by_cases hm1 : m = 1
   .rw [(F.m1 hm1).1]; simp
   .rw [F.m2 hm1, JZ]; omega
  have hJ : Jbu p m mf (fun q => match q with | (r27, r28, x29) => Zr p m mf (fun r34 => r27 = p /\ r28 = m /\ x29 = mf /\ r34 = ((p ^ m : Nat) : Int))) := Ja5 hml (Jf3 hp hp2 fun r hr _ => by
   rw [Int.toNat_natCast] at hr; exact ⟨rfl, rfl, rfl, hr hq⟩)
  refine ⟨fun a b c d => a = p /\ b = m /\ c = mf /\ d = ((p ^ m : Nat) : Int), hJ, ?_⟩; rintro _ _ _ _ ⟨rfl, rfl, rfl, rfl⟩; refine Jvr F fun g G => ?_; have hg := G.lt; generalize hqq : p ^ m = q at *
  generalize hMM : JE p m (dv p v) = Mu at *
  rw [ZU]; have hql : (List.replicate ((q : Nat) : Int).toNat (0 : Int)).length = q := by rw [List.length_replicate, Int.toNat_natCast]
  rw [Int.toNat_natCast, Int.toNat_natCast]; rw [Int.toNat_natCast] at hql; refine ⟨⟨by omega, by omega, by omega⟩, ⟨by omega, by omega, by omega⟩, ⟨by omega, by omega⟩, ?_⟩; refine ⟨fun l z => ∃ k : Nat, z = k /\ k <= q - 1 /\ l.length = q /\ vo l 0 = -1 /\ ∀ t, t < k -> vo l (pw Mu g t) = (t : Int), fun l z => (q - z).toNat, ⟨0, rfl, Nat.zero_le _, ?_, ?_, fun t ht => by omega⟩, ?_⟩
  .rw [show (0 : Int) = ((0 : Nat) : Int) from rfl, Qs, List.length_set]; exact hql
  .rw [show si (List.replicate q (0 : Int)) 0 (-1) = (List.replicate q (0 : Int)).set 0 (-1) from rfl, Qe, if_pos ⟨rfl, by rw [hql]; omega⟩]
  .rintro l _ ⟨k, rfl, hk, hl, hl0, hlv⟩; dsimp only; rw [JP]; refine ⟨fun hlt => ?_, fun hge => ?_⟩
   .rw [Jd7 (by omega), Qs]; have hlt2 := R.pw_lt g k; refine ⟨⟨by omega, by omega⟩, ⟨by omega, by omega⟩, Js (by omega) (by omega), ⟨k + 1, by push_cast; rfl, by omega, by rw [List.length_set, hl], ?_, fun t ht => ?_⟩, by omega⟩
    .rw [Qe, if_neg (fun h => G.ne0 R k h.1)]; exact hl0
    .rw [Qe]; by_cases htk : t = k
     .subst htk; rw [if_pos ⟨rfl, by rw [hl]; exact hlt2⟩]
     .rw [if_neg (fun h => G.inj R (show t < k by omega) (by omega) h.1.symm)]; exact hlv t (by omega)
   .have hkq : k = q - 1 := by omega
    subst hkq; refine ⟨⟨by omega, by omega, by omega⟩, fun a z => ∃ k : Nat, z = k /\ k <= q - 1 /\ a.length = q - 1 /\ ∀ t, t < k -> vo a t = vo l (Qy p m (pw Mu g t) 1), fun a z => (q - z).toNat, ⟨0, rfl, Nat.zero_le _, by simp, fun t ht => by omega⟩, ?_⟩; rintro a _ ⟨k, rfl, hk, hal, hav⟩; dsimp only; rw [JP]; refine ⟨fun hlt => ?_, fun hge => ?_⟩
    .rw [Jd7 (by omega)]; have hlt2 := R.pw_lt g k; have hsl := R.Al (pw Mu g k) 1; have hsf := Jn4 hp hm0 (x := pw Mu g k) (by rw [hqq]; exact hlt2); refine ⟨⟨by omega, by omega⟩, _, Jic hp hp2 (by omega) rfl, ?_⟩; rw [hsf, JP, Qs]; refine ⟨⟨by omega, by omega⟩, ⟨by omega, by omega⟩, Js (by omega) (by omega), ⟨k + 1, by push_cast; rfl, by omega, by rw [List.length_set, hal], fun t ht => ?_⟩, by omega⟩; rw [Qe]; by_cases htk : k = t
     .subst htk; rw [if_pos ⟨rfl, by omega⟩]
     .rw [if_neg (fun h => htk h.1)]; exact hav t (by omega)
    .have hkq : k = q - 1 := by omega
     subst hkq; subst hMM; subst hqq; refine h _ p m v g ⟨F, rfl, G, ?_, fun k hk2 => ?_, hl, hl0, hlv, hal, hav⟩ rfl rfl rfl
     .simp only [List.length_append, ZU]; omega
     .show vo (pwl _ g _ ++ pwl _ g _) k = _; rw [vo_app, ZU]; by_cases hkl : k < p ^ m - 1
      .rw [if_pos hkl, Jd7 hkl]
      .rw [if_neg hkl, Jd7 (by omega)]; have := G.per R (k - (p ^ m - 1)) 1; rw [Nat.mul_one, show k - (p ^ m - 1) + (p ^ m - 1) = k by omega] at this; rw [this]
 .rw [Yr hV]; exact ⟨fun _ => hno hV, fun h1 => absurd (show (1 : Int) ≠ 0 by decide) h1⟩
end Go.Proofs.YtgjloioccgcceaaGreat
namespace Go.Proofs.YtgjloioccgcceaaGreat
def inE (q : Nat) (x : Int) : Nat := if 0 <= x /\ x < q then x.toNat else 0
theorem Qn {q : Nat} (hq : 0 < q) (x : Int) : inE q x < q := by unfold inE; split <;> omega
theorem QU {q x : Nat} (h : x < q) : inE q (x : Int) = x := by unfold inE; rw [if_pos (by omega)]; rfl
section
variable {P M : Int} {mf : LI} {p m v : Nat}
theorem FV.ord (F : FV P M mf p m v) : Je5 P M = ((p ^ m : Nat) : Int) := by
 rw [F.eP, F.eM, Je5, if_pos]
 .simp
 .have := F.p2; have := F.m0; have := F.q; exact ⟨by omega, by omega, by simpa using this⟩
theorem FV.i64 (F : FV P M mf p m v) : I64 P := by
 have := F.p256; rw [F.eP]; exact Js (by omega) (by omega)
theorem v_rIs (F : FV P M mf p m v) {x : Int} {Q : Bool -> Prop} (h : Q (decide (0 <= x /\ x < ((p ^ m : Nat) : Int)))) : Jjy P M mf x Q := by
 refine ⟨fun h0 => Jdv ?_, fun h0 => ?_⟩
 .rw [F.ord]; simpa [h0] using h
 .simpa [h0] using h
theorem v_rIn (F : FV P M mf p m v) {x : Int} {Q : Int -> Prop} (h : Q ((inE (p ^ m) x : Nat) : Int)) : Jno P M mf x Q := by
 refine v_rIs F ⟨fun hb => ?_, fun hb => ?_⟩
 .have hb := of_decide_eq_true hb; unfold inE at h; rw [if_pos hb] at h
  rwa [Int.toNat_of_nonneg hb.1] at h
 .have hb := of_decide_eq_false hb; unfold inE at h; rw [if_neg hb] at h; exact h
theorem YW (F : FV P M mf p m v) {x : Int} {Q : LI -> Prop} (h : Q (dgi p m (inE (p ^ m) x))) : Q3 P M mf x Q := by
 have hp := F.p2; have hq := F.q; have hm8 := F.m8; have hlt := Qn F.ring.pos x; refine ⟨_, v_rIn F rfl, _, ?_, h⟩; rw [F.eP, F.eM]; exact Jff (by omega) (by omega) (by omega) rfl
theorem Jka (F : FV P M mf p m v) {l : LI} {u : Vec} {Q : Int -> Prop} (hl : l.length = m) (hv : ∀ i, i < m -> vo l i = u i % (p : Int)) (h : Q ((nm p m u : Nat) : Int)) : YD P M mf l Q := by
 have hp := F.p2; rw [Jbh (by omega) hl hv, F.eP]; have hlt := Jai (p := p) (m := m) (by omega) u; refine Jsm hp F.p256 (by rw [JZ]; have := F.m8; omega) (by rw [JZ]; exact Jcg (by omega) hlt _) (by rw [JZ]; exact F.q) ?_; rw [Jsj (by omega) hlt]; exact h
theorem v_rAdd (F : FV P M mf p m v) {x y : Int} {Q : Int -> Prop} (h : Q ((Qy p m (inE (p ^ m) x) (inE (p ^ m) y) : Nat) : Int)) : Jhm P M mf x y Q := by
 have hp := F.p2; have hp2 := F.p256; have hm8 := F.m8; have hx := Qn F.ring.pos x; have hy := Qn F.ring.pos y; refine YW F (YW F ?_); generalize inE (p ^ m) x = a at *
 generalize inE (p ^ m) y = b at *
 have hla := JZ p m a; have hlb := JZ p m b; rw [hla]; refine ⟨fun l z => ∃ k : Nat, z = k /\ k <= m /\ l.length = m /\ ∀ i, i < m -> vo l i = if i < k then (JX (dv p a) (dv p b)) i % (p : Int) else dv p a i, fun l z => (m - z).toNat, ⟨0, rfl, Nat.zero_le _, hla, fun i hi => by rw [if_neg (by omega), QY hi]⟩, ?_⟩; rintro l _ ⟨k, rfl, hk, hl, hv⟩; dsimp only; rw [JP, JP, Qs]; refine ⟨fun hlt => ?_, fun hge => Jka F hl (fun i hi => by rw [hv i hi, if_pos (by omega)]) h⟩; rw [hv k (by omega), if_neg (by omega), QY (by omega)]; have c1 := Jeq (p := p) (by omega) a k; have c2 := Jeq (p := p) (by omega) b k; refine ⟨⟨by omega, by omega⟩, ⟨by omega, by omega⟩, Js (by omega) (by omega), by rw [F.eP]; omega, ⟨by omega, by omega⟩, Js (by omega) (by omega), ⟨k + 1, by push_cast; rfl, by omega, by rw [List.length_set, hl], fun i hi => ?_⟩, by omega⟩; rw [Qe]; by_cases hki : k = i
 .subst hki; rw [if_pos ⟨rfl, by omega⟩, if_pos (by omega), F.eP, Int.tmod_eq_emod_of_nonneg (by omega)]; rfl
 .rw [if_neg (fun h => hki h.1), hv i hi]; by_cases hik : i < k
  .rw [if_pos hik, if_pos (by omega)]
  .rw [if_neg hik, if_neg (by omega)]
theorem v_rNeg (F : FV P M mf p m v) {x : Int} {Q : Int -> Prop} (h : Q ((ZE p m (inE (p ^ m) x) : Nat) : Int)) : Jhj P M mf x Q := by
 have hp := F.p2; have hp2 := F.p256; have hm8 := F.m8; have hx := Qn F.ring.pos x; refine YW F ?_; generalize inE (p ^ m) x = a at *
 have hla := JZ p m a; rw [hla]; refine ⟨fun l z => ∃ k : Nat, z = k /\ k <= m /\ l.length = m /\ ∀ i, i < m -> vo l i = if i < k then (vsm (-1) (dv p a)) i % (p : Int) else dv p a i, fun l z => (m - z).toNat, ⟨0, rfl, Nat.zero_le _, hla, fun i hi => by rw [if_neg (by omega), QY hi]⟩, ?_⟩; rintro l _ ⟨k, rfl, hk, hl, hv⟩; dsimp only; rw [JP, Qs]; refine ⟨fun hlt => ?_, fun hge => Jka F hl (fun i hi => by rw [hv i hi, if_pos (by omega)]) h⟩; rw [hv k (by omega), if_neg (by omega)]; have c1 := Jeq (p := p) (by omega) a k; rw [F.eP]; refine ⟨⟨by omega, by omega⟩, Js (by omega) (by omega), by omega, ⟨by omega, by omega⟩, Js (by omega) (by omega), ⟨k + 1, by push_cast; rfl, by omega, by rw [List.length_set, hl], fun i hi => ?_⟩, by omega⟩; rw [Qe]; by_cases hki : k = i
 .subst hki; rw [if_pos ⟨rfl, by omega⟩, if_pos (by omega), Int.tmod_eq_emod_of_nonneg (by omega)]; show _ = (-1 * dv p a k) % (p : Int); rw [show (p : Int) - dv p a k = -1 * dv p a k + p * 1 by omega, Int.add_mul_emod_self_left]
 .rw [if_neg (fun h => hki h.1), hv i hi]; by_cases hik : i < k
  .rw [if_pos hik, if_pos (by omega)]
  .rw [if_neg hik, if_neg (by omega)]
end
theorem Jgg {p m : Nat} {c w w' u : Vec} {s : Int} {k : Nat} (hk : w' k % (p : Int) = (w k + s) % (p : Int)) (ho : ∀ i, i ≠ k -> w' i = w i) : ∀ n, vcg p (opr m c w' n u) (JX (opr m c w n u) (if k < n then vsm s (tXn m c k u) else vz))
  | 0 => fun i => by simp [opr, JX, vz]
  | n + 1 => fun i => by
    have ih := Jgg hk ho (m := m) (c := c) (u := u) n i
    show (opr m c w' n u i + w' n * tXn m c n u i) % (p : Int) = ((opr m c w n u i + w n * tXn m c n u i) + (if k < n + 1 then vsm s (tXn m c k u) else vz) i) % (p : Int)
    rcases Nat.lt_trichotomy k n with h | h | h
    . rw [if_pos (by omega)]
      rw [if_pos h] at ih
      rw [ho n (by omega)]
      have := Jch ih (rfl : (w n * tXn m c n u i) % (p : Int) = _)
      rw [this]
      congr 1
      show opr m c w n u i + (vsm s (tXn m c k u)) i + _ = _
      omega
    . subst h
      rw [if_pos (by omega)]
      rw [if_neg (by omega)] at ih
      have := Jch ih (Jca hk (rfl : (tXn m c k u i) % (p : Int) = _))
      rw [this]
      congr 1
      show opr m c w k u i + 0 + (w k + s) * tXn m c k u i = _ + s * tXn m c k u i
      rw [Int.add_mul]; omega
    . rw [if_neg (by omega)]
      rw [if_neg (by omega)] at ih
      rw [ho n (by omega)]
      have := Jch ih (rfl : (w n * tXn m c n u i) % (p : Int) = _)
      rw [this]
      congr 1
      show opr m c w n u i + 0 + _ = _ + 0
      omega
theorem Xm {m : Nat} {c : Vec} (hm : 0 < m) : tXn m c m e0 = vsm (-1) (opr m c c m e0) := by
 obtain ⟨n, rfl⟩ : ∃ n, m = n + 1 := ⟨m - 1, by omega⟩
 show tX (n + 1) c (tXn (n + 1) c n e0) = _; rw [Jkc (by omega)]; funext i; simp only [vsm]; rw [Jgh (Nat.le_refl _)]; simp only [tX, vei]; by_cases hi : i < n + 1
 .rw [if_pos hi, if_pos hi]; have e1 : (if i = 0 then (0 : Int) else if i - 1 = n then 1 else 0) = 0 := by
   split
   .rfl
   .rw [if_neg (by omega)]
  rw [e1, show n + 1 - 1 = n by omega, if_pos rfl]; omega
 .rw [if_neg hi, if_neg hi]; rfl
section
variable {P M : Int} {mf : LI} {p m v : Nat}
theorem Jkb (F : FV P M mf p m v) {x y : Int} {Q : Int -> Prop} (h : Q ((JE p m (dv p v) (inE (p ^ m) x) (inE (p ^ m) y) : Nat) : Int)) : Jck P M mf x y Q := by
 have hp := F.p2; have hp2 := F.p256; have hm0 := F.m0; have hm8 := F.m8; have hx := Qn F.ring.pos x; have hy := Qn F.ring.pos y; refine YW F (YW F ?_); obtain rfl := F.eP; obtain rfl := F.eM; generalize inE (p ^ m) x = a at *
 generalize inE (p ^ m) y = b at *
 rw [Jcb hx hy] at h; have hla := JZ p m a; have hlb := JZ p m b; have hva := YU hx; have hvb := YU hy; have hsa := Yb hx; have hsb := Yb hy; have hN : (2 * (m : Int) - 1).toNat = 2 * m - 1 := by omega
 have e2 : (2 * (m : Int) - 1) = ((2 * m - 1 : Nat) : Int) := by omega
 rw [e2]; generalize hNN : 2 * m - 1 = N at *
 rw [Int.toNat_natCast]; have hself := YY (c := dv p v) hsb; refine ⟨Js (by omega) (by omega), YS (by omega), ⟨by omega, by omega, by omega⟩, ?_⟩; refine ⟨fun l z => ∃ k : Nat, z = k /\ k <= m /\ l.length = N /\ Cn p N (vo l) /\ vcg p (opr m (dv p v) (vo l) N e0) (opr m (dv p v) (dv p a) k (dv p b)), fun l z => (m - z).toNat, ⟨0, rfl, Nat.zero_le _, by simp, fun i hi => by rw [Jj7]; omega, ?_⟩, ?_⟩
 .have : vo (List.replicate N (0 : Int)) = vz := by funext i; rw [Jj7]; rfl
  rw [this]; have h0 : ∀ n, opr m (dv p v) vz n e0 = vz := fun n => by
   induction n with
   | zero => rfl
   | succ n ih => show JX (opr m (dv p v) vz n e0) (vsm (vz n) _) = vz; rw [ih]; funext i; simp [JX, vsm, vz]
  rw [h0]; exact vcg.refl _
 rintro l _ ⟨i, rfl, hi, hl, hcn, hE⟩; dsimp only; refine ⟨fun hlt => ?_, fun hge => ?_⟩
 .refine ⟨fun r z => ∃ j : Nat, z = j /\ j <= m /\ r.length = N /\ Cn p N (vo r) /\ vcg p (opr m (dv p v) (vo r) N e0) (JX (opr m (dv p v) (dv p a) i (dv p b)) (vsm (dv p a i) (tXn m (dv p v) i (opr m (dv p v) (dv p b) j e0)))), fun r z => (m - z).toNat, ⟨0, rfl, Nat.zero_le _, hl, hcn, ?_⟩, ?_⟩
  .show vcg p _ (JX _ (vsm _ (tXn m (dv p v) i vz))); rw [Jif, Jmc, Jak]; exact hE
  rintro r _ ⟨j, rfl, hj, hr, hcr, hEr⟩; dsimp only; rw [show (i : Int) + (j : Int) = ((i + j : Nat) : Int) by push_cast; rfl, JP, JP, JP, Qs, hva, hvb]; refine ⟨fun hltj => ?_, fun hgej => ?_⟩
  .have c1 := Jeq (p := p) (by omega) a i; have c2 := Jeq (p := p) (by omega) b j; have c3 := hcr (i + j) (by omega); have c4 := ZK (a := dv p a i) (b := dv p b j) hp2 ⟨c1.1, by omega⟩ ⟨c2.1, by omega⟩; refine ⟨YS (by omega), YS (by omega), ⟨by omega, by omega⟩, ⟨by omega, by omega⟩, ⟨by omega, by omega⟩, Js (by omega) (by omega), Js (by omega) (by omega), by omega, ⟨by omega, by omega⟩, Js (by omega) (by omega), ⟨j + 1, by push_cast; rfl, by omega, by rw [List.length_set, hr], fun t ht => ?_, ?_⟩, by omega⟩
   .rw [Qe]; split
    .rw [Int.tmod_eq_emod_of_nonneg (by omega)]; exact ⟨Int.emod_nonneg _ (by omega), Int.emod_lt_of_pos _ (by omega)⟩
    .exact hcr t ht
   .have hup := Jgg (p := p) (m := m) (c := dv p v) (w := vo r) (w' := vo (r.set (i + j) ((vo r (i + j) + dv p a i * dv p b j).tmod p))) (u := e0) (s := dv p a i * dv p b j) (k := i + j) (by
     rw [Qe, if_pos ⟨rfl, by omega⟩, Int.tmod_eq_emod_of_nonneg (by omega), Int.emod_emod]) (fun t ht => by rw [Qe, if_neg (fun h => ht h.1.symm)]) N
    rw [if_pos (by omega)] at hup; refine hup.trans ((hEr.add (vcg.refl _)).trans ?_); show vcg p _ (JX _ (vsm _ (tXn m (dv p v) i (JX (opr m (dv p v) (dv p b) j e0) (vsm (dv p b j) (tXn m (dv p v) j e0)))))); rw [Ja6, Jbz, Jdb, Jc7, Jf2, <- Zf]; exact vcg.refl _
  .have hjm : j = m := by omega
   subst hjm; rw [hself] at hEr; exact ⟨Js (by omega) (by omega), ⟨i + 1, by push_cast; rfl, by omega, hr, hcr, hEr⟩, by omega⟩
 .have him : i = m := by omega
  subst him; have hE2 : vcg p (opr i (dv p v) (vo l) N e0) (Yg i (dv p v) (dv p b) (dv p a)) := hE; refine ⟨Js (by omega) (by omega), Js (by omega) (by omega), ?_⟩; refine ⟨fun r z => ∃ t : Nat, z = (t : Int) - 1 /\ i <= t /\ t <= N /\ r.length = N /\ Cn p N (vo r) /\ vcg p (opr i (dv p v) (vo r) t e0) (Yg i (dv p v) (dv p b) (dv p a)), fun r z => (z + 1).toNat, ⟨N, by omega, by omega, by omega, hl, hcn, hE2⟩, ?_⟩; rintro r _ ⟨t, rfl, hit, htN, hr, hcr, hEr⟩; dsimp only; refine ⟨fun hle => ?_, fun hgt => ?_⟩
  .obtain ⟨k, rfl⟩ : ∃ k, t = k + 1 := ⟨t - 1, by omega⟩
   have ek : ((k + 1 : Nat) : Int) - 1 = (k : Int) := by omega
   rw [ek] at hle ⊢; have hm1 : i ≠ 1 := by omega
   have hmf : vo mf = dv p v := F.vo; have hml : mf.length = i := (F.cn hm1).1; have hwk := hcr k (by omega); refine ⟨fun s z => ∃ j : Nat, z = j /\ j <= i /\ s.length = N /\ Cn p N (vo s) /\ vo s k = vo r k /\ vcg p (opr i (dv p v) (vo s) k e0) (JX (opr i (dv p v) (vo r) k e0) (vsm (-(vo r k)) (tXn i (dv p v) (k - i) (opr i (dv p v) (dv p v) j e0)))), fun s z => (i - z).toNat, ⟨0, rfl, Nat.zero_le _, hr, hcr, rfl, ?_⟩, ?_⟩
   .show vcg p _ (JX _ (vsm _ (tXn i (dv p v) (k - i) vz))); rw [Jif, Jmc, Jak]; exact vcg.refl _
   rintro s _ ⟨j, rfl, hj, hs, hcs, hsk, hEs⟩; dsimp only; rw [show (k : Int) - (i : Int) + (j : Int) = ((k - i + j : Nat) : Int) by omega, JP, JP, JP, Qs, hmf, hsk]; refine ⟨fun hltj => ?_, fun hgej => ?_⟩
   .have c1 := Jeq (p := p) (by omega) v j; have c3 := hcs (k - i + j) (by omega); have c4 := ZK (a := (p : Int) - vo r k) (b := dv p v j) hp2 ⟨by omega, by omega⟩ ⟨c1.1, by omega⟩; refine ⟨Js (by omega) (by omega), YS (by omega), Js (by omega) (by omega), YS (by omega), ⟨by omega, by omega⟩, ⟨by omega, by omega⟩, Js (by omega) (by omega), ⟨by omega, by omega⟩, Js (by omega) (by omega), Js (by omega) (by omega), by omega, ⟨by omega, by omega⟩, Js (by omega) (by omega), ⟨j + 1, by push_cast; rfl, by omega, by rw [List.length_set, hs], fun u hu => ?_, ?_, ?_⟩, by omega⟩
    .rw [Qe]; split
     .rw [Int.tmod_eq_emod_of_nonneg (by omega)]; exact ⟨Int.emod_nonneg _ (by omega), Int.emod_lt_of_pos _ (by omega)⟩
     .exact hcs u hu
    .rw [Qe, if_neg (by omega)]; exact hsk
    .have hup := Jgg (p := p) (m := i) (c := dv p v) (w := vo s) (w' := vo (s.set (k - i + j) ((vo s (k - i + j) + ((p : Int) - vo r k) * dv p v j).tmod p))) (u := e0) (s := -(vo r k) * dv p v j) (k := k - i + j) (by
      rw [Qe, if_pos ⟨rfl, by omega⟩, Jga (by omega) c3.1 (by omega) c1.1, Int.emod_emod, Int.neg_mul]; rfl) (fun t ht => by rw [Qe, if_neg (fun h => ht h.1.symm)]) k
     rw [if_pos (by omega)] at hup; refine hup.trans ((hEs.add (vcg.refl _)).trans ?_); show vcg p _ (JX _ (vsm _ (tXn i (dv p v) (k - i) (JX (opr i (dv p v) (dv p v) j e0) (vsm (dv p v j) (tXn i (dv p v) j e0)))))); rw [Ja6, Jbz, Jdb, Jc7, Jf2, <- Zf]; exact vcg.refl _
   .have hji : j = i := by omega
    subst hji; refine ⟨Js (by omega) (by omega), ⟨k, by omega, by omega, by omega, hs, hcs, ?_⟩, by omega⟩; refine hEs.trans (vcg.trans ?_ hEr); show vcg p _ (JX (opr j (dv p v) (vo r) k e0) (vsm (vo r k) (tXn j (dv p v) k e0))); have e1 : tXn j (dv p v) k e0 = tXn j (dv p v) (k - j) (tXn j (dv p v) j e0) := by rw [Jdb, show k - j + j = k by omega]
    rw [e1, Xm hm0, Jbz, Jf2, show vo r k * -1 = -(vo r k) by omega]; exact vcg.refl _
  .have hti : t = i := by omega
   subst hti; refine ⟨⟨by omega, by omega⟩, _, Jka F (u := opr t (dv p v) (vo r) t e0) ?_ (fun j hj => ?_) rfl, ?_⟩
   .rw [List.length_take, Int.toNat_natCast, hr]; omega
   .rw [Int.toNat_natCast, Jf5 hj, Jgh (Nat.le_refl _), if_pos hj]; have := hcr j (by omega); exact (Int.emod_eq_of_lt this.1 this.2).symm
   .rw [YT hEr]; exact h
end
end Go.Proofs.YtgjloioccgcceaaGreat
namespace Go.Proofs.YtgjloioccgcceaaGreat
section
variable {F : GFv} {p m v g : Nat}
theorem v_Is {x : Int} {Q : Bool -> Prop} (K : GFk F p m v g) (h : Q (decide (0 <= x /\ x < ((p ^ m : Nat) : Int)))) : V_Is F x Q := by
 refine ⟨fun h0 => ?_, fun h0 => ?_⟩
 .rw [K.q]; simpa [h0] using h
 .simpa [h0] using h
theorem Jdx {x : Int} {Q : Bool -> Prop} (K : GFk F p m v g) (h : Q (decide (inE (p ^ m) x ≠ 0))) : Y7 F x Q := by
 unfold inE at h; refine ⟨fun h0 => ?_, fun h0 => ?_⟩
 .rw [K.q]; by_cases hx : x < ((p ^ m : Nat) : Int)
  .rw [if_pos ⟨by omega, hx⟩] at h; rw [decide_eq_true hx]; rw [decide_eq_true (by omega)] at h; exact h
  .rw [if_neg (by omega)] at h; rw [decide_eq_false hx]; exact h
 .by_cases hx : 0 <= x /\ x < ((p ^ m : Nat) : Int)
  .rw [if_pos hx] at h; rw [decide_eq_false (by omega)] at h; exact h
  .rw [if_neg hx] at h; exact h
theorem Jfg {x : Int} {Q : Int -> Prop} (K : GFk F p m v g) (h : Q ((inE (p ^ m) x : Nat) : Int)) : Y8 F x Q := by
 refine v_Is K ⟨fun hb => ?_, fun hb => ?_⟩
 .have hb := of_decide_eq_true hb; unfold inE at h; rw [if_pos hb, Int.toNat_of_nonneg hb.1] at h; exact h
 .have hb := of_decide_eq_false hb; unfold inE at h; rw [if_neg hb] at h; exact h
theorem Jty {q : Nat} {x : Int} (h : inE q x ≠ 0) : x = ((inE q x : Nat) : Int) := by
 unfold inE at h ⊢; split
 .rename_i hc; exact (Int.toNat_of_nonneg hc.1).symm
 .rename_i hc; rw [if_neg hc] at h; exact absurd rfl h
theorem GFk.lg (K : GFk F p m v g) {x : Int} (h : inE (p ^ m) x ≠ 0) : ∃ a : Nat, a < p ^ m - 1 /\ inE (p ^ m) x = pw (JE p m (dv p v)) g a /\ gi F.log x = (a : Int) /\ (0 <= x /\ x < (F.log.length : Nat)) := by
  have R := K.fv.ring
  have hlt := Qn R.pos x
  obtain ⟨a, ha, he⟩ := K.G.surj R (Nat.pos_of_ne_zero h) hlt
  have hx := Jty h
  refine ⟨a, ha, he.symm, ?_, ?_⟩
  . rw [hx, <- he, JP, K.lv a ha]
  . rw [K.ll]; omega
theorem Jmf {x y : Int} {Q : Int -> Prop} (K : GFk F p m v g) (h : Q ((JE p m (dv p v) (inE (p ^ m) x) (inE (p ^ m) y) : Nat) : Int)) : Je0 F x y Q := by
 have R := K.fv.ring; have hq := K.fv.q; have hx := Qn R.pos x; have hy := Qn R.pos y; refine Jdx K ⟨fun hb => ?_, fun hb => Jdx K ⟨fun hb2 => ?_, fun hb2 => ?_⟩⟩
 .have h0 : inE (p ^ m) x = 0 := by simpa using hb
  rw [h0, R.Z0 hy] at h; exact h
 .have h0 : inE (p ^ m) y = 0 := by simpa using hb2
  rw [h0, R.M0 hx] at h; exact h
 .obtain ⟨a, ha, ea, la, bx⟩ := K.lg (x := x) (by simpa using hb); obtain ⟨b, hb', eb, lb, by_⟩ := K.lg (x := y) (by simpa using hb2); rw [la, lb]; have hel := K.el; refine ⟨bx, by_, Js (by omega) (by omega), ⟨by omega, by omega⟩, ?_⟩; rw [show (a : Int) + (b : Int) = ((a + b : Nat) : Int) by push_cast; rfl, JP, K.ev _ (by omega), R.pw_add K.G.lt, <- ea, <- eb]; exact h
theorem Jwi {p m : Nat} {c : Vec} {x : Nat} (hp : 2 <= p) (hm : 0 < m) (hx : x < p ^ m) : JE p m c (p - 1) x = ZE p m x := by
 unfold JE ZE; have hd : vcg p (dv p (p - 1)) (vsm (-1) e0) := fun i => by
  cases i with
  | zero =>
   rw [YJ, Nat.mod_eq_of_lt (by omega)]; show ((p - 1 : Nat) : Int) % p = (-1 * 1) % p; rw [show ((p - 1 : Nat) : Int) = -1 * 1 + p * 1 by omega, Int.add_mul_emod_self_left]
  | succ i =>
   rw [Zn, Nat.div_eq_of_lt (by omega), Jep]; simp [vz, vsm, e0]
 rw [YT (vcg.mul (vcg.refl c) hd (vcg.refl _))]; have : Yg m c (vsm (-1) e0) (dv p x) = vsm (-1) (dv p x) := by
  show opr m c (dv p x) m (vsm (-1) e0) = _; rw [Jkm, YY (Yb hx)]
 rw [this]
theorem v_Neg {x : Int} {Q : Int -> Prop} (K : GFk F p m v g) (h : Q ((ZE p m (inE (p ^ m) x) : Nat) : Int)) : Zx F x Q := by
 have hp := K.fv.p2; have hpq := K.fv.pq; have h256 := K.fv.p256; have R := K.fv.ring; unfold Zx; rw [K.fv.eP]; refine ⟨Js (by omega) (by omega), Jmf K ?_⟩; rw [show (p : Int) - 1 = ((p - 1 : Nat) : Int) by omega, QU (by omega), Jwi hp K.fv.m0 (Qn R.pos x)]; exact h
theorem Jr6 {m x y : Nat} (hx : x < 2 ^ m) (hy : y < 2 ^ m) : x ^^^ y = Qy 2 m x y := by
 refine (nm_eq (by decide) (Nat.xor_lt_two_pow hx hy) fun i hi => ?_).symm; have h := Nat.testBit_xor x y i; rw [Nat.testBit_eq_decide_div_mod_eq, Nat.testBit_eq_decide_div_mod_eq, Nat.testBit_eq_decide_div_mod_eq] at h; simp only [dv, JX]; have h1 := Nat.mod_two_eq_zero_or_one (x / 2 ^ i); have h2 := Nat.mod_two_eq_zero_or_one (y / 2 ^ i); have h3 := Nat.mod_two_eq_zero_or_one ((x ^^^ y) / 2 ^ i); rcases h1 with h1 | h1 <;> rcases h2 with h2 | h2 <;> rcases h3 with h3 | h3 <;> rw [h1, h2, h3] at h <;> rw [h1, h2, h3] <;> first | rfl | exact absurd h (by decide)
theorem v_Add {x y : Int} {Q : Int -> Prop} (K : GFk F p m v g) (h : Q ((Qy p m (inE (p ^ m) x) (inE (p ^ m) y) : Nat) : Int)) : Jnr F x y Q := by
 have R := K.fv.ring; have hq := K.fv.q; have hx := Qn R.pos x; have hy := Qn R.pos y; have hq2 := R.q2; refine Jfg K (Jfg K ⟨fun h2 => ⟨⟨by omega, by omega, by omega, by omega⟩, ?_⟩, fun h2 => ⟨fun h0 => ?_, fun h0 => ⟨fun h1 => ?_, fun h1 => ?_⟩⟩⟩)
 .have hp2 : p = 2 := by have := K.fv.eP; omega
  subst hp2; rw [<- Jr6 hx hy] at h; exact h
 .rw [show inE (p ^ m) x = 0 by omega, R.zA hy] at h; exact h
 .rw [show inE (p ^ m) y = 0 by omega, R.Az hx] at h; exact h
 .have hi : ∀ z : Nat, z < p ^ m -> inE (p ^ m) (z : Int) = z := fun z hz => QU hz; obtain ⟨a, ha, ea, la, bx⟩ := K.lg (x := ((inE (p ^ m) x : Nat) : Int)) (by rw [hi _ hx]; omega); obtain ⟨b, hb, eb, lb, by_⟩ := K.lg (x := ((inE (p ^ m) y : Nat) : Int)) (by rw [hi _ hy]; omega); rw [hi _ hx] at ea; rw [hi _ hy] at eb; rw [la, lb]; have hal := K.al; have hel := K.el; refine ⟨by_, bx, Js (by omega) (by omega), fun z => ∃ d : Nat, z = d /\ d < p ^ m - 1 /\ pw (JE p m (dv p v)) g (a + d) = pw (JE p m (dv p v)) g b, ⟨fun hn => ?_, fun hn => ?_⟩, ?_⟩
  .rw [K.q]; refine ⟨Js (by omega) (by omega), Js (by omega) (by omega), b + (p ^ m - 1) - a, by omega, by omega, ?_⟩; have := K.G.per R b 1; rw [Nat.mul_one] at this; rw [show a + (b + (p ^ m - 1) - a) = b + (p ^ m - 1) by omega]; exact this
  .exact ⟨b - a, by omega, by omega, by rw [show a + (b - a) = b by omega]⟩
  .rintro _ ⟨d, rfl, hd, hpd⟩; rw [JP, K.av d hd]; have hgd := R.pw_lt g d; have hga := R.pw_lt g a
   -- x + y = x (g^d + 1)
   have hsum : Qy p m (inE (p ^ m) x) (inE (p ^ m) y) = JE p m (dv p v) (pw (JE p m (dv p v)) g a) (Qy p m (pw (JE p m (dv p v)) g d) 1) := by
    rw [R.Md hga hgd R.one_lt, R.M1 hga, <- R.pw_add K.G.lt, hpd, <- ea, <- eb, R.Ac]
   rw [hsum] at h; have hsl := R.Al (pw (JE p m (dv p v)) g d) 1; refine ⟨⟨by omega, by omega⟩, fun hm1 => ?_, fun hm1 => ?_⟩
   .have hz : Qy p m (pw (JE p m (dv p v)) g d) 1 = 0 := by
     rcases Nat.eq_zero_or_pos (Qy p m (pw (JE p m (dv p v)) g d) 1) with h3 | h3
     .exact h3
     .obtain ⟨s, hs, hse⟩ := K.G.surj R h3 hsl; rw [<- hse, K.lv s hs] at hm1; omega
    rw [hz, R.M0 hga] at h; exact h
   .have hnz : 0 < Qy p m (pw (JE p m (dv p v)) g d) 1 := by
     rcases Nat.eq_zero_or_pos (Qy p m (pw (JE p m (dv p v)) g d) 1) with h3 | h3
     .rw [h3, K.l0] at hm1; exact absurd rfl hm1
     .exact h3
    obtain ⟨s, hs, hse⟩ := K.G.surj R hnz hsl; rw [<- hse] at h ⊢; rw [K.lv s hs]; refine ⟨bx, Js (by omega) (by omega), ⟨by omega, by omega⟩, ?_⟩; rw [show (a : Int) + (s : Int) = ((a + s : Nat) : Int) by push_cast; rfl, JP, K.ev _ (by omega), R.pw_add K.G.lt]; exact h
theorem v_Inv {x : Int} {Q : Int × Int -> Prop} (K : GFk F p m v g) (h0 : inE (p ^ m) x = 0 -> Q (0, 7)) (h1 : ∀ z : Nat, inE (p ^ m) x ≠ 0 -> z < p ^ m -> JE p m (dv p v) z (inE (p ^ m) x) = 1 -> Q ((z : Int), 0)) : Jnq F x Q := by
 have R := K.fv.ring; have hq := K.fv.q; refine Jdx K ⟨fun hb => h0 (by simpa using hb), fun hb => ?_⟩; have hne : inE (p ^ m) x ≠ 0 := by simpa using hb
 obtain ⟨a, ha, ea, la, bx⟩ := K.lg hne; have hel := K.el; rw [la, K.q]; refine ⟨Js (by omega) (by omega), bx, Js (by omega) (by omega), ⟨by omega, by omega⟩, ?_⟩; rw [show ((p ^ m : Nat) : Int) - 1 - (a : Int) = ((p ^ m - 1 - a : Nat) : Int) by omega, JP, K.ev _ (by omega)]; refine h1 _ hne (R.pw_lt g _) ?_; rw [ea, <- R.pw_add K.G.lt, show p ^ m - 1 - a + a = p ^ m - 1 by omega, K.G.one]
theorem Od.uniq {M : Nat -> Nat -> Nat} {x n k : Nat} (h : Od M x n) (h' : Od M x k) : n = k := by
 rcases Nat.lt_trichotomy n k with h1 | h1 | h1
 .exact absurd h.one (h'.least n h.pos h1)
 .exact h1
 .exact absurd h'.one (h.least k h'.pos h1)
theorem Jvt {x : Int} {l : LI} {Q : LI -> Prop} (K : GFk F p m v g) (hl : l.length <= 1000) (h : ∀ r : LI, r.length = l.length -> (∀ i, i < l.length -> vo r i = ((JE p m (dv p v) (inE (p ^ m) x) (inE (p ^ m) (vo l i)) : Nat) : Int)) -> Q r) : Zt F x l Q := by
 refine ⟨⟨by omega, by omega, by omega⟩, fun r i => ∃ k : Nat, i = k /\ k <= l.length /\ r.length = l.length /\ ∀ j, j < k -> vo r j = ((JE p m (dv p v) (inE (p ^ m) x) (inE (p ^ m) (vo l j)) : Nat) : Int), fun r i => (l.length - i).toNat, ⟨0, rfl, Nat.zero_le _, by simp, fun j hj => by omega⟩, ?_⟩; rintro r _ ⟨k, rfl, hk, hr, hv⟩; dsimp only; rw [JP]; refine ⟨fun hlt => ⟨⟨by omega, by omega⟩, Jmf K ⟨⟨by omega, by omega⟩, Js (by omega) (by omega), ⟨k + 1, by push_cast; rfl, by omega, ?_, fun j hj => ?_⟩, by omega⟩⟩, fun hge => h r hr fun i hi => hv i (by omega)⟩
 .rw [Qs, List.length_set, hr]
 .rw [Qs, Qe]; by_cases hkj : k = j
  .subst hkj; rw [if_pos ⟨rfl, by omega⟩]
  .rw [if_neg (fun h => hkj h.1)]; exact hv j (by omega)
end
end Go.Proofs.YtgjloioccgcceaaGreat
namespace Go.Proofs.YtgjloioccgcceaaGreat
section
variable (p m v : Nat)
def Ad (x y : Int) : Int := ((Qy p m (inE (p ^ m) x) (inE (p ^ m) y) : Nat) : Int)
def Ml (x y : Int) : Int := ((JE p m (dv p v) (inE (p ^ m) x) (inE (p ^ m) y) : Nat) : Int)
def Ng (x : Int) : Int := ((ZE p m (inE (p ^ m) x) : Nat) : Int)
def Iv (x : Int) : Int := ((((List.range (p ^ m)).find? fun z => JE p m (dv p v) z (inE (p ^ m) x) == 1).getD 0 : Nat) : Int)
def El (x : Int) : Prop := 0 <= x /\ x < ((p ^ m : Nat) : Int)
def Elr (l : LI) : Prop := ∀ x ∈ l, El p m x
def Els (X : LL) : Prop := ∀ r ∈ X, Elr p m r
def sc (x : Int) (l : LI) : LI := l.map (Ml p m v x)
def adm (a : LI) (x : Int) (o : LI) : LI := (List.range a.length).map fun i => if vo o i = 0 then vo a i else Ad p m (vo a i) (Ml p m v x (vo o i))
def adx (a : LI) (x : Int) (o : LI) : LI := if x = 0 then a else adm p m v a x o
def row (X : LL) (t : Nat) : LI := X.getD t []
def nz (X : LL) (c s : Nat) : Nat := s + ((X.drop s).takeWhile fun r => vo r c == 0).length
def swp (X : LL) (i j : Nat) : LL := (X.set i (row X j)).set j (row X i)
def clr (f : Nat -> Int) (cur : Nat) (X : LL) : LL := (List.range X.length).map fun t => if t = cur then row X t else adx p m v (row X t) (f t) (row X cur)
structure ES where
  X : LL
  Y : LL
  pv : LI
  d : Int
def es1 (c r cur : Nat) (S : ES) : ES :=
  let X1 := if r = cur then S.X else swp S.X r cur
  let Y1 := if r = cur then S.Y else swp S.Y r cur
  let e := vo (row X1 cur) c
  let X2 := X1.set cur (sc p m v (Iv p m v e) (row X1 cur))
  let Y2 := Y1.set cur (sc p m v (Iv p m v e) (row Y1 cur))
  { X := clr p m v (fun t => Ng p m (vo (row X2 t) c)) cur X2, Y := clr p m v (fun t => Ng p m (vo (row X2 t) c)) cur Y2, pv := S.pv ++ [(c : Int)], d := Ml p m v (if r = cur then S.d else Ng p m S.d) e }
def Yq (S : ES) (c : Nat) : ES :=
  if S.pv.length < S.X.length /\ nz S.X c S.pv.length < S.X.length then es1 p m v c (nz S.X c S.pv.length) S.pv.length S else S
def elim (cols : Nat) (S : ES) : ES := (List.range cols).foldl (Yq p m v) S
end
theorem QT {X Y : LL} (h : X.length = Y.length) (hv : ∀ i, i < X.length -> row X i = row Y i) : X = Y := by
 apply List.ext_getElem?; intro i; rcases Nat.lt_or_ge i X.length with hi | hi
 .rw [YI (d := []) hi, YI (d := []) (ls := Y) (by omega)]; exact congrArg some (hv i hi)
 .rw [List.getElem?_eq_none hi, List.getElem?_eq_none (by omega)]
theorem Q6 (X : LL) (i j : Nat) (l : LI) : row (X.set i l) j = if i = j /\ i < X.length then l else row X j := by
 unfold row; rw [List.getD_eq_getElem?_getD, List.getD_eq_getElem?_getD, List.getElem?_set]; by_cases h : i = j
 .subst h; by_cases hi : i < X.length <;> simp [hi]
 .simp [h]
theorem Jde {n : Nat} {f : Nat -> LI} {t : Nat} (h : t < n) : row ((List.range n).map f) t = f t := by
 unfold row; rw [List.getD_eq_getElem?_getD]; simp [h]
theorem vo_map {n : Nat} {f : Nat -> Int} {t : Nat} (h : t < n) : vo ((List.range n).map f) t = f t := by
 unfold vo; rw [List.getD_eq_getElem?_getD]; simp [h]
theorem row_hi {X : LL} {t : Nat} (h : X.length <= t) : row X t = [] := by
 unfold row; rw [List.getD_eq_getElem?_getD, List.getElem?_eq_none h]; rfl
theorem ZT {X : LL} {t : Nat} (h : t < X.length) : row X t ∈ X := List.mem_of_getElem? (YI h)
theorem Zi {X : LL} {r : LI} (h : r ∈ X) : ∃ t, t < X.length /\ row X t = r := by
 obtain ⟨t, ht, e⟩ := List.mem_iff_getElem.1 h; refine ⟨t, ht, ?_⟩; unfold row; rw [List.getD_eq_getElem?_getD, List.getElem?_eq_getElem ht]; exact e
theorem Jkw {l : LI} {x : Int} (h : x ∈ l) : ∃ t, t < l.length /\ vo l t = x := by
 obtain ⟨t, ht, e⟩ := List.mem_iff_getElem.1 h; refine ⟨t, ht, ?_⟩; unfold vo; rw [List.getD_eq_getElem?_getD, List.getElem?_eq_getElem ht]; exact e
theorem Jds {l : LI} {t : Nat} (h : t < l.length) : vo l t ∈ l := List.mem_of_getElem? (YI h)
theorem Jdc (X : LL) (i j : Nat) : (swp X i j).length = X.length := by simp [swp]
theorem Zg {X : LL} {i j t : Nat} (hi : i < X.length) (hj : j < X.length) : row (swp X i j) t = if t = j then row X i else if t = i then row X j else row X t := by
 unfold swp; rw [Q6, Q6, List.length_set]; by_cases h1 : t = j
 .subst h1; simp [hj]
 .by_cases h2 : t = i
  .subst h2; simp [hi, Ne.symm h1, h1]
  .simp [Ne.symm h1, Ne.symm h2, h1, h2]
theorem Jsv {X : LL} {i j : Nat} (hi : i < X.length) (hj : j < X.length) : swp X i j = swp X j i := by
 refine QT (by rw [Jdc, Jdc]) fun t ht => ?_; rw [Zg hi hj, Zg hj hi]; by_cases h1 : t = j <;> by_cases h2 : t = i <;> simp_all
theorem Jsu {X : LL} {i : Nat} (hi : i < X.length) : swp X i i = X := by
 refine QT (Jdc _ _ _) fun t ht => ?_; rw [Zg hi hi]; by_cases h1 : t = i <;> simp_all
theorem ZX (X : LL) (c : Nat) : ∀ s, s <= X.length -> nz X c s <= X.length /\ (∀ t, s <= t -> t < nz X c s -> vo (row X t) c = 0) /\ (nz X c s < X.length -> vo (row X (nz X c s)) c ≠ 0) := by
 have key : ∀ (n s : Nat), n + s = X.length -> nz X c s <= X.length /\ (∀ t, s <= t -> t < nz X c s -> vo (row X t) c = 0) /\ (nz X c s < X.length -> vo (row X (nz X c s)) c ≠ 0) := by
  intro n
  induction n with
  | zero =>
   intro s hs; have hd : X.drop s = [] := List.drop_eq_nil_of_le (by omega); have e : nz X c s = s := by unfold nz; rw [hd]; rfl
   rw [e]; exact ⟨by omega, fun t h1 h2 => by omega, fun h => by omega⟩
  | succ n ih =>
   intro s hs; have hlt : s < X.length := by omega
   have hd : X.drop s = row X s :: X.drop (s + 1) := by
    rw [List.drop_eq_getElem_cons hlt]
    congr 1
    unfold row; rw [List.getD_eq_getElem?_getD, List.getElem?_eq_getElem hlt]; rfl
   by_cases h0 : vo (row X s) c = 0
   .have e : nz X c s = nz X c (s + 1) := by
     unfold nz; rw [hd, List.takeWhile_cons, if_pos (by simp [h0]), List.length_cons]; omega
    obtain ⟨h1, h2, h3⟩ := ih (s + 1) (by omega); rw [e]; refine ⟨h1, fun t ht1 ht2 => ?_, h3⟩; rcases Nat.eq_or_lt_of_le ht1 with rfl | h
    .exact h0
    .exact h2 t h ht2
   .have e : nz X c s = s := by
     unfold nz; rw [hd, List.takeWhile_cons, if_neg (by simpa using h0)]; rfl
    rw [e]; exact ⟨by omega, fun t h1 h2 => by omega, fun _ => h0⟩
 exact fun s hs => key (X.length - s) s (by omega)
theorem Jm3 (X : LL) (c s : Nat) : s <= nz X c s := Nat.le_add_right _ _
theorem Ji1 {X : LL} {c s r : Nat} (hs : s <= r) (hr : r <= X.length) (h1 : ∀ t, s <= t -> t < r -> vo (row X t) c = 0) (h2 : r < X.length -> vo (row X r) c ≠ 0) : r = nz X c s := by
 obtain ⟨a, b, d⟩ := ZX X c s (by omega); have := Jm3 X c s; rcases Nat.lt_trichotomy r (nz X c s) with h | h | h
 .exact absurd (b r hs h) (h2 (by omega))
 .exact h
 .exact absurd (h1 _ this h) (d (by omega))
section
variable {p m v : Nat}
theorem Jbj (a : LI) (x : Int) (o : LI) : (adm p m v a x o).length = a.length := by simp [adm]
theorem Jhf (a : LI) (x : Int) (o : LI) : (adx p m v a x o).length = a.length := by
 unfold adx; split
 .rfl
 .exact Jbj ..
theorem Jb2 (x : Int) (l : LI) : (sc p m v x l).length = l.length := by simp [sc]
theorem Zo (f : Nat -> Int) (cur : Nat) (X : LL) : (clr p m v f cur X).length = X.length := by simp [clr]
theorem Ja9 {f : Nat -> Int} {cur t : Nat} {X : LL} (h : t < X.length) : row (clr p m v f cur X) t = if t = cur then row X t else adx p m v (row X t) (f t) (row X cur) := Jde h
theorem Zy {a o : LI} {x : Int} {t : Nat} (h : t < a.length) : vo (adm p m v a x o) t = if vo o t = 0 then vo a t else Ad p m (vo a t) (Ml p m v x (vo o t)) := vo_map h
theorem Jfc {x : Int} {l : LI} {t : Nat} (h : t < l.length) : vo (sc p m v x l) t = Ml p m v x (vo l t) := by
 unfold vo sc; rw [List.getD_eq_getElem?_getD, List.getElem?_map, List.getD_eq_getElem?_getD, List.getElem?_eq_getElem h]; rfl
end
section
variable {F : GFv} {p m v g : Nat} {P M : Int} {mf : LI} {X : LL}
theorem Je4 {l : LI} {Q : Bool -> Prop} (K : GFk F p m v g) (hl : l.length <= 1000000) (h1 : Elr p m l -> Q true) (h2 : ¬ Elr p m l -> Q false) : Yk F l Q := by
 refine ⟨fun z => ∃ t : Nat, z = t /\ t <= l.length /\ ∀ k, k < t -> El p m (vo l k), fun z => (l.length - z).toNat, ⟨0, rfl, Nat.zero_le _, fun k h => by omega⟩, ?_⟩; rintro _ ⟨t, rfl, ht, hk⟩; dsimp only; rw [JP]; refine ⟨fun hlt => ⟨⟨by omega, by omega⟩, v_Is K ?_⟩, fun hge => h1 fun x hx => ?_⟩
 .by_cases he : El p m (vo l t)
  .rw [decide_eq_true (show 0 <= vo l t /\ vo l t < ((p ^ m : Nat) : Int) from he)]; refine ⟨fun h => absurd h (by decide), fun _ => ⟨Js (by omega) (by omega), ⟨t + 1, by push_cast; rfl, by omega, fun k hk' => ?_⟩, by omega⟩⟩; rcases Nat.lt_or_ge k t with h | h
   .exact hk k h
   .rw [show k = t by omega]; exact he
  .rw [decide_eq_false (show ¬ (0 <= vo l t /\ vo l t < ((p ^ m : Nat) : Int)) from he)]; exact ⟨fun _ => h2 fun h => he (h _ (Jds (by omega))), fun h => absurd h (by decide)⟩
 .obtain ⟨t', h3, rfl⟩ := Jkw hx; exact hk t' (by omega)
theorem Jdp {l : LI} {Q : Int -> Prop} (hF : FV P M mf p m v) (hl : l.length <= 1000000) (h1 : Elr p m l -> Q 0) (h2 : ¬ Elr p m l -> Q 2) : Zq P M mf l Q := by
 refine ⟨fun z => ∃ t : Nat, z = t /\ t <= l.length /\ ∀ k, k < t -> El p m (vo l k), fun z => (l.length - z).toNat, ⟨0, rfl, Nat.zero_le _, fun k h => by omega⟩, ?_⟩; rintro _ ⟨t, rfl, ht, hk⟩; dsimp only; rw [JP]; refine ⟨fun hlt => ⟨⟨by omega, by omega⟩, _, v_rIs hF rfl, ?_⟩, fun hge => h1 fun x hx => ?_⟩
 .by_cases he : El p m (vo l t)
  .rw [decide_eq_true (show 0 <= vo l t /\ vo l t < ((p ^ m : Nat) : Int) from he)]; refine ⟨fun h => absurd h (by decide), fun _ => ⟨Js (by omega) (by omega), ⟨t + 1, by push_cast; rfl, by omega, fun k hk' => ?_⟩, by omega⟩⟩; rcases Nat.lt_or_ge k t with h | h
   .exact hk k h
   .rw [show k = t by omega]; exact he
  .rw [decide_eq_false (show ¬ (0 <= vo l t /\ vo l t < ((p ^ m : Nat) : Int)) from he)]; exact ⟨fun _ => h2 fun h => he (h _ (Jds (by omega))), fun h => absurd h (by decide)⟩
 .obtain ⟨t', h3, rfl⟩ := Jkw hx; exact hk t' (by omega)
def shp (C : Int) (X : LL) : Prop := 0 <= C /\ C <= 256 /\ X.length <= 256 /\ ∀ r ∈ X, (r.length : Int) = C
theorem Jj5 {C : Int} {Q : Bool -> Prop} (h1 : shp C X -> Q true) (h2 : ¬ shp C X -> Q false) : YE C X Q := by
 refine ⟨fun h => h2 fun s => by have := s.1; omega, fun h0 => ⟨fun h => h2 fun s => by have := s.2.1; omega, fun h3 => ⟨fun h => h2 fun s => by have := s.2.2.1; omega, fun h4 => ?_⟩⟩⟩; refine ⟨fun z => ∃ t : Nat, z = t /\ t <= X.length /\ ∀ k, k < t -> ((row X k).length : Int) = C, fun z => (X.length - z).toNat, ⟨0, rfl, Nat.zero_le _, fun k h => by omega⟩, ?_⟩; rintro _ ⟨t, rfl, ht, hk⟩; dsimp only; refine ⟨fun hlt => ⟨⟨by omega, by omega⟩, fun hne => h2 fun s => hne (s.2.2.2 _ (ZT (by omega))), fun he => ⟨Js (by omega) (by omega), ⟨t + 1, by push_cast; rfl, by omega, fun k hk' => ?_⟩, by omega⟩⟩, fun hge => h1 ⟨by omega, by omega, by omega, fun r hr => ?_⟩⟩
 .rcases Nat.lt_or_ge k t with h | h
  .exact hk k h
  .rw [show k = t by omega]; exact Classical.not_not.1 he
 .obtain ⟨t', h3, rfl⟩ := Zi hr; exact hk t' (by omega)
theorem Jsd {Q : LL -> Prop} (hX : X.length <= 1000000) (hr : ∀ r ∈ X, r.length <= 1000000) (h : Q X) : Jbt X Q := by
 refine ⟨⟨by omega, by omega, by omega⟩, fun x z => ∃ t : Nat, z = t /\ t <= X.length /\ x.length = X.length /\ ∀ k, k < t -> row x k = row X k, fun x z => (X.length - z).toNat, ⟨0, rfl, Nat.zero_le _, by simp, fun k h => by omega⟩, ?_⟩; rintro x _ ⟨t, rfl, ht, hx, hk⟩; dsimp only; refine ⟨fun hlt => ⟨⟨by omega, by omega⟩, Ja5 (hr _ (ZT (t := t) (by omega))) ⟨⟨by omega, by omega⟩, Js (by omega) (by omega), ⟨t + 1, by push_cast; rfl, by omega, ?_, fun k hk' => ?_⟩, ?_⟩⟩, fun hge => ?_⟩
 .rw [Jvw]; exact hx
 .show row (x.set t (row X t)) k = row X k; rw [Q6]; by_cases e : t = k
  .rw [if_pos ⟨e, by omega⟩, e]
  .rw [if_neg (fun h => e h.1)]; exact hk k (by omega)
 .omega
 .rw [show x = X from QT hx fun i hi => hk i (by omega)]; exact h
theorem Jvp {c s : Nat} {Q : Int -> Prop} (hs : s <= X.length) (hX : X.length <= 1000000) (hc : ∀ t, t < X.length -> c < (row X t).length) (h : Q ((nz X c s : Nat) : Int)) : Yf X s c Q := by
 refine ⟨fun r => r = ((nz X c s : Nat) : Int), ⟨fun z => ∃ t : Nat, z = t /\ s <= t /\ t <= X.length /\ ∀ k, s <= k -> k < t -> vo (row X k) c = 0, fun z => (X.length - z).toNat, ⟨s, rfl, Nat.le_refl _, hs, fun k h1 h2 => by omega⟩, ?_⟩, ?_⟩
 .rintro _ ⟨t, rfl, h1, h2, h3⟩; dsimp only; refine ⟨fun hlt => ⟨⟨by omega, by omega⟩, ⟨by omega, by have := hc t (by omega); show (c : Int) < ((row X t).length : Nat); omega⟩, fun he => ⟨Js (by omega) (by omega), ⟨t + 1, by push_cast; rfl, by omega, by omega, fun k hk1 hk2 => ?_⟩, by omega⟩, fun hne => ?_⟩, fun hge => ?_⟩
  .rcases Nat.lt_or_ge k t with h | h
   .exact h3 k hk1 h
   .rw [show k = t by omega]; exact he
  .exact congrArg _ (Ji1 h1 h2 h3 fun _ => hne)
  .exact congrArg _ (Ji1 h1 h2 h3 fun h => by omega)
 .rintro _ rfl; exact h
theorem Jaf {a o : LI} {x : Int} {Q : LI -> Prop} (K : GFk F p m v g) (hl : o.length <= a.length) (ha : a.length <= 1000000) (h : Q (adx p m v a x o)) : J2 F a x o Q := by
 refine ⟨fun h0 => by unfold adx at h; rwa [if_pos h0] at h, fun h0 => ?_⟩; unfold adx at h; rw [if_neg h0] at h; refine ⟨fun y z => ∃ t : Nat, z = t /\ t <= o.length /\ y.length = a.length /\ ∀ k, k < a.length -> vo y k = if k < t then vo (adm p m v a x o) k else vo a k, fun y z => (o.length - z).toNat, ⟨0, rfl, Nat.zero_le _, rfl, fun k hk => by simp⟩, ?_⟩; rintro y _ ⟨t, rfl, ht, hy, hk⟩; dsimp only; rw [JP, JP]; refine ⟨fun hlt => ⟨fun y' => y'.length = a.length /\ ∀ k, k < a.length -> vo y' k = if k < t + 1 then vo (adm p m v a x o) k else vo a k, ⟨⟨by omega, by omega⟩, fun hne => ⟨⟨by omega, by omega⟩, _, Jmf K rfl, _, v_Add K rfl, ⟨by omega, by omega⟩, ?_⟩, fun he => ?_⟩, ?_⟩, fun hge => ?_⟩
 .rw [Qs]; refine ⟨by rw [List.length_set]; exact hy, fun k hk' => ?_⟩; rw [Qe]; by_cases e : t = k
  .subst e; rw [if_pos ⟨rfl, by omega⟩, if_pos (by omega), Zy hk', if_neg hne, hk t hk', if_neg (by omega)]; rfl
  .rw [if_neg (fun h => e h.1), hk k hk']; by_cases hkt : k < t
   .rw [if_pos hkt, if_pos (by omega)]
   .rw [if_neg hkt, if_neg (by omega)]
 .have he' : vo o t = 0 := Classical.not_not.1 he; refine ⟨hy, fun k hk' => ?_⟩; rw [hk k hk']; by_cases e : k = t
  .subst e; rw [if_neg (by omega), if_pos (by omega), Zy hk', if_pos he']
  .by_cases hkt : k < t
   .rw [if_pos hkt, if_pos (by omega)]
   .rw [if_neg hkt, if_neg (by omega)]
 .rintro y' ⟨h1, h2⟩; exact ⟨Js (by omega) (by omega), ⟨t + 1, by push_cast; rfl, by omega, h1, h2⟩, by omega⟩
 .have : y = adm p m v a x o := YR (by rw [Jbj]; exact hy) fun i hi => by
   rw [hk i (by omega)]; by_cases hit : i < t
   .rw [if_pos hit]
   .rw [if_neg hit, Zy (by omega), if_pos (Jdt (by omega))]
  rw [this]; exact h
theorem Jmb {x : Int} {l : LI} {Q : LI -> Prop} (K : GFk F p m v g) (hl : l.length <= 1000) (h : Q (sc p m v x l)) : Zt F x l Q := Jvt K hl fun r h1 h2 => by
 have : r = sc p m v x l := YR (by rw [Jb2]; exact h1) fun i hi => by rw [h2 i (by omega), Jfc (by omega)]; rfl
 rw [this]; exact h
theorem Jr8 {x : Int} {l : LI} {Q : LI -> Prop} (hF : FV P M mf p m v) (hl : l.length <= 1000) (h : Q (sc p m v x l)) : Jbn P M mf x l Q := by
 refine ⟨⟨by omega, by omega, by omega⟩, fun y z => ∃ t : Nat, z = t /\ t <= l.length /\ y.length = l.length /\ ∀ k, k < t -> vo y k = vo (sc p m v x l) k, fun y z => (l.length - z).toNat, ⟨0, rfl, Nat.zero_le _, by simp, fun k h => by omega⟩, ?_⟩; rintro y _ ⟨t, rfl, ht, hy, hk⟩; dsimp only; rw [JP]; refine ⟨fun hlt => ⟨⟨by omega, by omega⟩, _, Jkb hF rfl, ⟨by omega, by omega⟩, Js (by omega) (by omega), ⟨t + 1, by push_cast; rfl, by omega, ?_, fun k hk' => ?_⟩, by omega⟩, fun hge => ?_⟩
 .rw [Qs, List.length_set]; exact hy
 .rw [Qs, Qe]; by_cases e : t = k
  .subst e; rw [if_pos ⟨rfl, by omega⟩, Jfc (by omega)]; rfl
  .rw [if_neg (fun h => e h.1)]; exact hk k (by omega)
 .rw [show y = sc p m v x l from YR (by rw [Jb2]; exact hy) fun i hi => hk i (by omega)]; exact h
theorem Jsa {a u : LI} {x : Int} {Q : LI -> Prop} (hF : FV P M mf p m v) (hl : a.length <= u.length) (ha : a.length <= 1000000) (h : Q (adm p m v a x u)) : Jbq P M mf a x u Q := by
 refine ⟨⟨by omega, by omega, by omega⟩, fun y z => ∃ t : Nat, z = t /\ t <= a.length /\ y.length = a.length /\ ∀ k, k < t -> vo y k = vo (adm p m v a x u) k, fun y z => (a.length - z).toNat, ⟨0, rfl, Nat.zero_le _, by simp, fun k h => by omega⟩, ?_⟩; rintro y _ ⟨t, rfl, ht, hy, hk⟩; dsimp only; rw [JP, JP]; refine ⟨fun hlt => ⟨fun y' => y'.length = a.length /\ ∀ k, k < t + 1 -> vo y' k = vo (adm p m v a x u) k, ⟨⟨by omega, by omega⟩, ⟨by omega, by omega⟩, ⟨by omega, by omega⟩, fun hne => ⟨⟨by omega, by omega⟩, ⟨by omega, by omega⟩, _, Jkb hF rfl, _, v_rAdd hF rfl, ⟨by omega, by omega⟩, ?_⟩, fun he => ?_⟩, ?_⟩, fun hge => ?_⟩
 .rw [Qs, Qs]; refine ⟨by rw [List.length_set, List.length_set]; exact hy, fun k hk' => ?_⟩; rw [Qe, List.length_set]; by_cases e : t = k
  .subst e; rw [if_pos ⟨rfl, by omega⟩, Zy (by omega), if_neg hne]; rfl
  .rw [if_neg (fun h => e h.1), Qe, if_neg (fun h => e h.1)]; exact hk k (by omega)
 .have he' : vo u t = 0 := Classical.not_not.1 he; rw [Qs]; refine ⟨by rw [List.length_set]; exact hy, fun k hk' => ?_⟩; rw [Qe]; by_cases e : t = k
  .subst e; rw [if_pos ⟨rfl, by omega⟩, Zy (by omega), if_pos he']
  .rw [if_neg (fun h => e h.1)]; exact hk k (by omega)
 .rintro y' ⟨h1, h2⟩; exact ⟨Js (by omega) (by omega), ⟨t + 1, by push_cast; rfl, by omega, h1, h2⟩, by omega⟩
 .rw [show y = adm p m v a x u from YR (by rw [Jbj]; exact hy) fun i hi => hk i (by omega)]; exact h
theorem Jvn {Q : LL -> Prop} (hX : X.length <= 1000000) (hr : ∀ r ∈ X, r.length <= 1000000) (h : Q X) : Jdn X Q := by
 refine ⟨fun x z => ∃ t : Nat, z = t /\ t <= X.length /\ x = X.take t, fun x z => (X.length - z).toNat, ⟨0, rfl, Nat.zero_le _, rfl⟩, ?_⟩; rintro _ _ ⟨t, rfl, ht, rfl⟩; dsimp only; refine ⟨fun hlt => ?_, fun hge => by rw [List.take_of_length_le (by omega)]; exact h⟩; have h1 := hr _ (ZT (t := t) (X := X) (by omega)); refine ⟨⟨by omega, by omega⟩, ?_, ?_, Js (by omega) (by omega), ⟨t + 1, by push_cast; rfl, by omega, ?_⟩, by omega⟩
 .show ((0 : Nat) + ((row X t).length : Nat) : Int) * 8 <= _; omega
 .rw [List.length_take]; omega
 .show X.take t ++ [[] ++ row X t] = _; rw [List.take_add_one, YI (d := []) (by omega)]; rfl
theorem Jr9 {C : Int} {n : Int} {Q : Bool -> Prop} (hn : 0 <= n /\ n <= 1000000) (h1 : C <= 260 -> X.length <= n -> (∀ r ∈ X, (r.length : Int) <= n) -> Q true) (h2 : Q false) : Jhl C X n Q := by
 refine ⟨fun _ => h2, fun hC => ⟨fun _ => h2, fun hX => ⟨Js (by omega) (by omega), fun y z => ∃ t : Nat, z = t /\ t <= X.length /\ 0 <= y /\ y <= n /\ ∀ k, k < t -> ((row X k).length : Int) <= n, fun y z => (X.length - z).toNat, ⟨0, rfl, Nat.zero_le _, by omega, by omega, fun k h => by omega⟩, ?_⟩⟩⟩; rintro y _ ⟨t, rfl, ht, hy, hy2, hk⟩; dsimp only; refine ⟨fun hlt => ⟨⟨by omega, by omega⟩, fun _ => h2, fun hge => ?_⟩, fun hge => h1 (by omega) (by omega) fun r hr => ?_⟩
 .have hge' : ((row X t).length : Int) <= y := by
   have : ¬ (y < (((row X t).length : Nat) : Int)) := hge; omega
  have hg : gl X (t : Int) = row X t := rfl; rw [hg]; refine ⟨⟨by omega, by omega⟩, Js (by omega) (by omega), Js (by omega) (by omega), ⟨t + 1, by push_cast; rfl, by omega, by omega, by omega, fun k hk' => ?_⟩, by omega⟩; rcases Nat.lt_or_ge k t with h | h
  .exact hk k h
  .rw [show k = t by omega]; omega
 .obtain ⟨t', h3, rfl⟩ := Zi hr; exact hk t' (by omega)
end
end Go.Proofs.YtgjloioccgcceaaGreat
namespace Go.Proofs.YtgjloioccgcceaaGreat
structure Shp (n w wy : Nat) (S : ES) : Prop where
  xl : S.X.length = n
  xr : ∀ t, t < n -> (row S.X t).length = w
  yl : S.Y.length = n
  yr : ∀ t, t < n -> (row S.Y t).length = wy
  pl : S.pv.length <= n
section
variable {p m v n w wy : Nat}
theorem Jig {X : LL} {i j t w : Nat} (hi : i < X.length) (hj : j < X.length) (h : ∀ t, t < X.length -> (row X t).length = w) (ht : t < X.length) : (row (swp X i j) t).length = w := by
 rw [Zg hi hj]; split
 .exact h _ hi
 .split
  .exact h _ hj
  .exact h _ ht
def swq (X : LL) (r cur : Nat) : LL := if r = cur then X else swp X r cur
theorem Qj (X : LL) (r cur : Nat) : (swq X r cur).length = X.length := by
 unfold swq; split
 .rfl
 .exact Jdc ..
theorem Ym {X : LL} {i j t w : Nat} (hi : i < X.length) (hj : j < X.length) (h : ∀ t, t < X.length -> (row X t).length = w) (ht : t < X.length) : (row (swq X i j) t).length = w := by
 unfold swq; split
 .exact h _ ht
 .exact Jig hi hj h ht
def scq (p m v : Nat) (X : LL) (cur : Nat) (e : Int) : LL := X.set cur (sc p m v (Iv p m v e) (row X cur))
theorem Q5 (X : LL) (cur : Nat) (e : Int) : (scq p m v X cur e).length = X.length := by simp [scq]
theorem Yn {X : LL} {cur t w : Nat} {e : Int} (hc : cur < X.length) (h : ∀ t, t < X.length -> (row X t).length = w) (ht : t < X.length) : (row (scq p m v X cur e) t).length = w := by
 unfold scq; rw [Q6]; split
 .rw [Jb2]; exact h _ hc
 .exact h _ ht
theorem Jcz {X : LL} {f : Nat -> Int} {cur t w : Nat} (h : ∀ t, t < X.length -> (row X t).length = w) (ht : t < X.length) : (row (clr p m v f cur X) t).length = w := by
 rw [Ja9 ht]; split
 .exact h _ ht
 .rw [Jhf]; exact h _ ht
theorem Jcy (c r cur : Nat) (S : ES) : (es1 p m v c r cur S).X = clr p m v (fun t => Ng p m (vo (row (scq p m v (swq S.X r cur) cur (vo (row (swq S.X r cur) cur) c)) t) c)) cur (scq p m v (swq S.X r cur) cur (vo (row (swq S.X r cur) cur) c)) := rfl
theorem Jt5 (c r cur : Nat) (S : ES) : (es1 p m v c r cur S).Y = clr p m v (fun t => Ng p m (vo (row (scq p m v (swq S.X r cur) cur (vo (row (swq S.X r cur) cur) c)) t) c)) cur (scq p m v (swq S.Y r cur) cur (vo (row (swq S.X r cur) cur) c)) := rfl
theorem Jwu {c r cur : Nat} {S : ES} (h : Shp n w wy S) (hr : r < n) (hc : cur < n) (hp : S.pv.length < n) : Shp n w wy (es1 p m v c r cur S) := by
 have hx := h.xl; have hy := h.yl; have ax : ∀ t, t < S.X.length -> (row S.X t).length = w := fun t ht => h.xr t (by omega); have ay : ∀ t, t < S.Y.length -> (row S.Y t).length = wy := fun t ht => h.yr t (by omega); refine ⟨?_, fun t ht => ?_, ?_, fun t ht => ?_, ?_⟩
 .rw [Jcy, Zo, Q5, Qj]; exact hx
 .rw [Jcy]; refine Jcz (fun t ht => ?_) (by rw [Q5, Qj]; omega); rw [Q5, Qj] at ht; refine Yn (by rw [Qj]; omega) (fun t ht => ?_) (by rw [Qj]; omega); rw [Qj] at ht; exact Ym (by omega) (by omega) ax ht
 .rw [Jt5, Zo, Q5, Qj]; exact hy
 .rw [Jt5]; refine Jcz (fun t ht => ?_) (by rw [Q5, Qj]; omega); rw [Q5, Qj] at ht; refine Yn (by rw [Qj]; omega) (fun t ht => ?_) (by rw [Qj]; omega); rw [Qj] at ht; exact Ym (by omega) (by omega) ay ht
 .show (S.pv ++ [(c : Int)]).length <= n; rw [List.length_append]; simp; omega
theorem Jor {c : Nat} {S : ES} (h : Shp n w wy S) : Shp n w wy (Yq p m v S c) := by
 unfold Yq; split
 .rename_i hc
  exact Jwu h (by have := h.xl; omega) (by have := h.xl; omega) (by have := h.xl; omega)
 .exact h
theorem Q1 (k : Nat) (S : ES) : elim p m v (k + 1) S = Yq p m v (elim p m v k S) k := by
 unfold elim; rw [List.range_succ, List.foldl_append]; rfl
theorem ZH {S : ES} (h : Shp n w wy S) : ∀ k, Shp n w wy (elim p m v k S)
 | 0 => h
 | k + 1 => by rw [Q1]; exact Jor (ZH h k)
theorem Jce {S : ES} {k : Nat} (h : ¬ (elim p m v k S).pv.length < (elim p m v k S).X.length) : ∀ j, elim p m v (k + j) S = elim p m v k S
 | 0 => rfl
 | j + 1 => by
  rw [<- Nat.add_assoc, Q1, Jce h j]; unfold Yq; rw [if_neg (fun hc => h hc.1)]
end
section
variable {F : GFv} {p m v g : Nat} {P M : Int} {mf : LI} {X Y : LL}
theorem Jnv (R : CR (p ^ m) (Qy p m) (JE p m (dv p v))) {x : Int} {z : Nat} (hx : inE (p ^ m) x < p ^ m) (hz : z < p ^ m) (h : JE p m (dv p v) z (inE (p ^ m) x) = 1) : Iv p m v x = (z : Int) := by
 unfold Iv; cases hf : (List.range (p ^ m)).find? fun z => JE p m (dv p v) z (inE (p ^ m) x) == 1 with
 | none =>
  have := List.find?_eq_none.1 hf z (List.mem_range.2 hz); simp [h] at this
 | some y =>
  have h1 := List.find?_some hf; have h2 := List.mem_range.1 (List.mem_of_find?_eq_some hf); have h1' : JE p m (dv p v) y (inE (p ^ m) x) = 1 := by simpa using h1
  show (y : Int) = z; have e : y = z := by
   have q1 : 1 < p ^ m := R.q2
   calc y = JE p m (dv p v) y 1 := (R.M1 h2).symm
    _ = JE p m (dv p v) y (JE p m (dv p v) z (inE (p ^ m) x)) := by rw [h]
    _ = JE p m (dv p v) y (JE p m (dv p v) (inE (p ^ m) x) z) := by rw [R.Mc hz hx]
    _ = JE p m (dv p v) (JE p m (dv p v) y (inE (p ^ m) x)) z := (R.Ma h2 hx hz).symm
    _ = JE p m (dv p v) 1 z := by rw [h1']
    _ = JE p m (dv p v) z 1 := R.Mc q1 hz
    _ = z := R.M1 hz
  rw [e]
theorem Jxr (R : CR (p ^ m) (Qy p m) (JE p m (dv p v))) {x : Int} (hx : inE (p ^ m) x = 0) : Iv p m v x = 0 := by
 unfold Iv; cases hf : (List.range (p ^ m)).find? fun z => JE p m (dv p v) z (inE (p ^ m) x) == 1 with
 | none => rfl
 | some y =>
  have h1 := List.find?_some hf; have h2 := List.mem_range.1 (List.mem_of_find?_eq_some hf); rw [hx, R.M0 h2] at h1; simp at h1
def prt (p m v : Nat) (f : Nat -> Int) (cur t : Nat) (X : LL) : LL := (List.range X.length).map fun s => if s < t /\ s ≠ cur then adx p m v (row X s) (f s) (row X cur) else row X s
theorem Q7 (f : Nat -> Int) (cur t : Nat) (X : LL) : (prt p m v f cur t X).length = X.length := by simp [prt]
theorem QK {f : Nat -> Int} {cur t s : Nat} (h : s < X.length) : row (prt p m v f cur t X) s = if s < t /\ s ≠ cur then adx p m v (row X s) (f s) (row X cur) else row X s := Jde h
theorem Jd8 (f : Nat -> Int) (cur : Nat) : prt p m v f cur 0 X = X := QT (Q7 ..) fun i hi => by
 rw [Q7] at hi; rw [QK hi, if_neg (by omega)]
theorem Jgb (f : Nat -> Int) (cur : Nat) : prt p m v f cur X.length X = clr p m v f cur X := QT (by rw [Q7, Zo]) fun i hi => by
 rw [Q7] at hi; rw [QK hi, Ja9 hi]; by_cases h : i = cur
 .rw [if_neg (fun hh => hh.2 h), if_pos h]
 .rw [if_pos ⟨hi, h⟩, if_neg h]
theorem prt_same {f : Nat -> Int} {cur : Nat} : prt p m v f cur (cur + 1) X = prt p m v f cur cur X := QT (by rw [Q7, Q7]) fun i hi => by
 rw [Q7] at hi; rw [QK hi, QK hi]; by_cases h : i = cur
 .rw [if_neg (fun hh => hh.2 h), if_neg (fun hh => hh.2 h)]
 .by_cases h1 : i < cur
  .rw [if_pos ⟨by omega, h⟩, if_pos ⟨h1, h⟩]
  .rw [if_neg (fun hh => h1 (by omega)), if_neg (fun hh => h1 hh.1)]
theorem Jba {f : Nat -> Int} {cur t : Nat} (ht : t < X.length) (hc : t ≠ cur) : (prt p m v f cur t X).set t (adx p m v (row X t) (f t) (row X cur)) = prt p m v f cur (t + 1) X := QT (by rw [List.length_set, Q7, Q7]) fun i hi => by
 rw [List.length_set, Q7] at hi; rw [Q6, Q7, QK (t := t + 1) hi]; by_cases h : t = i
 .subst h; rw [if_pos ⟨rfl, ht⟩, if_pos ⟨by omega, hc⟩]
 .rw [if_neg (fun hh => h hh.1), QK hi]; by_cases h1 : i < t
  .by_cases h2 : i = cur
   .rw [if_neg (fun hh => hh.2 h2), if_neg (fun hh => hh.2 h2)]
   .rw [if_pos ⟨h1, h2⟩, if_pos ⟨by omega, h2⟩]
  .rw [if_neg (fun hh => h1 hh.1), if_neg (fun hh => h1 (by omega))]
theorem Jh8 {cols wy : Nat} {Q : LI × Int × LL × LL -> Prop} (K : GFk F p m v g) (hX : X.length <= 300) (hc : cols <= 300) (hw : wy <= 300) (hS : Shp X.length cols wy ⟨X, Y, [], 1⟩)
  (h : Q ((elim p m v cols ⟨X, Y, [], 1⟩).pv, (elim p m v cols ⟨X, Y, [], 1⟩).d, (elim p m v cols ⟨X, Y, [], 1⟩).X, (elim p m v cols ⟨X, Y, [], 1⟩).Y)) : Yw F cols X Y Q := by
 have hYl : Y.length = X.length := hS.yl; generalize hS0 : (⟨X, Y, [], 1⟩ : ES) = S0 at h hS; refine ⟨fun a b c d => (⟨a, b, c, d⟩ : ES) = elim p m v cols S0, ⟨fun a b c d z => ∃ k : Nat, z = k /\ k <= cols /\ (⟨a, b, c, d⟩ : ES) = elim p m v k S0, fun _ _ _ _ z => (cols - z).toNat, ⟨0, rfl, Nat.zero_le _, hS0⟩, ?_⟩, ?_⟩
 .rintro a b c d _ ⟨k, rfl, hk, he⟩; have hs := ZH (p := p) (m := m) (v := v) hS k; have hstop := Jce (p := p) (m := m) (v := v) (S := S0) (k := k); have hsucc := Q1 (p := p) (m := m) (v := v) k S0; rw [<- he] at hs hstop hsucc; have hal : a.length = X.length := hs.xl; have hbl : b.length = X.length := hs.yl; have har := hs.xr; have hbr := hs.yr; have hpl : c.length <= X.length := hs.pl; simp only at har hbr; refine ⟨fun hlt => ⟨fun hlc => ?_, fun hge => ?_⟩, fun hge => ?_⟩
  .have hcur : c.length < X.length := by omega
   have hkc : k < cols := by omega
   refine ⟨fun pv x y d' _ _ => (⟨x, y, pv, d'⟩ : ES) = elim p m v (k + 1) S0, Jvp (by omega) (by omega) (fun t ht => by rw [har t (by omega)]; exact hkc) ?_, ?_⟩
   .refine ⟨fun heq => ?_, fun hne => ?_⟩
    .rw [hsucc]; unfold Yq; rw [if_neg (fun hh => by have := hh.2; simp only at this; omega)]
    .have hnz := (ZX a k c.length (by omega)).1; have hr : nz a k c.length < X.length := by omega
     generalize hrr : nz a k c.length = r at hr hne; rw [show Yq p m v ⟨a, b, c, d⟩ k = es1 p m v k r c.length ⟨a, b, c, d⟩ by unfold Yq; rw [if_pos ⟨by simp only; omega, by simp only; omega⟩, <- hrr]] at hsucc; refine ⟨fun x y d' => x = swq a r c.length /\ y = swq b r c.length /\ d' = (if r = c.length then d else Ng p m d), ⟨fun hrc => ⟨⟨by omega, by omega⟩, ⟨by omega, by omega⟩, ⟨by omega, by omega⟩, ⟨by omega, by omega⟩, ⟨by omega, by omega⟩, ⟨by omega, by omega⟩, ⟨by omega, by omega⟩, ⟨by omega, by omega⟩, v_Neg K ?_⟩, fun hrc => ?_⟩, ?_⟩
     .have hrc' : r ≠ c.length := fun e => hrc (by rw [e]); refine ⟨?_, ?_, by rw [if_neg hrc']; rfl⟩
      .unfold swq; rw [if_neg hrc']; rfl
      .unfold swq; rw [if_neg hrc']; rfl
     .have hrc' : r = c.length := by have := Classical.not_not.1 hrc; omega
      refine ⟨?_, ?_, by rw [if_pos hrc']⟩
      .unfold swq; rw [if_pos hrc']
      .unfold swq; rw [if_pos hrc']
     .rintro _ _ _ ⟨rfl, rfl, rfl⟩; have hx1 : ∀ t, t < X.length -> (row (swq a r c.length) t).length = cols := fun t ht => Ym (by omega) (by omega) (fun t ht => har t (by omega)) (by omega); have hy1 : ∀ t, t < X.length -> (row (swq b r c.length) t).length = wy := fun t ht => Ym (by omega) (by omega) (fun t ht => hbr t (by omega)) (by omega); have hl1 := Qj a r c.length; have hl2 := Qj b r c.length; have hxs := Jcy (p := p) (m := m) (v := v) k r c.length ⟨a, b, c, d⟩; have hys := Jt5 (p := p) (m := m) (v := v) k r c.length ⟨a, b, c, d⟩; have hds : (es1 p m v k r c.length ⟨a, b, c, d⟩).d = Ml p m v (if r = c.length then d else Ng p m d) (vo (row (swq a r c.length) c.length) k) := rfl; have hps : (es1 p m v k r c.length ⟨a, b, c, d⟩).pv = c ++ [(k : Int)] := rfl; simp only at hxs hys; generalize swq a r c.length = x1 at *
      generalize swq b r c.length = y1 at *
      have he1 : gi (gl x1 (c.length : Nat)) (k : Int) = vo (row x1 c.length) k := rfl; refine ⟨⟨by omega, by omega⟩, ⟨by omega, ?_⟩, _, Jmf K rfl, fun z => z = Iv p m v (vo (row x1 c.length) k), ⟨⟨by omega, by omega⟩, ⟨by omega, ?_⟩, Iv p m v (vo (row x1 c.length) k), ?_⟩, ?_⟩
      .show (k : Int) < ((row x1 c.length).length : Nat); rw [hx1 _ hcur]; omega
      .show (k : Int) < ((row x1 c.length).length : Nat); rw [hx1 _ hcur]; omega
      .by_cases h0 : inE (p ^ m) (vo (row x1 c.length) k) = 0
       .exact ⟨7, v_Inv K (fun _ => by rw [Jxr K.fv.ring h0]) (fun z h1 => absurd h0 h1), rfl⟩
       .exact ⟨0, v_Inv K (fun h1 => absurd h1 h0) (fun z h1 h2 h3 => by have e := Jnv (x := vo (row x1 c.length) k) K.fv.ring (Qn (by have := K.fv.ring.q2; omega) _) h2 h3; rw [e]), rfl⟩
      .rintro _ rfl; have hsx : sll x1 (c.length : Int) (sc p m v (Iv p m v (vo (row x1 c.length) k)) (row x1 c.length)) = scq p m v x1 c.length (vo (row x1 c.length) k) := rfl; have hsy : sll y1 (c.length : Int) (sc p m v (Iv p m v (vo (row x1 c.length) k)) (row y1 c.length)) = scq p m v y1 c.length (vo (row x1 c.length) k) := rfl; refine ⟨⟨by omega, by omega⟩, _, Jmb K (by show (row x1 c.length).length <= 1000; rw [hx1 _ hcur]; omega) rfl, ⟨by omega, by omega⟩, ⟨by omega, by omega⟩, _, Jmb K (by show (row y1 c.length).length <= 1000; rw [hy1 _ hcur]; omega) rfl, ⟨by omega, by omega⟩, ?_⟩; have hx2 : ∀ t, t < X.length -> (row (scq p m v x1 c.length (vo (row x1 c.length) k)) t).length = cols := fun t ht => Yn (by omega) (fun t ht => hx1 t (by omega)) (by omega); have hy2 : ∀ t, t < X.length -> (row (scq p m v y1 c.length (vo (row x1 c.length) k)) t).length = wy := fun t ht => Yn (by omega) (fun t ht => hy1 t (by omega)) (by omega); have hl3 := Q5 (p := p) (m := m) (v := v) x1 c.length (vo (row x1 c.length) k); have hl4 := Q5 (p := p) (m := m) (v := v) y1 c.length (vo (row x1 c.length) k); generalize scq p m v x1 c.length (vo (row x1 c.length) k) = x2 at *
       generalize scq p m v y1 c.length (vo (row x1 c.length) k) = y2 at *
       have hfm : ∀ t, t < X.length -> vo (row (prt p m v (fun t => Ng p m (vo (row x2 t) k)) c.length t x2) t) k = vo (row x2 t) k := fun t ht => by
        rw [QK (by omega), if_neg (by omega)]
       generalize hf : (fun t => Ng p m (vo (row x2 t) k)) = f at *
       refine ⟨fun x y z => ∃ t : Nat, z = t /\ t <= X.length /\ x = prt p m v f c.length t x2 /\ y = prt p m v f c.length t y2, fun x y z => (X.length - z).toNat, ⟨0, rfl, Nat.zero_le _, hsx.trans (Jd8 _ _).symm, hsy.trans (Jd8 _ _).symm⟩, ?_⟩; rintro _ _ _ ⟨t, rfl, ht, rfl, rfl⟩; refine ⟨fun hlt2 => ?_, fun hge2 => ?_⟩
       .have htX : t < X.length := by omega
        have hg1 : gl (prt p m v f c.length t x2) (t : Int) = row x2 t := by
         show row (prt p m v f c.length t x2) t = _; rw [QK (by omega), if_neg (by omega)]
        have hg2 : gl (prt p m v f c.length t y2) (t : Int) = row y2 t := by
         show row (prt p m v f c.length t y2) t = _; rw [QK (by omega), if_neg (by omega)]
        have hg3 : gl (prt p m v f c.length t x2) (c.length : Int) = row x2 c.length := by
         show row (prt p m v f c.length t x2) c.length = _; rw [QK (by omega), if_neg (by omega)]
        have hg4 : gl (prt p m v f c.length t y2) (c.length : Int) = row y2 c.length := by
         show row (prt p m v f c.length t y2) c.length = _; rw [QK (by omega), if_neg (by omega)]
        rw [hg1, hg2, hg3, hg4]; have hft : Ng p m (gi (row x2 t) (k : Int)) = f t := by rw [<- hf]; rfl
        refine ⟨fun x y z => x = prt p m v f c.length (t + 1) x2 /\ y = prt p m v f c.length (t + 1) y2, ⟨⟨by omega, by omega⟩, ⟨by omega, by rw [hx2 t htX]; omega⟩, _, v_Neg K rfl, fun hne2 => ?_, fun he2 => ?_⟩, ?_⟩
        .have hne3 : t ≠ c.length := fun e => hne2 (by rw [e]); have hne4 : (c.length : Int).toNat ≠ (t : Int).toNat := by omega
         refine ⟨⟨by omega, by omega⟩, ⟨by omega, by omega⟩, hne4, Jaf K (by rw [hx2 t htX, hx2 _ hcur]; exact Nat.le_refl _) (by rw [hx2 t htX]; omega) ⟨⟨by omega, by omega⟩, ⟨by omega, by omega⟩, hne4, Jaf K (by rw [hy2 t htX, hy2 _ hcur]; exact Nat.le_refl _) (by rw [hy2 t htX]; omega) ⟨?_, ?_⟩⟩⟩
         .show (prt p m v f c.length t x2).set t (adx p m v (row x2 t) (Ng p m (gi (row x2 t) (k : Int))) (row x2 c.length)) = _; rw [hft, Jba (by omega) hne3]
         .show (prt p m v f c.length t y2).set t (adx p m v (row y2 t) (Ng p m (gi (row x2 t) (k : Int))) (row y2 c.length)) = _; rw [hft, Jba (by omega) hne3]
        .have he3 : t = c.length := by have := Classical.not_not.1 he2; omega
         subst he3; exact ⟨prt_same.symm, prt_same.symm⟩
        .rintro _ _ _ ⟨rfl, rfl⟩; refine ⟨Js (by omega) (by omega), ⟨t + 1, by push_cast; rfl, by omega, rfl, rfl⟩, ?_⟩; show ((X.length : Int) - ((t : Int) + 1)).toNat < ((X.length : Int) - (t : Int)).toNat; omega
       .have hte : t = X.length := by omega
        subst hte; refine ⟨by omega, ?_⟩; have e1 := Jgb (p := p) (m := m) (v := v) (X := x2) f c.length; have e2 := Jgb (p := p) (m := m) (v := v) (X := y2) f c.length; rw [show x2.length = X.length by omega] at e1; rw [show y2.length = X.length by omega] at e2; rw [e1, e2, hsucc]; rw [<- hxs, <- hys]; show (⟨_, _, c ++ [(k : Int)], _⟩ : ES) = _; rw [<- hps]; show (⟨(es1 p m v k r c.length ⟨a, b, c, d⟩).X, (es1 p m v k r c.length ⟨a, b, c, d⟩).Y, (es1 p m v k r c.length ⟨a, b, c, d⟩).pv, Ml p m v (if r = c.length then d else Ng p m d) (vo (row x1 c.length) k)⟩ : ES) = _; rw [<- hds]
   .rintro pv x y d' _ _ hE; refine ⟨Js (by omega) (by omega), ⟨k + 1, by push_cast; rfl, by omega, hE⟩, ?_⟩; show ((cols : Int) - ((k : Int) + 1)).toNat < ((cols : Int) - (k : Int)).toNat; omega
  .have hst := hstop (by show ¬ c.length < a.length; omega) (cols - k); rw [show k + (cols - k) = cols by omega] at hst; exact hst.symm
  .show (⟨a, b, c, d⟩ : ES) = _; rw [he, show k = cols by omega]
 .rintro a b c d he; rw [<- he] at h; exact h
end
end Go.Proofs.YtgjloioccgcceaaGreat
namespace Go.Proofs.YtgjloioccgcceaaGreat
section
variable {p m v n w wy : Nat}
theorem Jt8 {q : Nat} (h : q < p ^ m) : El p m (q : Int) := ⟨by omega, by omega⟩
theorem Jk9 {l : LI} (h : Elr p m l) {t : Nat} (ht : t < l.length) : El p m (vo l t) := h _ (Jds ht)
theorem Qt {X : LL} (h : Els p m X) (t : Nat) : Elr p m (row X t) := by
 rcases Nat.lt_or_ge t X.length with ht | ht
 .exact h _ (ZT ht)
 .rw [row_hi ht]; exact fun x hx => by cases hx
theorem ZG {X : LL} (h : ∀ t, t < X.length -> Elr p m (row X t)) : Els p m X := fun r hr => by
 obtain ⟨t, ht, rfl⟩ := Zi hr; exact h t ht
theorem Jt7 {l : LI} (h : ∀ t, t < l.length -> El p m (vo l t)) : Elr p m l := fun x hx => by
 obtain ⟨t, ht, rfl⟩ := Jkw hx; exact h t ht
theorem Js4 (hp : 0 < p) {x : Int} {l : LI} : Elr p m (sc p m v x l) := Jt7 fun t ht => by
 rw [Jb2] at ht; rw [Jfc ht]; exact Jt8 (Jg5 hp _ _)
theorem Jw1 (hp : 0 < p) {a o : LI} {x : Int} (ha : Elr p m a) : Elr p m (adm p m v a x o) := Jt7 fun t ht => by
 rw [Jbj] at ht; rw [Zy ht]; split
 .exact Jk9 ha ht
 .exact Jt8 (Jna hp _ _)
theorem Jw0 (hp : 0 < p) {a o : LI} {x : Int} (ha : Elr p m a) : Elr p m (adx p m v a x o) := by
 unfold adx; split
 .exact ha
 .exact Jw1 hp ha
theorem Jg6 (hp : 0 < p) {c r cur : Nat} {S : ES} (h : Els p m S.X) (hr : r < S.X.length) (hc : cur < S.X.length) : Els p m (es1 p m v c r cur S).X := by
 rw [Jcy]; have h1 : Els p m (swq S.X r cur) := ZG fun t ht => by
  rw [Qj] at ht; unfold swq; split
  .exact Qt h t
  .rw [Zg hr hc]; split
   .exact Qt h _
   .split <;> exact Qt h _
 have h2 : ∀ e, Els p m (scq p m v (swq S.X r cur) cur e) := fun e => ZG fun t ht => by
  unfold scq; rw [Q6]; split
  .exact Js4 hp
  .exact Qt h1 t
 refine ZG fun t ht => ?_; rw [Zo] at ht; rw [Ja9 ht]; split
 .exact Qt (h2 _) t
 .exact Jw0 hp (Qt (h2 _) t)
theorem Jos (hp : 0 < p) {c : Nat} {S : ES} (h : Els p m S.X) : Els p m (Yq p m v S c).X := by
 unfold Yq; split
 .rename_i hc; exact Jg6 hp h hc.2 hc.1
 .exact h
theorem Jen (hp : 0 < p) {S : ES} (h : Els p m S.X) : ∀ k, Els p m (elim p m v k S).X
 | 0 => h
 | k + 1 => by rw [Q1]; exact Jos hp (Jen hp h k)
end
section
variable {F : GFv} {p m v g : Nat} {P M : Int} {mf : LI} {X Y : LL}
theorem Jg1 {x : Int} (h : El p m x) : ((inE (p ^ m) x : Nat) : Int) = x := by
 unfold inE; rw [if_pos (show 0 <= x /\ x < ((p ^ m : Nat) : Int) from h)]; have := h.1; omega
theorem Jm4 (hF : FV P M mf p m v) {x : Int} (h : El p m x) : Ng p m x = 0 ↔ x = 0 := by
 have R := hF.ring; have hp := hF.p2; have hx := Qn (q := p ^ m) (by have := R.q2; omega) x; have h1 := Jem (p := p) (m := m) (by omega) hx; constructor
 .intro h0; have h2 : ZE p m (inE (p ^ m) x) = 0 := Int.ofNat.inj h0; rw [h2, R.Az hx] at h1; rw [<- Jg1 h, h1]; rfl
 .intro h0; have h3 : inE (p ^ m) x = 0 := by rw [h0]; unfold inE; split <;> rfl
  rw [h3] at h1; show ((ZE p m (inE (p ^ m) x) : Nat) : Int) = 0; rw [h3]; have h4 : ZE p m 0 < p ^ m := Jg4 (by omega) 0; have h5 : Qy p m 0 (ZE p m 0) = ZE p m 0 := by rw [R.Ac, R.Az h4]
  rw [h5] at h1; rw [h1]; rfl
theorem ml_one (hF : FV P M mf p m v) {x : Int} (h : El p m x) : Ml p m v 1 x = x := by
 have R := hF.ring; have hq := R.q2; have hx := Qn (q := p ^ m) (by omega) x; unfold Ml; rw [show inE (p ^ m) (1 : Int) = 1 from QU (x := 1) (by omega), R.Mc (by omega) hx, R.M1 hx]; exact Jg1 h
theorem Jtu (hF : FV P M mf p m v) : Iv p m v 1 = 1 := by
 have R := hF.ring; have hq := R.q2; have e1 : inE (p ^ m) (1 : Int) = 1 := QU (x := 1) (by omega); exact Jnv R (z := 1) (by rw [e1]; omega) (by omega) (by rw [e1]; exact R.M1 (by omega))
theorem Js3 (hF : FV P M mf p m v) {l : LI} (h : Elr p m l) : sc p m v 1 l = l := YR (Jb2 _ _) fun i hi => by
 rw [Jb2] at hi; rw [Jfc hi, ml_one hF (Jk9 h hi)]
theorem w_rInv {x : Int} {Q : Int -> Prop} (hF : FV P M mf p m v) (h : Q (Iv p m v x)) : Jhk P M mf x Q := by
 have hq := hF.q; have R := hF.ring; have hq2 := R.q2; have hxl := Qn (q := p ^ m) (by omega) x; refine ⟨fun z => ∃ n : Nat, z = n /\ 1 <= n /\ n <= p ^ m /\ ∀ k, k < n -> JE p m (dv p v) (inE (p ^ m) x) k ≠ 1, fun z => (((p ^ m : Nat) : Int) - z).toNat, ⟨1, rfl, Nat.le_refl 1, by omega, fun k hk => by
  rw [show k = 0 by omega, R.M0 hxl]; omega⟩, ?_⟩
 rintro _ ⟨n, rfl, hn1, hn, hk⟩; refine Jdv ?_; rw [hF.ord]; dsimp only; refine ⟨fun hlt => Jkb hF ?_, fun hge => ?_⟩
 .have hnq : n < p ^ m := Int.ofNat_lt.1 hlt; rw [QU hnq]; refine ⟨fun he => ?_, fun hne => ⟨Js (by omega) (by omega), ⟨n + 1, by push_cast; rfl, by omega, by omega, fun k hk' => ?_⟩, by omega⟩⟩
  .have h1 : JE p m (dv p v) (inE (p ^ m) x) n = 1 := Int.ofNat.inj he; rw [<- Jnv R hxl hnq (by rw [R.Mc hnq hxl]; exact h1)]; exact h
  .rcases Nat.lt_or_ge k n with h | h
   .exact hk k h
   .rw [show k = n by omega]; exact fun e => hne (by rw [e]; rfl)
 .have e : Iv p m v x = 0 := by
   unfold Iv; cases hf : (List.range (p ^ m)).find? fun z => JE p m (dv p v) z (inE (p ^ m) x) == 1 with
   | none => rfl
   | some y =>
    have h1 := List.find?_some hf; have h2 := List.mem_range.1 (List.mem_of_find?_eq_some hf); have h1' : JE p m (dv p v) y (inE (p ^ m) x) = 1 := by simpa using h1
    exact absurd (by rw [R.Mc hxl h2]; exact h1') (hk y (by omega))
  rw [e] at h; exact h
theorem Je2 {cols W wy : Nat} {d0 : Int} {Q : LL × LI -> Prop} (hF : FV P M mf p m v) (hX : X.length <= 300) (hc : cols <= W) (hW : W <= 1000) (hS : Shp X.length W wy ⟨X, Y, [], d0⟩) (hE : Els p m X)
  (h : Q ((elim p m v cols ⟨X, Y, [], d0⟩).X, (elim p m v cols ⟨X, Y, [], d0⟩).pv)) : QM P M mf X cols Q := by
 have hp2 := hF.p2; have hE0 : ∀ k, Els p m (elim p m v k ⟨X, Y, [], d0⟩).X := Jen (by omega) hE; have hXr : ∀ r ∈ X, r.length <= 1000000 := fun r hr => by
  obtain ⟨t, ht, rfl⟩ := Zi hr; have := hS.xr t ht; simp only at this; omega
 refine Jvn (by omega) hXr ?_; generalize hS0 : (⟨X, Y, [], d0⟩ : ES) = S0 at h hS hE0; have hX0 : X = S0.X := by rw [<- hS0]
 have hP0 : ([] : LI) = S0.pv := by rw [<- hS0]
 refine ⟨fun a c => a = (elim p m v cols S0).X /\ c = (elim p m v cols S0).pv, ⟨fun a c z y => ∃ k : Nat, y = k /\ k <= cols /\ a = (elim p m v k S0).X /\ c = (elim p m v k S0).pv /\ z = ((elim p m v k S0).pv.length : Nat), fun _ _ _ y => (cols - y).toNat, ⟨0, rfl, Nat.zero_le _, hX0, hP0, by show (0 : Int) = ((S0.pv.length : Nat) : Int); rw [<- hP0]; rfl⟩, ?_⟩, ?_⟩
 .rintro _ _ _ _ ⟨k, rfl, hk, rfl, rfl, rfl⟩; have hs := ZH (p := p) (m := m) (v := v) hS k; have hstop := Jce (p := p) (m := m) (v := v) (S := S0) (k := k); have hsucc := Q1 (p := p) (m := m) (v := v) k S0; have hek := hE0 k; generalize hSk : elim p m v k S0 = S at *
  have hal := hs.xl; have har := hs.xr; have hpl := hs.pl; refine ⟨fun hlt => ⟨fun hlc => ?_, fun hge => ?_⟩, fun hge => ?_⟩
  .have hcur : S.pv.length < X.length := by omega
   have hkc : k < cols := by omega
   have hsp := ZX S.X k S.pv.length (by omega); refine ⟨fun pv x z _ _ _ _ => x = (elim p m v (k + 1) S0).X /\ pv = (elim p m v (k + 1) S0).pv /\ z = ((elim p m v (k + 1) S0).pv.length : Nat), ⟨fun r _ _ => r = ((nz S.X k S.pv.length : Nat) : Int), ⟨fun z _ => ∃ t : Nat, z = t /\ S.pv.length <= t /\ t <= X.length /\ ∀ s, S.pv.length <= s -> s < t -> vo (row S.X s) k = 0, fun z _ => (X.length - z).toNat, ⟨_, rfl, Nat.le_refl _, by omega, fun s h1 h2 => by omega⟩, ?_⟩, ?_⟩, ?_⟩
   .rintro _ _ ⟨t, rfl, h1, h2, h3⟩; dsimp only; refine ⟨fun hlt2 => ⟨⟨by omega, by omega⟩, ⟨by omega, by show (k : Int) < ((row S.X t).length : Nat); rw [har t (by omega)]; omega⟩, fun he => ⟨Js (by omega) (by omega), ⟨t + 1, by push_cast; rfl, by omega, by omega, fun s hs1 hs2 => ?_⟩, by omega⟩, fun hne => ?_⟩, fun hge2 => ?_⟩
    .rcases Nat.lt_or_ge s t with h | h
     .exact h3 s hs1 h
     .rw [show s = t by omega]; exact he
    .exact congrArg _ (Ji1 h1 (by omega) h3 fun _ => hne)
    .exact congrArg _ (Ji1 h1 (by omega) h3 fun h => by omega)
   .rintro _ _ _ rfl; refine ⟨fun heq => ?_, fun hne => ?_⟩
    .have e : elim p m v (k + 1) S0 = S := by
      rw [hsucc]; unfold Yq; rw [if_neg (fun hh => by have := hh.2; omega)]
     rw [e]; exact ⟨rfl, rfl, rfl⟩
    .have hr : nz S.X k S.pv.length < X.length := by have := hsp.1; omega
     have hge := Jm3 S.X k S.pv.length; generalize hrr : nz S.X k S.pv.length = r at hr hge hsp; rw [show Yq p m v S k = es1 p m v k r S.pv.length S by unfold Yq; rw [if_pos ⟨by omega, by omega⟩, <- hrr]] at hsucc; have hsw : sll (sll S.X ((S.pv.length : Nat) : Int) (gl S.X (r : Int))) (r : Int) (gl S.X ((S.pv.length : Nat) : Int)) = swq S.X r S.pv.length := by
      show swp S.X S.pv.length r = _; unfold swq; split
      .rename_i e; rw [e]; exact Jsu (by omega)
      .exact Jsv (by omega) (by omega)
     refine ⟨True, ⟨⟨by omega, by omega⟩, ⟨by omega, by omega⟩, ⟨by omega, by omega⟩, ⟨by omega, by omega⟩, trivial⟩, fun _ => ?_⟩; rw [hsw]; have hx1 : ∀ t, t < X.length -> (row (swq S.X r S.pv.length) t).length = W := fun t ht => Ym (by omega) (by omega) (fun t ht => har t (by omega)) (by omega); have hl1 := Qj S.X r S.pv.length; have hes : Els p m (es1 p m v k r S.pv.length S).X := Jg6 (by omega) hek (by omega) (by omega); have hxs := Jcy (p := p) (m := m) (v := v) k r S.pv.length S; have hps : (es1 p m v k r S.pv.length S).pv = S.pv ++ [(k : Int)] := rfl; have hel1 : Els p m (swq S.X r S.pv.length) := ZG fun t ht => by
      rw [Qj] at ht; unfold swq; split
      .exact Qt hek t
      .rw [Zg (by omega) (by omega)]; split
       .exact Qt hek _
       .split <;> exact Qt hek _
     generalize swq S.X r S.pv.length = x1 at *
     refine ⟨⟨by omega, by omega⟩, ⟨by omega, by show (k : Int) < ((row x1 S.pv.length).length : Nat); rw [hx1 _ hcur]; omega⟩, fun x => x = scq p m v x1 S.pv.length (vo (row x1 S.pv.length) k), ⟨fun hne1 => ⟨⟨by omega, by omega⟩, ⟨by omega, by show (k : Int) < ((row x1 S.pv.length).length : Nat); rw [hx1 _ hcur]; omega⟩, _, w_rInv hF rfl, ⟨by omega, by omega⟩, _, Jr8 hF (by show (row x1 S.pv.length).length <= 1000; rw [hx1 _ hcur]; omega) rfl, ⟨by omega, by omega⟩, rfl⟩, fun he1 => ?_⟩, ?_⟩
     .have he2 : vo (row x1 S.pv.length) k = 1 := Classical.not_not.1 he1; unfold scq; rw [he2, Jtu hF, Js3 hF (Qt hel1 _)]; refine (QT (by rw [List.length_set]) fun i hi => ?_).symm; rw [Q6]; split
      .rename_i h; rw [h.1]
      .rfl
     .rintro _ rfl; have hx2 : ∀ t, t < X.length -> (row (scq p m v x1 S.pv.length (vo (row x1 S.pv.length) k)) t).length = W := fun t ht => Yn (by omega) (fun t ht => hx1 t (by omega)) (by omega); have hl3 := Q5 (p := p) (m := m) (v := v) x1 S.pv.length (vo (row x1 S.pv.length) k); have hel2 : Els p m (scq p m v x1 S.pv.length (vo (row x1 S.pv.length) k)) := ZG fun t ht => by
       unfold scq; rw [Q6]; split
       .exact Js4 (by omega)
       .exact Qt hel1 t
      generalize scq p m v x1 S.pv.length (vo (row x1 S.pv.length) k) = x2 at *
      generalize hf : (fun t => Ng p m (vo (row x2 t) k)) = f at *
      refine ⟨fun x z => ∃ t : Nat, z = t /\ t <= X.length /\ x = prt p m v f S.pv.length t x2, fun x z => (X.length - z).toNat, ⟨0, rfl, Nat.zero_le _, (Jd8 _ _).symm⟩, ?_⟩; rintro _ _ ⟨t, rfl, ht, rfl⟩; refine ⟨fun hlt2 => ?_, fun hge2 => ?_⟩
      .have htX : t < X.length := by omega
       have hg1 : gl (prt p m v f S.pv.length t x2) (t : Int) = row x2 t := by
        show row (prt p m v f S.pv.length t x2) t = _; rw [QK (by omega), if_neg (by omega)]
       have hg3 : gl (prt p m v f S.pv.length t x2) ((S.pv.length : Nat) : Int) = row x2 S.pv.length := by
        show row (prt p m v f S.pv.length t x2) S.pv.length = _; rw [QK (by omega), if_neg (by omega)]
       rw [hg1, hg3]; have hft : Ng p m (gi (row x2 t) (k : Int)) = f t := by rw [<- hf]; rfl
       have hent : El p m (vo (row x2 t) k) := Jk9 (Qt hel2 t) (by rw [hx2 t htX]; omega); have hz := Jm4 hF hent; refine ⟨fun x _ => x = prt p m v f S.pv.length (t + 1) x2, ⟨fun hne2 => ?_, fun he2 => ?_⟩, ?_⟩
       .have hne3 : t ≠ S.pv.length := fun e => hne2 (by rw [e]); refine ⟨⟨by omega, by omega⟩, ⟨by omega, by rw [hx2 t htX]; omega⟩, fun hnz => ?_, fun hnz => ?_⟩
        .refine ⟨⟨by omega, by omega⟩, ⟨by omega, by omega⟩, ⟨by omega, by rw [hx2 t htX]; omega⟩, _, v_rNeg hF rfl, ⟨by omega, by omega⟩, _, Jsa hF (by rw [hx2 t htX, hx2 _ hcur]; exact Nat.le_refl _) (by rw [hx2 t htX]; omega) rfl, ⟨by omega, by omega⟩, ?_⟩; rw [<- Jba (by omega) hne3, <- hft]; show _ = (prt p m v f S.pv.length t x2).set t (adx p m v (row x2 t) (Ng p m (vo (row x2 t) k)) (row x2 S.pv.length)); unfold adx; rw [if_neg (fun h0 => hnz (hz.1 h0))]; rfl
        .have hnz' : vo (row x2 t) k = 0 := Classical.not_not.1 hnz; rw [<- Jba (by omega) hne3, <- hft]; show prt p m v f S.pv.length t x2 = (prt p m v f S.pv.length t x2).set t (adx p m v (row x2 t) (Ng p m (vo (row x2 t) k)) (row x2 S.pv.length)); unfold adx; rw [if_pos (hz.2 hnz')]; refine QT (by rw [List.length_set]) fun i hi => ?_; rw [Q6]; split
         .rename_i hh; rw [<- hh.1]; exact hg1
         .rfl
       .have he3 : t = S.pv.length := by have := Classical.not_not.1 he2; omega
        subst he3; exact prt_same.symm
       .rintro _ _ rfl; refine ⟨Js (by omega) (by omega), ⟨t + 1, by push_cast; rfl, by omega, rfl⟩, ?_⟩; show ((X.length : Int) - ((t : Int) + 1)).toNat < ((X.length : Int) - (t : Int)).toNat; omega
      .have hte : t = X.length := by omega
       subst hte; have e1 := Jgb (p := p) (m := m) (v := v) (X := x2) f S.pv.length; rw [show x2.length = X.length by omega] at e1; refine ⟨by omega, Js (by omega) (by omega), ?_⟩; rw [hsucc, e1, hxs, hps]; exact ⟨rfl, rfl, by rw [List.length_append]; simp⟩
   .rintro _ _ _ _ _ _ _ ⟨rfl, rfl, rfl⟩; refine ⟨Js (by omega) (by omega), ⟨k + 1, by push_cast; rfl, by omega, rfl, rfl, rfl⟩, ?_⟩; show ((cols : Int) - ((k : Int) + 1)).toNat < ((cols : Int) - (k : Int)).toNat; omega
  .have hst := hstop (by omega) (cols - k); rw [show k + (cols - k) = cols by omega] at hst; rw [hst]; exact ⟨rfl, rfl⟩
  .have hkc : k = cols := by omega
   subst hkc; exact ⟨by rw [hSk], by rw [hSk]⟩
 .rintro _ _ ⟨rfl, rfl⟩; exact h
theorem Jf1 {cols wy : Nat} {d0 : Int} {Q : LL × LI -> Prop} (hF : FV P M mf p m v) (hX : X.length <= 300) (hc : cols <= 300) (hS : Shp X.length cols wy ⟨X, Y, [], d0⟩) (hE : Els p m X)
 (h : Q ((elim p m v cols ⟨X, Y, [], d0⟩).X, (elim p m v cols ⟨X, Y, [], d0⟩).pv)) : QM P M mf X cols Q := Je2 hF hX (Nat.le_refl _) (by omega) hS hE h
end
end Go.Proofs.YtgjloioccgcceaaGreat
namespace Go.Proofs.YtgjloioccgcceaaGreat
section
variable {F : GFv} {p m v g : Nat} {P M : Int} {mf : LI} {X Y : LL} {C : Int}
def Jr5 (P M : Int) (mf : LI) (X : LL) : Prop := ∃ p m v, FV P M mf p m v /\ Els p m X
open Classical in
noncomputable def mck (P M : Int) (mf : LI) (C : Int) (X : LL) : Int := if ¬ Yt P M mf then 1 else if ¬ shp C X then 3 else if ¬ Jr5 P M mf X then 2 else 0
theorem FV.uniq {p' m' v' : Nat} (h : FV P M mf p m v) (h' : FV P M mf p' m' v') : p = p' /\ m = m' := ⟨by have := h.eP; have := h'.eP; omega, by have := h.eM; have := h'.eM; omega⟩
theorem YZ (h : FV P M mf p m v) : Jr5 P M mf X ↔ Els p m X := ⟨fun ⟨p', m', v', h1, h2⟩ => by obtain ⟨rfl, rfl⟩ := h.uniq h1; exact h2, fun h2 => ⟨p, m, v, h, h2⟩⟩
theorem Jgv (h : ¬ Yt P M mf) : mck P M mf C X = 1 := if_pos h
theorem ZZ (h : Yt P M mf) (hs : ¬ shp C X) : mck P M mf C X = 3 := by unfold mck; rw [if_neg (fun hh => hh h), if_pos hs]
theorem Jgw (h : Yt P M mf) (hs : shp C X) (he : ¬ Jr5 P M mf X) : mck P M mf C X = 2 := by unfold mck; rw [if_neg (fun hh => hh h), if_neg (fun hh => hh hs), if_pos he]
theorem Jkx (h : Yt P M mf) (hs : shp C X) (he : Jr5 P M mf X) : mck P M mf C X = 0 := by unfold mck; rw [if_neg (fun hh => hh h), if_neg (fun hh => hh hs), if_neg (fun hh => hh he)]
theorem Jbe (h : mck P M mf C X = 0) : Yt P M mf /\ shp C X /\ Jr5 P M mf X := by
 by_cases h1 : Yt P M mf
 .by_cases h2 : shp C X
  .by_cases h3 : Jr5 P M mf X
   .exact ⟨h1, h2, h3⟩
   .rw [Jgw h1 h2 h3] at h; exact absurd h (by decide)
  .rw [ZZ h1 h2] at h; exact absurd h (by decide)
 .rw [Jgv h1] at h; exact absurd h (by decide)
theorem Jf9 (h : shp C X) : X.length <= 256 := h.2.2.1
theorem Qk (h : shp C X) {t : Nat} (ht : t < X.length) : (row X t).length = C.toNat := by
 have := h.2.2.2 _ (ZT ht); have := h.1; omega
noncomputable def Jgi (P M : Int) (mf : LI) : List Mt -> Int
  | [] => 0
  | (C, X) :: ms => if mck P M mf C X = 0 then Jgi P M mf ms else mck P M mf C X
theorem w_open {ms : List Mt} {Q : Option GFv × Int -> Prop} (hl : ms.length <= 1000) (hno : ¬ Yt P M mf -> Q (none, 1))
  (h : ∀ (F : GFv) (p m v g : Nat), GFk F p m v g -> FV P M mf p m v -> Jgi P M mf ms = 0 -> Q (some F, 0)) (hb : Yt P M mf -> Jgi P M mf ms ≠ 0 -> Q (none, Jgi P M mf ms)) : Jcl P M mf ms Q := by
 refine v_New (fun hn => ⟨fun h0 => ⟨h0, hno hn⟩, fun h0 => absurd (show (1 : Int) ≠ 0 by decide) h0⟩) fun F p m v g K eP eM emf => ⟨fun h0 => absurd rfl h0, fun _ => ?_⟩
 have hF : FV P M mf p m v := by rw [<- eP, <- eM, <- emf]; exact K.fv
 have hV : Yt P M mf := ⟨p, m, v, hF⟩
 refine ⟨fun z => ∃ t : Nat, z = t /\ t <= ms.length /\ Jgi P M mf (ms.drop t) = Jgi P M mf ms, fun z => (ms.length - z).toNat, ⟨0, rfl, Nat.zero_le _, rfl⟩, ?_⟩; rintro _ ⟨t, rfl, ht, he⟩; refine ⟨fun hlt => ?_, fun hge => ?_⟩
 .have htl : t < ms.length := by omega
  have hd : ms.drop t = gm ms t :: ms.drop (t + 1) := by
   rw [List.drop_eq_getElem_cons htl]
   congr 1
   unfold gm; show _ = ms.getD t (0, []); rw [List.getD_eq_getElem?_getD, List.getElem?_eq_getElem htl]; rfl
  rw [hd] at he; generalize gm ms t = mt at *
  obtain ⟨C, X⟩ := mt; simp only [Jgi] at he; dsimp only; refine ⟨⟨by omega, by omega⟩, Jj5 (fun hs => ⟨fun h => absurd h (by decide), fun _ => ?_⟩) (fun hs => ⟨fun _ => ⟨by decide, ?_⟩, fun h => absurd h (by decide)⟩)⟩
  .refine ⟨fun z => ∃ s : Nat, z = s /\ s <= X.length /\ ∀ k, k < s -> Elr p m (row X k), fun z => (X.length - z).toNat, ⟨0, rfl, Nat.zero_le _, fun k hk => by omega⟩, ?_⟩; rintro _ ⟨s, rfl, hs1, hs2⟩; have hX : X.length <= 256 := Jf9 hs; dsimp only; refine ⟨fun hlt2 => ⟨⟨by omega, by omega⟩, Je4 K (by show (row X s).length <= _; rw [Qk hs (by omega)]; have := hs.2.1; omega) (fun hel => ⟨fun h => absurd h (by decide), fun _ => ⟨Js (by omega) (by omega), ⟨s + 1, by push_cast; rfl, by omega, fun k hk => ?_⟩, by omega⟩⟩) (fun hel => ⟨fun _ => ⟨by decide, ?_⟩, fun h => absurd h (by decide)⟩)⟩, fun hge2 => ?_⟩
   .rcases Nat.lt_or_ge k s with h | h
    .exact hs2 k h
    .rw [show k = s by omega]; exact hel
   .have e : mck P M mf C X = 2 := Jgw hV hs fun hv => hel (Qt ((YZ hF).1 hv) s); rw [e, if_neg (by decide)] at he; have := hb hV (by rw [<- he]; decide)
    rwa [<- he] at this
   .have e : mck P M mf C X = 0 := Jkx hV hs ((YZ hF).2 (ZG fun k hk => hs2 k (by omega))); rw [e, if_pos rfl] at he; exact ⟨Js (by omega) (by omega), ⟨t + 1, by push_cast; rfl, by omega, he⟩, by omega⟩
  .have e : mck P M mf C X = 3 := ZZ hV hs; rw [e, if_neg (by decide)] at he; have := hb hV (by rw [<- he]; decide)
   rwa [<- he] at this
 .rw [show t = ms.length by omega, List.drop_length] at he; exact h F p m v g K hF he.symm
theorem Jiq : Jgi P M mf [(C, X)] = mck P M mf C X := by
 simp only [Jgi]; split
 .rename_i h; exact h.symm
 .rfl
theorem Jma {Q : Option GFv × Int -> Prop} (hb : mck P M mf C X ≠ 0 -> Q (none, mck P M mf C X))
    (h : ∀ (F : GFv) (p m v g : Nat), GFk F p m v g -> FV P M mf p m v -> shp C X -> Els p m X -> mck P M mf C X = 0 -> Q (some F, 0)) : Jcl P M mf [(C, X)] Q := by
  refine w_open (by simp) (fun hn => ?_) (fun F p m v g K hF he => ?_) (fun hV he => ?_)
  . have := hb (by rw [Jgv hn]; decide); rwa [Jgv hn] at this
  . rw [Jiq] at he
    obtain ⟨_, h2, h3⟩ := Jbe he
    exact h F p m v g K hF h2 ((YZ hF).1 h3) he
  . rw [Jiq] at he ⊢; exact hb he
theorem Jsc {Q : Int -> Prop} (h : Q (mck P M mf C X)) : Jbs P M mf C X Q := Jma (fun _ _ => h) (fun F p m v g K hF h1 h2 h3 => by show Q 0; rw [<- h3]; exact h)
theorem Jnx {Q : Int -> Prop} (h : Q (mck P M mf C X)) : Z6 P M mf C X Q := by
 refine Jid ?_; by_cases hV : Yt P M mf
 .rw [Jfv hV]; refine ⟨fun h0 => absurd rfl h0, fun _ => ⟨fun h0 => ?_, fun h0 => ⟨fun h1 => ?_, fun h1 => ⟨fun h2 => ?_, fun h2 => ?_⟩⟩⟩⟩
  .rw [ZZ hV fun s => by have := s.1; omega] at h; exact h
  .rw [ZZ hV fun s => by have := s.2.1; omega] at h; exact h
  .rw [ZZ hV fun s => by have := s.2.2.1; omega] at h; exact h
  .refine ⟨fun z => ∃ t : Nat, z = t /\ t <= X.length /\ ∀ k, k < t -> ((row X k).length : Int) = C, fun z => (X.length - z).toNat, ⟨0, rfl, Nat.zero_le _, fun k hk => by omega⟩, ?_⟩; rintro _ ⟨t, rfl, ht, hk⟩; dsimp only; refine ⟨fun hlt => ⟨⟨by omega, by omega⟩, fun hne => ?_, fun he => ⟨Js (by omega) (by omega), ⟨t + 1, by push_cast; rfl, by omega, fun k hk' => ?_⟩, by omega⟩⟩, fun hge => ?_⟩
   .rw [ZZ hV fun s => hne (s.2.2.2 _ (ZT (by omega)))] at h; exact h
   .rcases Nat.lt_or_ge k t with h | h
    .exact hk k h
    .rw [show k = t by omega]; exact Classical.not_not.1 he
   .have hs : shp C X := ⟨by omega, by omega, by omega, fun r hr => by obtain ⟨s, h3, rfl⟩ := Zi hr; exact hk s (by omega)⟩
    obtain ⟨p, m, v, hF⟩ := hV; refine ⟨fun r z => r = 0 /\ ∃ s : Nat, z = s /\ s <= X.length /\ ∀ k, k < s -> Elr p m (row X k), fun _ z => (X.length - z).toNat, ⟨rfl, 0, rfl, Nat.zero_le _, fun k hk => by omega⟩, ?_⟩; rintro _ _ ⟨rfl, s, rfl, hs1, hs2⟩; dsimp only; refine ⟨fun hlt2 => ⟨⟨by omega, by omega⟩, ?_⟩, fun hge2 => ?_⟩
    .have hrl : (row X s).length <= 1000000 := by rw [Qk hs (by omega)]; have := hs.2.1; omega
     by_cases hel : Elr p m (row X s)
     .refine ⟨0, Jdp hF hrl (fun _ => rfl) (fun h => absurd hel h), fun h0 => absurd rfl h0, fun _ => ⟨Js (by omega) (by omega), ⟨rfl, s + 1, by push_cast; rfl, by omega, fun k hk' => ?_⟩, by omega⟩⟩; rcases Nat.lt_or_ge k s with h | h
      .exact hs2 k h
      .rw [show k = s by omega]; exact hel
     .refine ⟨2, Jdp hF hrl (fun h => absurd h hel) (fun _ => rfl), fun _ => ?_, fun h0 => absurd (by decide) h0⟩; rw [Jgw ⟨p, m, v, hF⟩ hs fun hv => hel (Qt ((YZ hF).1 hv) s)] at h; exact h
    .rw [Jkx ⟨p, m, v, hF⟩ hs ((YZ hF).2 (ZG fun k hk' => hs2 k (by omega)))] at h; exact h
 .rw [Yr hV]; rw [Jgv hV] at h; exact ⟨fun _ => h, fun h0 => absurd (by decide) h0⟩
def ec (p m v : Nat) (C : Int) (X : LL) : ES := elim p m v C.toNat ⟨X, List.replicate X.length [], [], 1⟩
def YA (p m v : Nat) (C : Int) (X : LL) : LL := (ec p m v C X).X.take (ec p m v C X).pv.length
def Zp (p m v : Nat) (C : Int) (X : LL) : LI := (ec p m v C X).pv
theorem Jvz {n t : Nat} {l : LI} (h : t < n) : row (List.replicate n l) t = l := by
 unfold row; rw [List.getD_eq_getElem?_getD, List.getElem?_replicate, if_pos h]; rfl
theorem shp_S0 (hs : shp C X) {Z : LL} {wz : Nat} {d : Int} (hZ : Z.length = X.length) (hz : ∀ t, t < X.length -> (row Z t).length = wz) : Shp X.length C.toNat wz ⟨X, Z, [], d⟩ := ⟨rfl, fun t ht => Qk hs ht, hZ, hz, Nat.zero_le _⟩
theorem Jdd (hs : shp C X) : Shp X.length C.toNat 0 ⟨X, List.replicate X.length [], [], 1⟩ := shp_S0 hs (by simp) fun t ht => by rw [Jvz ht]; rfl
theorem Jb1 (hs : shp C X) : X.length <= 256 /\ C.toNat <= 256 /\ ((C.toNat : Nat) : Int) = C := ⟨hs.2.2.1, by have := hs.2.1; omega, by have := hs.1; omega⟩
theorem Jsx (hs : shp C X) : ∀ r ∈ X, r.length <= 1000000 := fun r hr => by have := hs.2.2.2 r hr; have := hs.2.1; omega
theorem Jan (hs : shp C X) : Shp X.length C.toNat 0 (ec p m v C X) := ZH (Jdd hs) _
theorem Jh9 {Q : Int × LL × LI -> Prop} (K : GFk F p m v g) (hs : shp C X) (h : Q (C, YA p m v C X, Zp p m v C X)) : YP F C X Q := by
 obtain ⟨h1, h2, h3⟩ := Jb1 hs; refine Jsd (by omega) (Jsx hs) ⟨⟨by omega, by omega, by omega⟩, ?_⟩; show Yw F C X (List.replicate X.length ([] : LI)) _; rw [<- h3]; refine Jh8 K (by omega) (by omega) (wy := 0) (by omega) (Jdd hs) ?_; rw [h3]; have := (Jan (p := p) (m := m) (v := v) hs).pl; exact ⟨⟨by omega, by show ((ec p m v C X).pv.length : Int) <= _; omega⟩, h⟩
theorem Jib {Q : Int × LL × LI × Int -> Prop} (hb : mck P M mf C X ≠ 0 -> Q (0, [], [], mck P M mf C X))
  (h : ∀ p m v, FV P M mf p m v -> shp C X -> Els p m X -> mck P M mf C X = 0 -> Q (C, YA p m v C X, Zp p m v C X, 0)) : YQ P M mf C X Q :=
 Jma (fun h0 _ => hb h0) fun F p m v g K hF hs he h0 => Jh9 K hs (h p m v hF hs he h0)
theorem Jh6 {Q : LL × LI -> Prop} (hF : FV P M mf p m v) (hs : shp C X) (he : Els p m X) (h : Q (YA p m v C X, Zp p m v C X)) : ZO P M mf X C Q := by
 obtain ⟨h1, h2, h3⟩ := Jb1 hs; show QM P M mf X C _; rw [<- h3]; refine Jf1 hF (by omega) (by omega) (Jdd hs) he ?_; have h4 := Jan (p := p) (m := m) (v := v) hs; exact ⟨⟨by omega, by have := h4.pl; have := h4.xl; show ((ec p m v C X).pv.length : Int) <= ((ec p m v C X).X.length : Nat); omega⟩, h⟩
theorem FV.uniq3 {p' m' v' : Nat} (h : FV P M mf p m v) (h' : FV P M mf p' m' v') : p = p' /\ m = m' /\ v = v' := by
 obtain ⟨e1, e2⟩ := h.uniq h'; subst e1; subst e2; refine ⟨rfl, rfl, ?_⟩; by_cases hm : m = 1
 .rw [(h.m1 hm).2, (h'.m1 hm).2]
 .have e1 := h.m2 hm; have e2 := h'.m2 hm; have hp := h.p2; have h3 : dv p v = dv p v' := by rw [<- h.vo, <- h'.vo]
  have h4 := Jaj (p := p) (m := m) (x := v) (by omega) h.vlt; have h5 := Jaj (p := p) (m := m) (x := v') (by omega) h'.vlt; rw [<- h4, <- h5, h3]
end
end Go.Proofs.YtgjloioccgcceaaGreat
namespace Go.Proofs.YtgjloioccgcceaaGreat
section
variable {p m v : Nat}
def Asc (k : Nat) (l : LI) : Prop := (∀ i, i < l.length -> 0 <= vo l i /\ vo l i < (k : Int)) /\ ∀ i j, i < j -> j < l.length -> vo l i < vo l j
theorem Ja4 {l : LI} {x : Int} {i : Nat} : vo (l ++ [x]) i = if i < l.length then vo l i else if i = l.length then x else 0 := by
 unfold vo; rw [List.getD_eq_getElem?_getD, List.getD_eq_getElem?_getD, List.getElem?_append]; by_cases h : i < l.length
 .rw [if_pos h, if_pos h]
 .rw [if_neg h, if_neg h]; by_cases h2 : i = l.length
  .subst h2; simp
  .rw [if_neg h2]; have : i - l.length ≠ 0 := by omega
   cases hh : i - l.length with
   | zero => omega
   | succ n => simp
theorem Asc.snoc {k : Nat} {l : LI} (h : Asc k l) : Asc (k + 1) (l ++ [(k : Int)]) := by
 refine ⟨fun i hi => ?_, fun i j hij hj => ?_⟩
 .rw [List.length_append] at hi; rw [Ja4]; split
  .rename_i h1; have := h.1 i h1; omega
  .split
   .omega
   .simp at hi; omega
 .rw [List.length_append] at hj; have hj' : j < l.length + 1 := by simpa using hj
  rw [Ja4, Ja4, if_pos (show i < l.length by omega)]; split
  .rename_i h1; exact h.2 i j hij h1
  .rw [if_pos (show j = l.length by omega)]; exact (h.1 i (by omega)).2
theorem Asc.up {k : Nat} {l : LI} (h : Asc k l) : Asc (k + 1) l := ⟨fun i hi => by have := h.1 i hi; omega, h.2⟩
theorem Jeo {S : ES} (h : S.pv = []) : ∀ k, Asc k (elim p m v k S).pv
 | 0 => by
  show Asc 0 S.pv; rw [h]; exact ⟨fun i hi => absurd hi (Nat.not_lt_zero i), fun i j _ hj => absurd hj (Nat.not_lt_zero j)⟩
 | k + 1 => by
  have ih := Jeo h k; rw [Q1]; unfold Yq; split
  .exact ih.snoc
  .exact ih.up
theorem Jjp (C : Int) (X : LL) : Asc C.toNat (Zp p m v C X) := Jeo rfl _
end
section
variable {F : GFv} {p m v g : Nat} {P M : Int} {mf : LI} {X Y : LL} {C : Int}
theorem Jes (hs : shp C X) : (YA p m v C X).length = (Zp p m v C X).length := by
 have h0 := Jan (p := p) (m := m) (v := v) hs; unfold YA Zp; rw [List.length_take]; have h1 := h0.pl; have h2 := h0.xl; omega
theorem Jd6 {Z : LL} {n t : Nat} (h : t < n) : row (Z.take n) t = row Z t := by
 unfold row; rw [List.getD_eq_getElem?_getD, List.getD_eq_getElem?_getD, List.getElem?_take, if_pos h]
theorem Jui (hs : shp C X) {t : Nat} (ht : t < (YA p m v C X).length) : (row (YA p m v C X) t).length = C.toNat := by
 have h1 := Jan (p := p) (m := m) (v := v) hs; rw [Jes hs] at ht; unfold YA; rw [Jd6 (n := (ec p m v C X).pv.length) ht]; exact h1.xr t (Nat.lt_of_lt_of_le ht h1.pl)
theorem Jjo (hs : shp C X) : shp C (YA p m v C X) := by
 obtain ⟨h1, h2, h3⟩ := Jb1 hs; have h4 := Jan (p := p) (m := m) (v := v) hs; refine ⟨hs.1, hs.2.1, by rw [Jes hs]; have := h4.pl; show (ec p m v C X).pv.length <= 256; omega, fun r hr => ?_⟩; obtain ⟨t, ht, rfl⟩ := Zi hr; rw [Jui hs ht]; exact h3
theorem Juj (hs : shp C X) : (Zp p m v C X).length <= X.length := (Jan (p := p) (m := m) (v := v) hs).pl
end
end Go.Proofs.YtgjloioccgcceaaGreat
namespace Go.Proofs.YtgjloioccgcceaaGreat
section
variable {F : GFv} {p m v g : Nat} {P M : Int} {mf : LI} {X Y : LL} {C : Int}
open Classical in
noncomputable def sqe (P M : Int) (mf : LI) (C : Int) (X : LL) : Int := if mck P M mf C X ≠ 0 then mck P M mf C X else if (X.length : Int) ≠ C then 3 else 0
def cmb (p m v : Nat) (x : LI) (C : Nat) (X : LL) (k : Nat) : LI := (List.range k).foldl (fun s i => adx p m v s (vo x i) (row X i)) (List.replicate C 0)
open Classical in
noncomputable def vce (p m : Nat) (x : LI) (n : Nat) : Int := if x.length ≠ n then 3 else if ¬ Elr p m x then 2 else 0
def rgt (b : LI) : LL := b.map fun y => [y]
def eb (p m v : Nat) (C : Int) (X : LL) (b : LI) : ES := elim p m v C.toNat ⟨X, rgt b, [], 1⟩
end
def A3 : LL := [[1, 1, 0], [0, 1, 1], [1, 0, 1]]
def A2 : LL := [[1, 2], [3, 4]]
instance (p m : Nat) (x : Int) : Decidable (El p m x) := inferInstanceAs (Decidable (_ /\ _))
end Go.Proofs.YtgjloioccgcceaaGreat
namespace Go.Proofs.YtgjloioccgcceaaGreat
end Go.Proofs.YtgjloioccgcceaaGreat
namespace Go.Proofs.YtgjloioccgcceaaGreat
section
variable {F : GFv} {p m v g : Nat} {P M : Int} {mf : LI} {X : LL} {C : Int} {set y : LI}
end
end Go.Proofs.YtgjloioccgcceaaGreat
namespace Go.Proofs.YtgjloioccgcceaaGreat
section
variable {p m v : Nat} {P M : Int} {mf : LI} {X Y : LL} {C : Int} {w : Nat}
def en (p m : Nat) (l : LI) : Nat -> Nat := fun c => inE (p ^ m) (vo l c)
structure Lin (p m v w : Nat) (f : (Nat -> Nat) -> Nat) : Prop where
  lt : ∀ a, f a < p ^ m
  cg : ∀ {a b : Nat -> Nat}, (∀ c, c < w -> a c = b c) -> f a = f b
  ad : ∀ {a b : Nat -> Nat} {x : Nat}, (∀ c, a c < p ^ m) -> (∀ c, b c < p ^ m) -> x < p ^ m -> f (fun c => Qy p m (a c) (JE p m (dv p v) x (b c))) = Qy p m (f a) (JE p m (dv p v) x (f b))
  ml : ∀ {a : Nat -> Nat} {x : Nat}, (∀ c, a c < p ^ m) -> x < p ^ m -> f (fun c => JE p m (dv p v) x (a c)) = JE p m (dv p v) x (f a)
theorem en_adx (hF : FV P M mf p m v) {a o : LI} {x : Int} {c : Nat} (hc : c < a.length) : en p m (adx p m v a x o) c = Qy p m (en p m a c) (JE p m (dv p v) (inE (p ^ m) x) (en p m o c)) := by
 have R := hF.ring; have hq : 0 < p ^ m := by have := R.q2; omega
 have e0 : inE (p ^ m) 0 = 0 := QU (x := 0) hq; have hz : ∀ y, y < p ^ m -> JE p m (dv p v) 0 y = 0 := fun y hy => by rw [R.Mc hq hy]; exact R.M0 hy
 unfold en adx; split
 .rename_i h; subst h
  rw [e0, hz _ (Qn hq _), R.Az (Qn hq _)]
 .rw [Zy hc]; split
  .rename_i h; rw [h, e0, R.M0 (Qn hq _), R.Az (Qn hq _)]
  .unfold Ad Ml; rw [QU (R.Al _ _), QU (R.Ml _ _)]
theorem Jmp {r cur t : Nat} (hr : r < X.length) (hc : cur < X.length) : row (swq X r cur) t = if t = cur then row X r else if t = r then row X cur else row X t := by
  unfold swq
  split
  . rename_i h; subst h
    split
    . rename_i h; rw [h]
    . rfl
  . exact Zg hr hc
theorem Jvy {cur t : Nat} {e : Int} (hc : cur < X.length) : row (scq p m v X cur e) t = if t = cur then sc p m v (Iv p m v e) (row X cur) else row X t := by
 unfold scq; rw [Q6]; by_cases h : cur = t
 .rw [if_pos ⟨h, hc⟩, if_pos h.symm]
 .rw [if_neg (fun hh => h hh.1), if_neg (fun hh => h hh.symm)]
theorem iv_ex {g : Nat} (K : Gn (p ^ m) (JE p m (dv p v)) g) (hF : FV P M mf p m v) {x : Int} (h0 : x ≠ 0) (hx : El p m x) : inE (p ^ m) x < p ^ m /\ JE p m (dv p v) (inE (p ^ m) x) (inE (p ^ m) (Iv p m v x)) = 1 := by
 have R := hF.ring; have q1 : 1 < p ^ m := R.q2; have hx1 := Qn (q := p ^ m) (by omega) x; have hne : 0 < inE (p ^ m) x := by
  have := Jg1 hx; omega
 have h1 := K.xone R hne hx1; refine ⟨hx1, ?_⟩; have hz : pw (JE p m (dv p v)) (inE (p ^ m) x) (p ^ m - 1 - 1) < p ^ m := by
  cases p ^ m - 1 - 1 with
  | zero => exact q1
  | succ n => exact R.Ml _ _
 have h2 : JE p m (dv p v) (pw (JE p m (dv p v)) (inE (p ^ m) x) (p ^ m - 1 - 1)) (inE (p ^ m) x) = 1 := by
  rw [show p ^ m - 1 = (p ^ m - 1 - 1) + 1 by omega] at h1; exact h1
 rw [Jnv R hx1 hz h2, QU hz, R.Mc hx1 hz]; exact h2
end
end Go.Proofs.YtgjloioccgcceaaGreat
namespace Go.Proofs.YtgjloioccgcceaaGreat
section
variable {p m v g : Nat} {P M : Int} {mf : LI} {X Y : LL} {C : Int} {w : Nat}
structure Red (k : Nat) (S : ES) : Prop where
  one : ∀ i, i < S.pv.length -> ∀ t, t < S.X.length -> vo (row S.X t) (vo S.pv i).toNat = if t = i then 1 else 0
  lo : ∀ t, S.pv.length <= t -> t < S.X.length -> ∀ c, c < k -> vo (row S.X t) c = 0
  lf : ∀ i, i < S.pv.length -> ∀ c : Nat, (c : Int) < vo S.pv i -> vo (row S.X i) c = 0
theorem Jvq {a o : LI} {x : Int} {c : Nat} (h : vo o c = 0) : vo (adx p m v a x o) c = vo a c := by
 unfold adx; split
 .rfl
 .rcases Nat.lt_or_ge c a.length with hc | hc
  .rw [Zy hc, if_pos h]
  .rw [Jdt hc, Jdt (by rw [Jbj]; exact hc)]
theorem Jse (hF : FV P M mf p m v) {l : LI} {x : Int} {c : Nat} (h : vo l c = 0) : vo (sc p m v x l) c = 0 := by
 have hq : 0 < p ^ m := by have := hF.ring.q2; omega
 rcases Nat.lt_or_ge c l.length with hc | hc
 .rw [Jfc hc, h]; unfold Ml; rw [show inE (p ^ m) 0 = 0 from QU (x := 0) hq, hF.ring.M0 (Qn hq _)]; rfl
 .exact Jdt (by unfold sc; rw [List.length_map]; exact hc)
theorem Jtb (K : Gn (p ^ m) (JE p m (dv p v)) g) (hF : FV P M mf p m v) {S : ES} {k : Nat} (hA : Asc k S.pv) (hl : S.pv.length <= S.X.length) (he : Els p m S.X) (h : Red k S) : Red (k + 1) (Yq p m v S k) := by
 have R := hF.ring; have q1 : 1 < p ^ m := R.q2; have hp : 0 < p := by have := hF.p2; omega
 unfold Yq; split
 case isFalse h1 =>
  refine ⟨h.one, fun t ht1 ht2 c hc => ?_, h.lf⟩; rcases Nat.lt_or_ge c k with hck | hck
  .exact h.lo t ht1 ht2 c hck
  .have e : c = k := by omega
   subst e; have hs := ZX S.X c S.pv.length hl; exact hs.2.1 t ht1 (by
    rcases Nat.lt_or_ge t (nz S.X c S.pv.length) with h | h
    .exact h
    .exact absurd ⟨by omega, by omega⟩ h1)
 case isTrue h1 =>
  obtain ⟨hc, hr⟩ := h1; have hrs := Jm3 S.X k S.pv.length; have hne := (ZX S.X k S.pv.length hl).2.2 hr; have hkl : k < (row S.X (nz S.X k S.pv.length)).length := by
   rcases Nat.lt_or_ge k (row S.X (nz S.X k S.pv.length)).length with h | h
   .exact h
   .exact absurd (Jdt h) hne
  have hel : El p m (vo (row S.X (nz S.X k S.pv.length)) k) := Qt he _ _ (Jds hkl); obtain ⟨h4, h5⟩ := iv_ex K hF hne hel; have hE3 : Els p m (es1 p m v k (nz S.X k S.pv.length) S.pv.length S).X := Jg6 hp he hr hc; have hn : (es1 p m v k (nz S.X k S.pv.length) S.pv.length S).X.length = S.X.length := by rw [Jcy, Zo, Q5, Qj]
  generalize hrr : nz S.X k S.pv.length = r at *
  have hx2 : ∀ t, row (scq p m v (swq S.X r S.pv.length) S.pv.length (vo (row (swq S.X r S.pv.length) S.pv.length) k)) t = if t = S.pv.length then sc p m v (Iv p m v (vo (row S.X r) k)) (row S.X r) else if t = r then row S.X S.pv.length else row S.X t := fun t => by
   rw [Jvy (by rw [Qj]; exact hc), Jmp hr hc, Jmp hr hc, if_pos rfl]; split <;> rfl
  have hx3 : ∀ t, t < S.X.length -> row (es1 p m v k r S.pv.length S).X t = if t = S.pv.length then sc p m v (Iv p m v (vo (row S.X r) k)) (row S.X r) else adx p m v (if t = r then row S.X S.pv.length else row S.X t) (Ng p m (vo (if t = r then row S.X S.pv.length else row S.X t) k)) (sc p m v (Iv p m v (vo (row S.X r) k)) (row S.X r)) := fun t ht => by
   rw [Jcy, Ja9 (by rw [Q5, Qj]; exact ht), hx2, hx2, if_pos rfl]; split
   .rfl
   .rfl
  -- the columns before stay
  have hold : ∀ t, t < S.X.length -> ∀ c, c < k -> vo (row (es1 p m v k r S.pv.length S).X t) c = vo (row S.X t) c := fun t ht c hck => by
   have z1 : vo (row S.X r) c = 0 := h.lo r hrs hr c hck; have z2 : vo (row S.X S.pv.length) c = 0 := h.lo _ (Nat.le_refl _) hc c hck; rw [hx3 t ht]; split
   .rename_i e; rw [Jse hF z1, e, z2]
   .rw [Jvq (Jse hF z1)]; split
    .rename_i e; rw [z2, e, z1]
    .rfl
  have hone : vo (sc p m v (Iv p m v (vo (row S.X r) k)) (row S.X r)) k = 1 := by
   rw [Jfc hkl]; unfold Ml; rw [R.Mc (Qn (by omega) _) h4, h5]; rfl
  have hnew : ∀ t, t < S.X.length -> vo (row (es1 p m v k r S.pv.length S).X t) k = if t = S.pv.length then 1 else 0 := fun t ht => by
   have hEt := Qt hE3 t; have hx := hx3 t ht; by_cases e : t = S.pv.length
   .rw [if_pos e] at hx ⊢; rw [hx]; exact hone
   .rw [if_neg e] at hx ⊢; rcases Nat.lt_or_ge k (if t = r then row S.X S.pv.length else row S.X t).length with hkt | hkt
    .have h6 := en_adx hF (x := Ng p m (vo (if t = r then row S.X S.pv.length else row S.X t) k)) (o := sc p m v (Iv p m v (vo (row S.X r) k)) (row S.X r)) hkt; rw [<- hx] at h6; have h7 : en p m (sc p m v (Iv p m v (vo (row S.X r) k)) (row S.X r)) k = 1 := by unfold en; rw [hone]; exact QU (x := 1) q1
     rw [h7] at h6; unfold Ng at h6; have h8 : ZE p m (inE (p ^ m) (vo (if t = r then row S.X S.pv.length else row S.X t) k)) < p ^ m := Jg4 hp _; rw [QU h8, R.M1 h8] at h6; have h9 : en p m (row (es1 p m v k r S.pv.length S).X t) k = 0 := by rw [h6]; exact Jem hp (Qn (by omega) _)
     have h10 : El p m (vo (row (es1 p m v k r S.pv.length S).X t) k) := hEt _ (Jds (by rw [hx, Jhf]; exact hkt)); rw [<- Jg1 h10]; show ((en p m (row (es1 p m v k r S.pv.length S).X t) k : Nat) : Int) = 0; rw [h9]; rfl
    .rw [hx]; exact Jdt (by rw [Jhf]; exact hkt)
  have hpv : (es1 p m v k r S.pv.length S).pv = S.pv ++ [(k : Int)] := rfl; refine ⟨fun i hi t ht => ?_, fun t ht1 ht2 c hck => ?_, fun i hi c hci => ?_⟩
  .rw [hn] at ht; rw [hpv, List.length_append, List.length_singleton] at hi; rw [hpv, Ja4]; by_cases e : i < S.pv.length
   .rw [if_pos e, hold t ht _ (by have := hA.1 i e; omega)]; exact h.one i e t ht
   .have e2 : i = S.pv.length := by omega
    rw [if_neg e, if_pos e2, e2]; exact hnew t ht
  .rw [hn] at ht2; rw [hpv, List.length_append, List.length_singleton] at ht1; rcases Nat.lt_or_ge c k with h6 | h6
   .rw [hold t ht2 c h6]; exact h.lo t (by omega) ht2 c h6
   .rw [show c = k by omega, hnew t ht2, if_neg (by omega)]
  .rw [hpv, List.length_append, List.length_singleton] at hi; rw [hpv, Ja4] at hci; by_cases e : i < S.pv.length
   .rw [if_pos e] at hci; rw [hold i (by omega) c (by have := hA.1 i e; omega)]; exact h.lf i e c hci
   .have e2 : i = S.pv.length := by omega
    rw [if_neg e, if_pos e2] at hci; rw [hold i (by omega) c (by omega), e2]; exact h.lo _ (Nat.le_refl _) hc c (by omega)
theorem Jim (K : Gn (p ^ m) (JE p m (dv p v)) g) (hF : FV P M mf p m v) {n wy : Nat} {S : ES} (hS : Shp n w wy S) (he : Els p m S.X) (h0 : S.pv = []) : ∀ k, Red k (elim p m v k S)
 | 0 => ⟨fun i hi => by
   have : (elim p m v 0 S).pv = [] := h0; rw [this] at hi; exact absurd hi (Nat.not_lt_zero _), fun t _ _ c hc => absurd hc (Nat.not_lt_zero _), fun i hi => by
   have : (elim p m v 0 S).pv = [] := h0; rw [this] at hi; exact absurd hi (Nat.not_lt_zero _)⟩
 | k + 1 => by
  rw [Q1]; have hk := ZH (p := p) (m := m) (v := v) hS k; exact Jtb K hF (Jeo h0 k) (by have := hk.pl; have := hk.xl; omega) (Jen (by have := hF.p2; omega) he k) (Jim K hF hS he h0 k)
end
end Go.Proofs.YtgjloioccgcceaaGreat
namespace Go.Proofs.YtgjloioccgcceaaGreat
section
variable {p m v g : Nat} {P M : Int} {mf : LI} {X Y : LL} {C : Int} {w : Nat}
def fs (p m : Nat) (f : Nat -> Nat) : Nat -> Nat
  | 0 => 0
  | n + 1 => Qy p m (fs p m f n) (f n)
theorem fv_gen (hF : FV P M mf p m v) : ∃ g, Gn (p ^ m) (JE p m (dv p v)) g := hF.gen
end
end Go.Proofs.YtgjloioccgcceaaGreat
namespace Go.Proofs.YtgjloioccgcceaaGreat
section
variable {p m v g : Nat} {P M : Int} {mf : LI} {X Y : LL} {C : Int} {w : Nat}
theorem Jne (hF : FV P M mf p m v) (hs : shp C X) (he : Els p m X) : Red C.toNat (ec p m v C X) := by
 obtain ⟨g, G⟩ := fv_gen hF; exact Jim G hF (Jdd hs) he rfl _
theorem Jug (hF : FV P M mf p m v) (hs : shp C X) (he : Els p m X) {i t : Nat} (hi : i < (Zp p m v C X).length) (ht : t < (Zp p m v C X).length) : vo (row (YA p m v C X) t) (vo (Zp p m v C X) i).toNat = if t = i then 1 else 0 := by
 have hS := Jan (p := p) (m := m) (v := v) hs; have := Juj (p := p) (m := m) (v := v) hs; rw [show row (YA p m v C X) t = row (ec p m v C X).X t from Jd6 ht]; exact (Jne hF hs he).one i hi t (by have := hS.xl; omega)
theorem Juh (hF : FV P M mf p m v) (hs : shp C X) (he : Els p m X) {i c : Nat} (hi : i < (Zp p m v C X).length) (hc : (c : Int) < vo (Zp p m v C X) i) : vo (row (YA p m v C X) i) c = 0 := by
 rw [show row (YA p m v C X) i = row (ec p m v C X).X i from Jd6 hi]; exact (Jne hF hs he).lf i hi c hc
end
end Go.Proofs.YtgjloioccgcceaaGreat
namespace Go.Proofs.YtgjloioccgcceaaGreat
end Go.Proofs.YtgjloioccgcceaaGreat
namespace Go.Proofs.YtgjloioccgcceaaGreat
section
variable {p m v : Nat} {P M : Int} {mf : LI} {X Y : LL} {C : Int} {w : Nat}
end
end Go.Proofs.YtgjloioccgcceaaGreat
namespace Go.Proofs.YtgjloioccgcceaaGreat
section
variable {p m v : Nat} {P M : Int} {mf : LI} {X Y : LL} {C : Int} {w : Nat}
end
end Go.Proofs.YtgjloioccgcceaaGreat
namespace Go.Proofs.YtgjloioccgcceaaGreat
section
variable {p m v : Nat} {P M : Int} {mf : LI} {X Y : LL} {C : Int} {w : Nat}
end
end Go.Proofs.YtgjloioccgcceaaGreat
namespace Go.Proofs.YtgjloioccgcceaaGreat
section
variable {p m v : Nat} {P M : Int} {mf : LI} {X Y : LL} {C : Int} {w : Nat}
end
end Go.Proofs.YtgjloioccgcceaaGreat
namespace Go.Proofs.YtgjloioccgcceaaGreat
section
variable {p m v : Nat} {P M : Int} {mf : LI} {X Y : LL} {C : Int} {w wy : Nat}
def e2 (p m w : Nat) (a b : LI) : Nat -> Nat := fun c => if c < w then en p m a c else en p m b (c - w)
end
end Go.Proofs.YtgjloioccgcceaaGreat
namespace Go.Proofs.YtgjloioccgcceaaGreat
section
variable {p m v : Nat} {P M : Int} {mf : LI} {X Y : LL} {C : Int} {w wy : Nat}
def u1 (p m w : Nat) (u : Nat -> Nat) : Nat -> Nat := fun c => if c < w then u c else ZE p m 1
end
end Go.Proofs.YtgjloioccgcceaaGreat
namespace Go.Proofs.YtgjloioccgcceaaGreat
end Go.Proofs.YtgjloioccgcceaaGreat
namespace Go.Proofs.YtgjloioccgcceaaGreat
section
variable {p m v : Nat} {P M : Int} {mf : LI} {X Y : LL} {C D : Int} {w wy : Nat}
def mm (p m v w : Nat) (A B : LL) : LL := (List.range A.length).map fun t => cmb p m v (row A t) w B B.length
end
end Go.Proofs.YtgjloioccgcceaaGreat
namespace Go.Proofs.YtgjloioccgcceaaGreat
section
variable {P M : Int} {mf : LI} {X : LL} {C : Int}
end
end Go.Proofs.YtgjloioccgcceaaGreat
namespace Go.Proofs.YtgjloioccgcceaaGreat
section
variable {p m v : Nat} {P M : Int} {mf : LI} {X Y : LL} {C D : Int} {w wy : Nat}
end
end Go.Proofs.YtgjloioccgcceaaGreat
namespace Go.Proofs.YtgjloioccgcceaaGreat
section
variable {p m v : Nat} {P M : Int} {mf : LI} {X Y : LL} {C D : Int} {w wy : Nat}
end
end Go.Proofs.YtgjloioccgcceaaGreat
namespace Go.Proofs.YtgjloioccgcceaaGreat
/-! ### canonical matrices -/
variable {P M : Int} {mf : LI} {p m v : Nat} {C : Int} {X Y : LL}
/-- The rows are canonical; q: the columns of their first entries. -/
structure Cnl (C : Nat) (X : LL) (q : Nat -> Nat) : Prop where
  lt : ∀ i, i < X.length -> q i < C
  one : ∀ i, i < X.length -> ∀ t, t < X.length -> vo (row X t) (q i) = if t = i then 1 else 0
  lf : ∀ i, i < X.length -> ∀ c, c < q i -> vo (row X i) c = 0
  asc : ∀ i j, i < j -> j < X.length -> q i < q j
def Jj2 (C : Int) (X : LL) : Prop := ∃ q, Cnl C.toNat X q
theorem Juq (a o : LI) : adx p m v a 0 o = a := by unfold adx; rw [if_pos rfl]
theorem ng_0 (hF : FV P M mf p m v) : Ng p m 0 = 0 := (Jm4 hF ⟨by omega, by
 have := hF.ring.q2; have h : (0 : Int) < ((p ^ m : Nat) : Int) := by exact_mod_cast (by omega : 0 < p ^ m)
 exact h⟩).2 rfl
theorem Jwv (hF : FV P M mf p m v) {S : ES} {k : Nat} (he : Els p m S.X) (hj : S.pv.length < S.X.length) (h1 : ∀ t, t < S.X.length -> vo (row S.X t) k = if t = S.pv.length then 1 else 0) : (es1 p m v k S.pv.length S.pv.length S).X = S.X := by
 rw [Jcy]; have e1 : swq S.X S.pv.length S.pv.length = S.X := by unfold swq; rw [if_pos rfl]
 rw [e1]; have e2 : scq p m v S.X S.pv.length (vo (row S.X S.pv.length) k) = S.X := by
  unfold scq; rw [h1 _ hj, if_pos rfl, Jtu hF, Js3 hF (Qt he _)]; refine QT (by simp) fun i hi => ?_; rw [Q6]; split
  .rename_i h; rw [h.1]
  .rfl
 rw [e2]; refine QT (by rw [Zo]) fun i hi => ?_; rw [Zo] at hi; rw [Ja9 hi]; split
 .rfl
 .rename_i hne
  rw [h1 i hi, if_neg hne, ng_0 hF, Juq]
theorem Ji7 (hF : FV P M mf p m v) {q : Nat -> Nat} {w wy : Nat} {Y : LL} {d : Int} (hq : Cnl w X q) (he : Els p m X) : ∀ k, k <= w -> (elim p m v k ⟨X, Y, [], d⟩).X = X /\ ∃ j, j <= X.length /\ (∀ i, i < j -> q i < k) /\ (∀ i, j <= i -> i < X.length -> k <= q i) /\ (elim p m v k ⟨X, Y, [], d⟩).pv = (List.range j).map fun i => ((q i : Nat) : Int)
 | 0, _ => ⟨rfl, 0, Nat.zero_le _, fun i h => absurd h (Nat.not_lt_zero i), fun i _ _ => Nat.zero_le _, rfl⟩
 | k + 1, hk => by
  obtain ⟨h1, j, hj, h2, h3, h4⟩ := Ji7 hF (Y := Y) (d := d) (wy := wy) hq he k (by omega); rw [Q1]; generalize elim p m v k ⟨X, Y, [], d⟩ = S at h1 h4 ⊢; have hl : S.pv.length = j := by rw [h4]; simp
  unfold Yq; rw [hl, h1]; by_cases hjn : j < X.length
  .by_cases hqk : q j = k
   .have hn : nz X k j = j := (Ji1 (Nat.le_refl _) hj (fun t a b => by omega) (fun hh => by
     have := hq.one j hh j hh; rw [hqk, if_pos rfl] at this; rw [this]; decide)).symm
    rw [hn, if_pos ⟨hjn, hjn⟩]; have e := Jwv (k := k) hF (S := S) (by rw [h1]; exact he) (by rw [hl, h1]; exact hjn) (fun t ht => by
     rw [h1] at ht ⊢; rw [hl, <- hqk]; exact hq.one j hjn t ht)
    rw [hl] at e; refine ⟨e.trans h1, j + 1, hjn, fun i hi => ?_, fun i a b => ?_, ?_⟩
    .rcases Nat.lt_or_ge i j with h | h
     .have := h2 i h; omega
     .have : i = j := by omega
      subst this; omega
    .have := hq.asc j i (by omega) b; omega
    .show S.pv ++ [(k : Int)] = _; rw [h4, List.range_succ, List.map_append, List.map_cons, List.map_nil, hqk]
   .have hlt : k < q j := by have := h3 j (Nat.le_refl _) hjn; omega
    have hz : ∀ t, j <= t -> t < X.length -> vo (row X t) k = 0 := fun t a b => hq.lf t b k (by
     rcases Nat.lt_or_ge j t with h | h
     .have := hq.asc j t h b; omega
     .have : t = j := by omega
      subst this; exact hlt)
    have hn : ¬ nz X k j < X.length := fun hh => (ZX X k j hj).2.2 hh (hz _ (Jm3 X k j) hh); rw [if_neg (fun hh => hn hh.2)]; refine ⟨h1, j, hj, fun i hi => by have := h2 i hi; omega, fun i a b => ?_, h4⟩; rcases Nat.lt_or_ge j i with h | h
    .have := hq.asc j i h b; omega
    .have : i = j := by omega
     subst this; omega
  .rw [if_neg (fun hh => hjn hh.1)]; exact ⟨h1, j, hj, fun i hi => by have := h2 i hi; omega, fun i a b => by omega, h4⟩
theorem Jwx (hF : FV P M mf p m v) (hs : shp C X) (he : Els p m X) {q : Nat -> Nat} (hq : Cnl C.toNat X q) : YA p m v C X = X /\ Zp p m v C X = (List.range X.length).map fun i => ((q i : Nat) : Int) := by
 obtain ⟨h1, j, hj, h2, h3, h4⟩ := Ji7 (wy := 0) (Y := List.replicate X.length []) (d := 1) hF hq he C.toNat (Nat.le_refl _); have e : j = X.length := by
  rcases Nat.lt_or_ge j X.length with h | h
  .have := h3 j (Nat.le_refl _) h; have := hq.lt j h; omega
  .omega
 subst e; have hP : Zp p m v C X = (List.range X.length).map fun i => ((q i : Nat) : Int) := h4; refine ⟨?_, hP⟩; show (elim p m v C.toNat ⟨X, List.replicate X.length [], [], 1⟩).X.take (elim p m v C.toNat ⟨X, List.replicate X.length [], [], 1⟩).pv.length = X; rw [h1, h4, List.length_map, List.length_range, List.take_length]
theorem Jbi (hs : shp C X) {i : Nat} (hi : i < (Zp p m v C X).length) : (((vo (Zp p m v C X) i).toNat : Nat) : Int) = vo (Zp p m v C X) i /\ (vo (Zp p m v C X) i).toNat < C.toNat := by
 have h := (Jjp (p := p) (m := m) (v := v) C X).1 i hi; omega
theorem can_cn (hF : FV P M mf p m v) (hs : shp C X) (he : Els p m X) : Cnl C.toNat (YA p m v C X) fun i => (vo (Zp p m v C X) i).toNat := by
 have hl := Jes (p := p) (m := m) (v := v) hs; refine ⟨fun i hi => (Jbi hs (by omega)).2, fun i hi t ht => Jug hF hs he (by omega) (by omega), fun i hi c hc => ?_, fun i j hij hj => ?_⟩
 .exact Juh hF hs he (by omega) (by have := (Jbi (p := p) (m := m) (v := v) hs (i := i) (by omega)).1; omega)
 .have h := (Jjp (p := p) (m := m) (v := v) C X).2 i j hij (by omega); have h1 := (Jbi (p := p) (m := m) (v := v) hs (i := i) (by omega)).1; have h2 := (Jbi (p := p) (m := m) (v := v) hs (i := j) (by omega)).1; omega
theorem Juc (hF : FV P M mf p m v) (hs : shp C X) (he : Els p m X) : Jj2 C X ↔ YA p m v C X = X :=
 ⟨fun ⟨q, hq⟩ => (Jwx hF hs he hq).1, fun h => ⟨_, by have := can_cn hF hs he; rwa [h] at this⟩⟩
/-- Canonical rows are no more than columns. -/
theorem Cnl.len {w : Nat} {q : Nat -> Nat} (h : Cnl w X q) : X.length <= w := by
  have : ∀ k, k <= X.length -> k = 0 ∨ k <= q (k - 1) + 1 := by
    intro k
    induction k with
    | zero => intro _; exact .inl rfl
    | succ k ih =>
      intro hk
      refine .inr ?_
      rcases ih (by omega) with h0 | h1
      . subst h0; omega
      . rcases Nat.eq_zero_or_pos k with h0 | h0
        . subst h0; omega
        . have := h.asc (k - 1) k (by omega) (by omega)
          rw [Nat.add_sub_cancel]; omega
  rcases this X.length (Nat.le_refl _) with h0 | h1
  . omega
  . rcases Nat.eq_zero_or_pos X.length with h0 | h0
    . omega
    . have := h.lt (X.length - 1) (by omega); omega
end Go.Proofs.YtgjloioccgcceaaGreat
namespace Go.Proofs.YtgjloioccgcceaaGreat
/-! ### words reduced by canonical rows -/
variable {P M : Int} {mf : LI} {p m v : Nat} {C : Int} {X Y : LL} {w : Nat}
end Go.Proofs.YtgjloioccgcceaaGreat
namespace Go.Proofs.YtgjloioccgcceaaGreat
/-! ### the checks of a space -/
variable {P M : Int} {mf : LI} {p m v g : Nat} {C : Int} {X Y : LL} {F : GFv}
theorem Jvo {l : LI} {pf : Int -> (Bool -> Prop) -> Prop} {f : Int -> Bool} {Q : Int -> Prop} (hl : l.length <= 1000000) (hp : ∀ x (R : Bool -> Prop), R (f x) -> pf x R)
  (h1 : ∀ k : Nat, k < l.length -> f (vo l k) = true -> (∀ j, j < k -> f (vo l j) = false) -> Q (k : Int)) (h2 : (∀ j, j < l.length -> f (vo l j) = false) -> Q (-1)) : Zs l pf Q := by
 refine ⟨fun z => ∃ k : Nat, z = k /\ k <= l.length /\ ∀ j, j < k -> f (vo l j) = false, fun z => (l.length - z).toNat, ⟨0, rfl, Nat.zero_le _, fun j hj => by omega⟩, ?_⟩; rintro _ ⟨k, rfl, hk, hv⟩; dsimp only; refine ⟨fun hlt => ⟨⟨by omega, by omega⟩, hp _ _ ⟨fun hb => h1 k (by omega) hb hv, fun hb => ⟨Js (by omega) (by omega), ⟨k + 1, by push_cast; rfl, by omega, fun j hj => ?_⟩, by omega⟩⟩⟩, fun hge => h2 fun j hj => hv j (by omega)⟩; rcases Nat.lt_or_ge j k with h | h
 .exact hv j h
 .have : j = k := by omega
  subst this; exact hb
theorem w_lead {l : LI} {Q : Int -> Prop} (hl : l.length <= 1000000)
  (h1 : ∀ k : Nat, k < l.length -> vo l k ≠ 0 -> (∀ j, j < k -> vo l j = 0) -> Q (k : Int)) (h2 : (∀ j, j < l.length -> vo l j = 0) -> Q (-1)) : Zs l (fun xc Qc => YN xc Qc) Q :=
 Jvo (f := fun x => decide (x ≠ 0)) hl (fun x R hR => hR) (fun k hk hb hv => h1 k hk (of_decide_eq_true hb) fun j hj => Classical.not_not.1 (of_decide_eq_false (hv j hj))) (fun hv => h2 fun j hj => Classical.not_not.1 (of_decide_eq_false (hv j hj)))
/-- The first entry of a canonical row. -/
theorem Cnl.lead {w : Nat} {q : Nat -> Nat} (h : Cnl w X q) {t k : Nat} (ht : t < X.length) (hk : vo (row X t) k ≠ 0) (hz : ∀ j, j < k -> vo (row X t) j = 0) : q t = k := by
  rcases Nat.lt_trichotomy (q t) k with h1 | h1 | h1
  . have := hz _ h1
    rw [h.one t ht t ht, if_pos rfl] at this; exact absurd this (by decide)
  . exact h1
  . exact absurd (h.lf t ht k h1) hk
theorem Je3 {Q : Bool -> Prop} (hs : shp C X) (h1 : Jj2 C X -> Q true) (h2 : ¬ Jj2 C X -> Q false) : Yj C X Q := by
 obtain ⟨hX, hC, hCe⟩ := Jb1 hs; have hw : ∀ t, t < X.length -> (row X t).length = C.toNat := fun t ht => Qk hs ht; refine ⟨fun last z => ∃ t : Nat, z = t /\ t <= X.length /\ ∃ q : Nat -> Nat, (∀ i, i < t -> q i < C.toNat /\ (∀ s, s < X.length -> vo (row X s) (q i) = if s = i then 1 else 0) /\ ∀ c, c < q i -> vo (row X i) c = 0) /\ (∀ i j, i < j -> j < t -> q i < q j) /\ (t = 0 -> last = -1) /\ ∀ u, t = u + 1 -> last = (q u : Int), fun _ z => (X.length - z).toNat, ⟨0, rfl, Nat.zero_le _, fun _ => 0, fun i hi => absurd hi (Nat.not_lt_zero i), fun i j _ hj => absurd hj (Nat.not_lt_zero j), fun _ => rfl, fun u hu => by omega⟩, ?_⟩; rintro last _ ⟨t, rfl, ht, q, hq1, hq2, hl0, hl1⟩; dsimp only; refine ⟨fun hlt => ?_, fun hge => ?_⟩
 .have htl : t < X.length := by omega
  have hwt := hw t htl; refine ⟨⟨by omega, by omega⟩, ?_⟩; show Zs (row X t) _ _; have hlast : ∀ q', Cnl C.toNat X q' -> ∀ u, t = u + 1 -> last = (q' u : Int) := fun q' hq' u hu => by
   have hul : u < X.length := by omega
   have := hq'.lead (t := u) (k := q u) hul (by rw [(hq1 u (by omega)).2.1 u hul, if_pos rfl]; decide) (hq1 u (by omega)).2.2; rw [this]; exact hl1 u hu
  refine w_lead (by omega) (fun k hk hne hz => ?_) (fun hz => ?_)
  .have hkq : ∀ q', Cnl C.toNat X q' -> q' t = k := fun q' hq' => hq'.lead htl hne hz; refine ⟨fun hle => h2 ?_, fun hgt => ?_⟩
   .rintro ⟨q', hq'⟩; rcases Nat.eq_zero_or_pos t with h0 | h0
    .have := hl0 h0; omega
    .have e1 := hlast q' hq' (t - 1) (by omega); have e2 := hq'.asc (t - 1) t (by omega) htl; have e3 := hkq q' hq'; omega
   .refine ⟨⟨by omega, by show (k : Int) < ((row X t).length : Nat); omega⟩, fun hn1 => h2 ?_, fun h1' => ?_⟩
    .rintro ⟨q', hq'⟩; have := hq'.one t htl t htl; rw [hkq q' hq', if_pos rfl] at this; exact hn1 this
    .have hone : vo (row X t) k = 1 := Classical.not_not.1 h1'; refine ⟨fun z => ∃ u : Nat, z = u /\ u <= X.length /\ ∀ j, j < u -> j ≠ t -> vo (row X j) k = 0, fun z => (X.length - z).toNat, ⟨0, rfl, Nat.zero_le _, fun j hj => absurd hj (Nat.not_lt_zero j)⟩, ?_⟩; rintro _ ⟨u, rfl, hu, hju⟩; dsimp only; refine ⟨fun hlt2 => ?_, fun hge2 => ?_⟩
     .have hul : u < X.length := by omega
      have hwu := hw u hul; refine ⟨fun _ => u = t ∨ vo (row X u) k = 0, ⟨⟨by omega, by omega⟩, fun hne2 => ⟨⟨by omega, by show (k : Int) < ((row X u).length : Nat); omega⟩, fun hnz => h2 ?_, fun hz2 => .inr (Classical.not_not.1 hz2)⟩, fun he => .inl (by have := Classical.not_not.1 he; omega)⟩, ?_⟩
      .rintro ⟨q', hq'⟩; have := hq'.one t htl u hul; rw [hkq q' hq', if_neg (by omega)] at this; exact hnz this
      .intro b hb; refine ⟨Js (by omega) (by omega), ⟨u + 1, by push_cast; rfl, by omega, fun j hj hne2 => ?_⟩, by omega⟩; rcases Nat.lt_or_ge j u with h | h
       .exact hju j h hne2
       .have : j = u := by omega
        subst this; exact hb.resolve_left hne2
     .obtain ⟨q2, e1, e2⟩ : ∃ q2 : Nat -> Nat, q2 t = k /\ ∀ i, i ≠ t -> q2 i = q i := ⟨fun i => if i = t then k else q i, if_pos rfl, fun i h => if_neg h⟩
      refine ⟨Js (by omega) (by omega), ⟨t + 1, by push_cast; rfl, by omega, q2, fun i hi => ?_, fun i j hij hj => ?_, fun h0 => by omega, fun u hu => ?_⟩, by omega⟩
      .by_cases hit : i = t
       .subst hit; rw [e1]; refine ⟨by omega, fun s hs' => ?_, fun c hc => hz c hc⟩; by_cases hsi : s = i
        .subst hsi; rw [if_pos rfl]; exact hone
        .rw [if_neg hsi]; exact hju s (by omega) hsi
       .rw [e2 i hit]; exact hq1 i (by omega)
      .have hit : i ≠ t := by omega
       rw [e2 i hit]; by_cases hjt : j = t
       .subst hjt; rw [e1]; have hlu := hl1 (j - 1) (by omega); have : q i <= q (j - 1) := by
         rcases Nat.lt_or_ge i (j - 1) with h | h
         .exact Nat.le_of_lt (hq2 i (j - 1) h (by omega))
         .have : i = j - 1 := by omega
          rw [this]; exact Nat.le_refl _
        omega
       .rw [e2 j hjt]; exact hq2 i j hij (by omega)
      .have : u = t := by omega
       subst this; rw [e1]
  .have hge : (-1 : Int) <= last := by
    rcases Nat.eq_zero_or_pos t with h0 | h0
    .rw [hl0 h0]; exact Int.le_refl _
    .have := hl1 (t - 1) (by omega); omega
   refine ⟨fun _ => h2 ?_, fun hgt => absurd hge hgt⟩; rintro ⟨q', hq'⟩; have := hq'.one t htl t htl; rw [hz (q' t) (by have := hq'.lt t htl; omega), if_pos rfl] at this; exact absurd this (by decide)
 .have : t = X.length := by omega
  subst this; exact h1 ⟨q, fun i hi => (hq1 i hi).1, fun i hi t ht => (hq1 i hi).2.1 t ht, fun i hi => (hq1 i hi).2.2, hq2⟩
open Classical in
/-- the error of a space -/
noncomputable def sck (P M : Int) (mf : LI) (C : Int) (X : LL) : Int := if mck P M mf C X ≠ 0 then mck P M mf C X else if Jj2 C X then 0 else 5
theorem Jkh (h : mck P M mf C X ≠ 0) : sck P M mf C X = mck P M mf C X := if_pos h
theorem Jki (h : mck P M mf C X = 0) (h2 : ¬ Jj2 C X) : sck P M mf C X = 5 := by unfold sck; rw [if_neg (fun hh => hh h), if_neg h2]
theorem Js2 (h : mck P M mf C X = 0) (h2 : Jj2 C X) : sck P M mf C X = 0 := by unfold sck; rw [if_neg (fun hh => hh h), if_pos h2]
theorem Js1 (h : sck P M mf C X = 0) : mck P M mf C X = 0 /\ Jj2 C X := by
 by_cases h1 : mck P M mf C X = 0
 .by_cases h2 : Jj2 C X
  .exact ⟨h1, h2⟩
  .rw [Jki h1 h2] at h; exact absurd h (by decide)
 .rw [Jkh h1] at h; exact absurd h h1
theorem Jr7 {Q : Int -> Prop} (h : Q (sck P M mf C X)) : Jbm P M mf C X Q := by
 refine Jsc ⟨fun hne => by rw [Jkh hne] at h; exact h, fun he => ?_⟩; have h0 : mck P M mf C X = 0 := Classical.not_not.1 he; obtain ⟨hV, hs, hE⟩ := Jbe h0; refine Je3 hs (fun hc => ?_) (fun hc => ?_)
 .rw [Js2 h0 hc] at h; exact ⟨fun hb => (by cases hb), fun _ => h⟩
 .rw [Jki h0 hc] at h; exact ⟨fun _ => h, fun hb => by cases hb⟩
theorem Ja3 {a b : LI} {Q : Bool -> Prop} (ha : a.length <= 1000000) (h1 : a = b -> Q true) (h2 : a ≠ b -> Q false) : YM a b Q := by
 refine ⟨fun hne => h2 fun e => hne (by rw [e]), fun he => ?_⟩; have hl : a.length = b.length := by have := Classical.not_not.1 he; omega
 refine ⟨fun z => ∃ t : Nat, z = t /\ t <= a.length /\ ∀ j, j < t -> vo a j = vo b j, fun z => (a.length - z).toNat, ⟨0, rfl, Nat.zero_le _, fun j hj => absurd hj (Nat.not_lt_zero j)⟩, ?_⟩; rintro _ ⟨t, rfl, ht, hj⟩; dsimp only; refine ⟨fun hlt => ⟨⟨by omega, by omega⟩, ⟨by omega, by omega⟩, fun hne => h2 fun e => hne (by rw [e]), fun heq => ⟨Js (by omega) (by omega), ⟨t + 1, by push_cast; rfl, by omega, fun j hj' => ?_⟩, by omega⟩⟩, fun hge => h1 ?_⟩
 .rcases Nat.lt_or_ge j t with h | h
  .exact hj j h
  .have : j = t := by omega
   subst this; exact Classical.not_not.1 heq
 .refine List.ext_getElem hl fun i i1 i2 => ?_; have := hj i (by omega); unfold vo at this
  rwa [List.getD_eq_getElem?_getD, List.getElem?_eq_getElem i1, List.getD_eq_getElem?_getD, List.getElem?_eq_getElem i2] at this
theorem Ja2 {X Y : LL} {Q : Bool -> Prop} (hX : X.length <= 1000000) (hr : ∀ t, t < X.length -> (row X t).length <= 1000000) (h1 : X = Y -> Q true) (h2 : X ≠ Y -> Q false) : Yu X Y Q := by
 refine ⟨fun hne => h2 fun e => hne (by rw [e]), fun he => ?_⟩; have hl : X.length = Y.length := by have := Classical.not_not.1 he; omega
 refine ⟨fun z => ∃ t : Nat, z = t /\ t <= X.length /\ ∀ j, j < t -> row X j = row Y j, fun z => (X.length - z).toNat, ⟨0, rfl, Nat.zero_le _, fun j hj => absurd hj (Nat.not_lt_zero j)⟩, ?_⟩; rintro _ ⟨t, rfl, ht, hj⟩; dsimp only; refine ⟨fun hlt => ⟨⟨by omega, by omega⟩, ⟨by omega, by omega⟩, ?_⟩, fun hge => h1 (QT hl fun i hi => hj i (by omega))⟩; have htl : t < X.length := by omega
 by_cases e : row X t = row Y t
 .refine ⟨true, Ja3 (hr t htl) (fun _ => rfl) (fun hne => absurd e hne), fun hb => (by cases hb), fun _ => ⟨Js (by omega) (by omega), ⟨t + 1, by push_cast; rfl, by omega, fun j hj' => ?_⟩, by omega⟩⟩; rcases Nat.lt_or_ge j t with h | h
  .exact hj j h
  .have : j = t := by omega
   subst this; exact e
 .exact ⟨false, Ja3 (hr t htl) (fun e' => absurd e' e) (fun _ => rfl), fun _ => h2 fun e' => e (by rw [e']), fun hb => (by cases hb)⟩
theorem Jnw {Q : Int -> Prop} (h : Q (sck P M mf C X)) : Z5 P M mf C X Q := by
 refine Jnx ⟨fun hne => by rw [Jkh hne] at h; exact h, fun he => ?_⟩; have h0 : mck P M mf C X = 0 := Classical.not_not.1 he; obtain ⟨hV, hs, hE⟩ := Jbe h0; obtain ⟨p', m', v', hF, hE'⟩ := hE; refine Jh6 hF hs hE' ?_; have hcl := Jjo (p := p') (m := m') (v := v') hs; refine Ja2 (by have := Jf9 hcl; omega) (fun t ht => by have := Qk hcl ht; have := Jb1 hs; omega) (fun e => ?_) (fun e => ?_)
 .rw [Js2 h0 ((Juc hF hs hE').2 e)] at h; exact ⟨fun hb => (by cases hb), fun _ => h⟩
 .rw [Jki h0 (fun hc => e ((Juc hF hs hE').1 hc))] at h; exact ⟨fun _ => h, fun hb => by cases hb⟩
end Go.Proofs.YtgjloioccgcceaaGreat
namespace Go.Proofs.YtgjloioccgcceaaGreat
/-! ### pivots, reduced words -/
variable {P M : Int} {mf : LI} {p m v g : Nat} {C : Int} {X Y : LL} {F : GFv}
end Go.Proofs.YtgjloioccgcceaaGreat
