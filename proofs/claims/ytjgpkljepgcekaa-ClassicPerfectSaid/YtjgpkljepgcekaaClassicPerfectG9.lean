/- Contracts of functions of the program, and what they lean on: S6, S7, S9, S10, C1, C2, C3, C4, C5, C6, C7, C13, C14, C15. -/
import Derived.Test.YtjgpkljepgcekaaClassicPerfectG8
set_option linter.unusedVariables false
set_option linter.unusedSimpArgs false
namespace Go.Proofs.Ytjgpkljepgcekaa
/-! ### sums, intersections, duals -/
variable {P M : Int} {mf : LI} {p m v g w : Nat} {C Ca Cb : Int} {X Y a b : LL}
/-- the dual space -/
def nul (p m v : Nat) (C : Int) (X : LL) : LL := J2 p m v C (Yc p m v C X)
theorem nul_sg (hF : FV P M mf p m v) (hs : shp C X) : Sg P M mf p m v C (nul p m v C X) fun i => (vo (JP p m v C (Yc p m v C X)) i).toNat :=
 ⟨hF, Jbz (Y6 hs), Jep hF (ZS hF), Jsc hF (Y6 hs) (ZS hF)⟩
theorem w_Kern {Q : Int × LL × Int -> Prop} (hF : FV P M mf p m v) (hs : shp C X) (he : Els p m X) (h : Q (C, nul p m v C X, 0)) : ZY P M mf C X Q := by
 have h0 : mck P M mf C X = 0 := Jcn ⟨p, m, v, hF⟩ hs ((Q8 hF).2 he); refine Jp8 (fun hh => absurd h0 hh) fun p' m' v' hF' _ _ _ => ?_; obtain ⟨rfl, rfl, rfl⟩ := hF.uniq3 hF'; exact h
/-! ### words -/
noncomputable def wdk (P M : Int) (mf : LI) (C : Int) (a : LL) (y : LI) : Int := if sck P M mf C a ≠ 0 then sck P M mf C a else if (y.length : Int) ≠ C then 3 else mck P M mf C [y]
theorem Jhq {y : LI} {Q : Int -> Prop} (h : Q (wdk P M mf C a y)) : YS P M mf C a y Q := by
 unfold wdk at h; refine Jhl ⟨fun h1 => by rwa [if_pos h1] at h, fun h1 => ⟨fun h2 => by rwa [if_neg h1, if_pos h2] at h, fun h2 => Jdp (by rwa [if_neg h1, if_neg h2] at h)⟩⟩
theorem Jm0 {y : LI} (hC : 0 <= C /\ C <= 256) (hy : (y.length : Int) = C) : shp C [y] := Jqu hC (by simp) fun t ht => by
 have : t = 0 := by simpa using ht
 subst this; show y.length = _; omega
theorem Jdd {y : LI} : Els p m [y] ↔ Elr p m y := by unfold Els; simp
theorem Jtn {q : Nat -> Nat} {y : LI} (G : Sg P M mf p m v C a q) : wdk P M mf C a y = vce p m y C.toNat := by
 have hC := shp_C G.s; unfold wdk vce; rw [if_neg (fun hh => hh G.sck)]; by_cases h : (y.length : Int) = C
 .have hs := Jm0 (y := y) hC h; rw [if_neg (fun hh => hh h), if_neg (fun hh => hh (by omega))]; by_cases he : Elr p m y
  .rw [if_neg (fun hh => hh he)]; exact Jcn ⟨p, m, v, G.f⟩ hs ((Q8 G.f).2 (Jdd.2 he))
  .rw [if_pos he]; exact Jgv ⟨p, m, v, G.f⟩ hs fun hh => he (Jdd.1 ((Q8 G.f).1 hh))
 .rw [if_pos h, if_pos (by omega)]
theorem wdk_ok {q : Nat -> Nat} {y : LI} (G : Sg P M mf p m v C a q) (hy : y.length = C.toNat) (he : Elr p m y) : wdk P M mf C a y = 0 := by
 rw [Jtn G]; exact vce_ok hy he
theorem w_red1 {q : Nat -> Nat} {y : LI} {Q : LL -> Prop} (G : Sg P M mf p m v C a q) (hy : y.length = C.toNat) (he : Elr p m y) (h : Q [rsd p m v q a y a.length]) : ZV P M mf C a [y] Q :=
 Jp3 G.f G.s G.q (by simp) (fun t ht => by
  have : t = 0 := by simpa using ht
  subst this; exact hy) (Jdd.2 he) h
theorem w_Has {q : Nat -> Nat} {y : LI} {Q : Bool × Int -> Prop} (G : Sg P M mf p m v C a q) (hy : y.length = C.toNat) (he : Elr p m y) (h1 : zr (rsd p m v q a y a.length) -> Q (true, 0)) (h2 : ¬ zr (rsd p m v q a y a.length) -> Q (false, 0)) : Jn6 P M mf C a y Q := by
 refine Jhq ?_; rw [wdk_ok G hy he]; have hC := shp_C G.s; refine ⟨fun hh => absurd rfl hh, fun _ => w_red1 G hy he (Joa (by simp) (fun t ht => ?_) (fun hz => h1 (hz 0 (by simp))) (fun hz => h2 fun hh => hz fun t ht => ?_))⟩
 .have : t = 0 := by simpa using ht
  subst this; show (rsd p m v q a y a.length).length <= _; rw [Zf]; omega
 .have : t = 0 := by simpa using ht
  subst this; exact hh
end Go.Proofs.Ytjgpkljepgcekaa
namespace Go.Proofs.Ytjgpkljepgcekaa
/-! ### the words of a set of positions; the examples -/
variable {P M : Int} {mf : LI} {p m v g w : Nat} {C Ca Cb : Int} {X Y a b : LL}
end Go.Proofs.Ytjgpkljepgcekaa
namespace Go.Proofs.Ytjgpkljepgcekaa
/-! ### the dual of the dual; dimensions -/
variable {P M : Int} {mf : LI} {p m v g w : Nat} {C Ca Cb : Int} {X Y a b : LL}
theorem YN (hF : FV P M mf p m v) {u x : Nat -> Nat} (hu : ∀ c, u c < p ^ m) (hx : ∀ c, x c < p ^ m) : dt p m v w u x = dt p m v w x u := Jfs w fun c _ => hF.ring.Mc (hu c) (hx c)
theorem Jnm {n : Nat} (R : LL) (pv : LI) : ∀ k c, c < k -> ¬ inP pv c = true -> ∃ j, j < (bas p m n R pv k).length /\ row (bas p m n R pv k) j = YJ p m n R pv c pv.length
 | 0, c, h, _ => absurd h (Nat.not_lt_zero c)
 | k + 1, c, h, hc => by
  rw [Y5]; by_cases e : c = k
  .subst e; rw [if_neg hc]; refine ⟨(bas p m n R pv c).length, by simp, ?_⟩; rw [Jgh, if_neg (by omega), if_pos rfl]
  .obtain ⟨j, h1, h2⟩ := Jnm (n := n) R pv k c (by omega) hc; split
   .exact ⟨j, h1, h2⟩
   .exact ⟨j, by rw [List.length_append]; simp; omega, by rw [Jgh, if_pos h1]; exact h2⟩
/-- The basis of the words that are orthogonal to Y: its columns, and where a column is. -/
theorem Jpr (hs : shp C Y) : ∃ fc : Nat -> Nat, (∀ j, j < (Yc p m v C Y).length -> fc j < C.toNat) /\ (∀ j, j < (Yc p m v C Y).length -> ∀ i, i < (Yc p m v C Y).length -> vo (row (Yc p m v C Y) i) (fc j) = if i = j then 1 else 0) /\ ∀ c, c < C.toNat -> (∀ i, i < (JP p m v C Y).length -> (vo (JP p m v C Y) i).toNat ≠ c) -> ∃ j, j < (Yc p m v C Y).length /\ fc j = c := by
  obtain ⟨fc, h1, h2⟩ := Jes (p := p) (m := m) (n := C.toNat) (J2 p m v C Y) (JP p m v C Y) C.toNat
  have hnp : ∀ c, ¬ inP (JP p m v C Y) c = true -> ∀ i, i < (JP p m v C Y).length -> (vo (JP p m v C Y) i).toNat ≠ c := fun c hc i hi e => by
    have h3 := Jrq hc i hi
    have h4 := ZR (p := p) (m := m) (v := v) hs hi
    omega
  refine ⟨fc, fun j hj => (h1 j hj).1, fun j hj i hi => ?_, fun c hc hfree => ?_⟩
  . have e := (h1 i hi).2.2
    show vo (row (bas p m C.toNat (J2 p m v C Y) (JP p m v C Y) C.toNat) i) (fc j) = _
    rw [e]
    by_cases hij : i = j
    . subst hij; rw [if_pos rfl]; exact Jqs (h1 i hi).1 _ (hnp _ (h1 i hi).2.1)
    . rw [if_neg hij]
      refine Jbi (fun e2 => ?_) _ (hnp _ (h1 j hj).2.1)
      rcases Nat.lt_or_gt_of_ne hij with h | h
      . have := h2 i j h hj; omega
      . have := h2 j i h hi; omega
  . have hfr : ¬ inP (JP p m v C Y) c = true := fun hh => by
      obtain ⟨i, hi, e⟩ := Jdf.1 hh
      exact hfree i hi (by rw [e]; simp)
    obtain ⟨j, hj, e⟩ := Jnm (p := p) (m := m) (n := C.toNat) (J2 p m v C Y) (JP p m v C Y) C.toNat c hc hfr
    refine ⟨j, hj, ?_⟩
    have e2 := (h1 j hj).2.2
    rw [e] at e2
    have t1 : vo (YJ p m C.toNat (J2 p m v C Y) (JP p m v C Y) c (JP p m v C Y).length) c = 1 := Jqs hc _ (hnp c hfr)
    rcases Nat.decEq (fc j) c with hne | heq
    . rw [e2, Jbi (fun hh => hne hh.symm) _ (hnp c hfr)] at t1; exact absurd t1 (by decide)
    . exact heq
theorem Jrd (hF : FV P M mf p m v) : inE (p ^ m) 1 = 1 := J3 (x := 1) (by have := hF.ring.q2; omega)
/-- What is orthogonal to all rows of Y is a combination of the basis. -/
theorem Joy (hF : FV P M mf p m v) (hs : shp C Y) (he : Els p m Y) {u : LI} (hu : u.length = C.toNat) (hue : Elr p m u) (h : ∀ t, t < Y.length -> dt p m v C.toNat (en p m u) (en p m (row Y t)) = 0) : Sp p m v C.toNat (Yc p m v C Y) u := by
  have R := hF.ring
  have hq : 1 < p ^ m := by have := R.q2; omega
  have hp : 0 < p := by have := hF.p2; omega
  obtain ⟨fc, f1, f2, f3⟩ := Jpr (p := p) (m := m) (v := v) hs
  have hB := Y6 (p := p) (m := m) (v := v) hs
  intro f L hf
  have hcl := Yp (p := p) (m := m) (v := v) hs
  rw [<- Jbm hF L hu hf (Yc p m v C Y).length (Nat.le_refl _) (Q := fc)]
  have hwe := Zg (v := v) hp fc hue (X := Yc p m v C Y) (Yc p m v C Y).length
  have hwl : (rsd p m v fc (Yc p m v C Y) u (Yc p m v C Y).length).length = C.toNat := by rw [Zf, hu]
  have hz : ∀ j, j < (Yc p m v C Y).length -> vo (rsd p m v fc (Yc p m v C Y) u (Yc p m v C Y).length) (fc j) = 0 := fun j hj => Jh4 hF f1 f2 hu hue hj
  -- orthogonal to the rows
  have ho : ∀ t, t < Y.length -> dt p m v C.toNat (en p m (rsd p m v fc (Yc p m v C Y) u (Yc p m v C Y).length)) (en p m (row Y t)) = 0 := fun t ht => by
    rw [YN hF (JV hF _) (JV hF _)]
    have Lt := ZN (w := C.toNat) hF (JV hF (row Y t))
    have hA : Ann p m (dt p m v C.toNat (en p m (row Y t))) (Yc p m v C Y) := (Zs hF hB (ZS hF) Lt).1 (Jjm hF hs he ht)
    rw [Jbm hF Lt hu hA _ (Nat.le_refl _), YN hF (JV hF _) (JV hF _)]
    exact h t ht
  generalize rsd p m v fc (Yc p m v C Y) u (Yc p m v C Y).length = W at hwe hwl hz ho ⊢
  have hA2 : Ann p m (dt p m v C.toNat (en p m W)) (J2 p m v C Y) := (Zs hF hs he (ZN hF (JV hF W))).2 ho
  have hfree : ∀ c, c < C.toNat -> (∀ i, i < (JP p m v C Y).length -> (vo (JP p m v C Y) i).toNat ≠ c) -> en p m W c = 0 := fun c hc hfr => by
    obtain ⟨j, hj, e⟩ := f3 c hc hfr
    have := hz j hj
    rw [e] at this
    unfold en; rw [this, Jfr hF]
  refine Jiv hF L fun c hc => ?_
  by_cases hpv : ∃ i, i < (JP p m v C Y).length /\ (vo (JP p m v C Y) i).toNat = c
  . obtain ⟨i, hi, rfl⟩ := hpv
    have h1 := hA2 i (by omega)
    have h2 : dt p m v C.toNat (en p m W) (en p m (row (J2 p m v C Y) i)) = Jr p m (dv p v) (en p m W (vo (JP p m v C Y) i).toNat) (en p m (row (J2 p m v C Y) i) (vo (JP p m v C Y) i).toNat) := by
      refine Jco hF (f := fun c => Jr p m (dv p v) (en p m W c) (en p m (row (J2 p m v C Y) i) c)) (R.Ml _ _) C.toNat hc fun c' hc' hne => ?_
      show Jr p m (dv p v) (en p m W c') (en p m (row (J2 p m v C Y) i) c') = 0
      by_cases hpv2 : ∃ i', i' < (JP p m v C Y).length /\ (vo (JP p m v C Y) i').toNat = c'
      . obtain ⟨i', hi', rfl⟩ := hpv2
        have hii : i ≠ i' := fun e => hne (by rw [e])
        have : en p m (row (J2 p m v C Y) i) (vo (JP p m v C Y) i').toNat = 0 := by
          unfold en; rw [ZQ hF hs he hi' hi, if_neg hii, Jfr hF]
        rw [this, R.M0 (JV hF _ _)]
      . rw [hfree c' hc' fun i' hi' e => hpv2 ⟨i', hi', e⟩, R.Mc (by omega) (JV hF _ _), R.M0 (JV hF _ _)]
    rw [h2] at h1
    have h3 : en p m (row (J2 p m v C Y) i) (vo (JP p m v C Y) i).toNat = 1 := by
      unfold en; rw [ZQ hF hs he hi hi, if_pos rfl, Jrd hF]
    rw [h3, R.M1 (JV hF _ _)] at h1
    exact h1
  . exact hfree c hc fun i hi e => hpv ⟨i, hi, e⟩
end Go.Proofs.Ytjgpkljepgcekaa
namespace Go.Proofs.Ytjgpkljepgcekaa
/-! ### dimensions -/
variable {P M : Int} {mf : LI} {p m v g w : Nat} {C Ca Cb : Int} {X Y a b : LL}
theorem at_eq (hF : FV P M mf p m v) {c : Nat} (hc : c < w) (l : LI) : dt p m v w (fun i => if i = c then 1 else 0) (en p m l) = en p m l c := by
 have R := hF.ring; have hq : 1 < p ^ m := by have := R.q2; omega
 refine (Jco hF (f := fun i => Jr p m (dv p v) (if i = c then 1 else 0) (en p m l i)) (j := c) (R.Ml _ _) w hc fun i hi hne => ?_).trans ?_
 .show Jr p m (dv p v) (if i = c then 1 else 0) _ = 0; rw [if_neg hne, R.Mc (by omega) (JV hF _ _), R.M0 (JV hF _ _)]
 .show Jr p m (dv p v) (if c = c then 1 else 0) _ = _; rw [if_pos rfl, R.Mc (by omega) (JV hF _ _), R.M1 (JV hF _ _)]
end Go.Proofs.Ytjgpkljepgcekaa
namespace Go.Proofs.Ytjgpkljepgcekaa
/-! ### package code and its reference -/
section
variable {P M : Int} {mf : LI} {p m v : Nat} {N C : Int} {X Y : LL}
theorem FV.mlen (h : FV P M mf p m v) : mf.length <= 1000 := by
 by_cases h1 : m = 1
 .rw [(h.m1 h1).1]; simp
 .rw [h.m2 h1, Qe]; have h2 : 2 <= p := h.pr.two; have := Nat.lt_pow_self (n := m) (show 1 < p by omega); have := h.q; omega
/-- the error of a code -/
noncomputable def cck (P M : Int) (mf : LI) (N : Int) (X : LL) : Int := if ck P M mf ≠ 0 then ck P M mf else if 1 <= N /\ N <= 64 then sck P M mf N X else 4
theorem Jdq {n : Int} {Q : Bool -> Prop} (h : Q (decide (1 <= n /\ n <= 64))) : YI n Q := by
 refine ⟨fun h1 => ?_, fun h1 => ?_⟩
 .have e : decide (1 <= n /\ n <= 64) = decide (n <= 64) := by simp [h1]
  rw [<- e]; exact h
 .have e : decide (1 <= n /\ n <= 64) = false := by simp [h1]
  rw [<- e]; exact h
theorem Jhr {Q : Int -> Prop} (h : Q (cck P M mf N X)) : ZX P M mf N X Q := by
 unfold cck at h; refine Jmh ⟨fun h0 => ?_, fun h0 => Jdq ⟨fun h1 => ?_, fun h1 => ⟨_, Jhl rfl, ?_⟩⟩⟩
 .rw [if_pos h0] at h; exact h
 .rw [if_neg h0, if_neg (fun hh => by rw [decide_eq_true hh] at h1; cases h1)] at h; exact h
 .rw [if_neg h0, if_pos (of_decide_eq_true (by simpa using h1))] at h; exact h
theorem Jsa {q : Nat -> Nat} (G : Sg P M mf p m v N X q) (h1 : 1 <= N) (h2 : N <= 64) : cck P M mf N X = 0 := by
 unfold cck; rw [if_neg (by rw [Jen ⟨p, m, v, G.f⟩]; simp), if_pos ⟨h1, h2⟩, G.sck]
theorem Jhm {mm : LL} {e : Int} {Q : Option LI × Int -> Prop} (he : e ≠ 0) (h : Q (none, e)) : Ja7 P M mf C mm e Q := ⟨fun _ => h, fun hh => absurd he hh⟩
theorem Jhn {mm : LL} {Q : Option LI × Int -> Prop} (hm : mf.length <= 1000) (h : Q (some mf, 0)) : Ja7 P M mf C mm 0 Q := ⟨fun hh => absurd rfl hh, fun _ => Z2 (by omega) h⟩
/-- the error of New -/
noncomputable def nck (P M : Int) (mf : LI) (C : Int) (X : LL) : Int := if mck P M mf C X ≠ 0 then mck P M mf C X else if 1 <= C /\ C <= 64 then 0 else 4
theorem w_cNew {Q : Int × Int × LI × Int × LL × Int -> Prop} (h0 : nck P M mf C X ≠ 0 -> Q (0, 0, [], 0, [], nck P M mf C X))
  (h : ∀ p m v, FV P M mf p m v -> shp C X -> Els p m X -> 1 <= C /\ C <= 64 -> Q (P, M, mf, C, J2 p m v C X, 0)) : Je1 P M mf C X Q := by
 unfold nck at h0; refine Jhs (fun hb => ⟨fun hh => absurd hh hb, fun _ => Jhm hb ?_⟩) fun p m v hF hs he hz => ⟨fun _ => Jdq ?_, fun hh => absurd rfl hh⟩
 .rw [if_pos hb] at h0; exact h0 hb
 .rw [if_neg (fun hh => hh hz)] at h0; by_cases h1 : 1 <= C /\ C <= 64
  .refine ⟨fun z => z = 0, ⟨fun hh => by simp [h1] at hh, fun _ => rfl⟩, ?_⟩; rintro _ rfl; exact Jhn hF.mlen (h p m v hF hs he h1)
  .refine ⟨fun z => z = 4, ⟨fun _ => rfl, fun hh => by simp [h1] at hh⟩, ?_⟩; rintro _ rfl; rw [if_neg h1] at h0; exact Jhm (by decide) (h0 (by decide))
theorem Jtq {Q : Int × Int × LI × Int × LL × Int -> Prop} {q : Nat -> Nat} (G : Sg P M mf p m v N X q) (h1 : 1 <= N /\ N <= 64) (h : Q (P, M, mf, N, nul p m v N X, 0)) : Jdn P M mf N X Q := by
 refine Jhr ?_; rw [Jsa G h1.1 h1.2]; refine ⟨fun hh => absurd rfl hh, fun _ => ⟨fun a b e => a = N /\ b = nul p m v N X /\ e = 0, ⟨_, _, _, w_Kern G.f G.s G.e rfl, rfl, rfl, rfl⟩, ?_⟩⟩; rintro _ _ _ ⟨rfl, rfl, rfl⟩; exact Jhn G.f.mlen h
end
end Go.Proofs.Ytjgpkljepgcekaa
namespace Go.Proofs.Ytjgpkljepgcekaa
/-! ### monomials, lists compared -/
section
/-- the mask of the first i variables -/
def msk (l : LI) (i : Nat) : Nat := (l.take i).foldl (fun a v => a ||| 2 ^ v.toNat) 0
theorem Jit {l : LI} {i : Nat} (h : i < l.length) : msk l (i + 1) = msk l i ||| 2 ^ (vo l i).toNat := by
 unfold msk vo; rw [List.take_add_one, List.foldl_append, List.getElem?_eq_getElem h, List.getD_eq_getElem?_getD, List.getElem?_eq_getElem h]; rfl
theorem Jk7 {l : LI} {m : Nat} : ∀ i, i <= l.length -> (∀ j, j < i -> 0 <= vo l j /\ vo l j < (m : Int)) -> msk l i < 2 ^ m
 | 0, _, _ => by simp only [msk, List.take_zero, List.foldl_nil]; exact Nat.pos_of_ne_zero (by simp)
 | i + 1, hi, h => by
  rw [Jit (by omega)]; have := h i (by omega); refine Nat.or_lt_two_pow (Jk7 i (by omega) fun j hj => h j (by omega)) ?_; exact Nat.pow_lt_pow_right (by omega) (by omega)
/-- the values of a monomial at all points -/
def evl (m : Nat) (l : LI) : LI := (List.range (2 ^ m)).map fun x => if x &&& msk l l.length = msk l l.length then 1 else 0
theorem Jiy {x : Nat} (h : x <= 6) : QP 1 (x : Int) = ((2 ^ x : Nat) : Int) := by
 unfold QP; rw [Int.toNat_natCast, show min x IntKind.i64.bits = x from Nat.min_eq_left (by show x <= 64; omega)]; simp
theorem pow6 {x : Nat} (h : x <= 6) : 1 <= 2 ^ x /\ 2 ^ x <= 64 := ⟨Nat.one_le_two_pow, Nat.pow_le_pow_right (by omega) h⟩
theorem Jho {m : Nat} {l : LI} {Q : LI -> Prop} (hm : m <= 6) (hl : l.length <= 1000000) (hv : ∀ j, j < l.length -> 0 <= vo l j /\ vo l j < (m : Int)) (h : Q (evl m l)) : YR (m : Int) l Q := by
 refine ⟨fun x z => ∃ i : Nat, z = i /\ i <= l.length /\ x = ((msk l i : Nat) : Int), fun _ z => (l.length - z).toNat, ⟨0, rfl, Nat.zero_le _, rfl⟩, ?_⟩; rintro _ _ ⟨i, rfl, hi, rfl⟩; dsimp only; have hp := pow6 hm; refine ⟨fun hlt => ?_, fun hge => ?_⟩
 .have hb := hv i (by omega); obtain ⟨y, hy⟩ := Int.eq_ofNat_of_zero_le hb.1; have hg : gi l (i : Int) = (y : Int) := hy; have hy6 : y <= 6 := by omega
  have hp2 := pow6 hy6; have hk := Jk7 (m := m) i hi fun j hj => hv j (by omega); rw [hg, Jiy hy6]; refine ⟨⟨by omega, by omega⟩, ⟨by omega, Ju (by omega) (by omega)⟩, ⟨by omega, by omega, by omega, by omega⟩, Ju (by omega) (by omega), ⟨i + 1, by push_cast; rfl, by omega, ?_⟩, by omega⟩; rw [Jit (by omega), hy]; simp only [ior, Int.toNat_natCast]
 obtain rfl : i = l.length := by omega
 have hk := Jk7 (m := m) l.length (Nat.le_refl _) hv; rw [Jiy hm]; refine ⟨⟨by omega, Ju (by omega) (by omega)⟩, ⟨by omega, by omega, by omega⟩, fun x z => ∃ k : Nat, z = k /\ k <= 2 ^ m /\ x.length = 2 ^ m /\ ∀ j, j < 2 ^ m -> vo x j = if j < k /\ j &&& msk l l.length = msk l l.length then 1 else 0, fun _ z => ((2 ^ m : Nat) - z).toNat, ⟨0, rfl, Nat.zero_le _, by rw [List.length_replicate, Int.toNat_natCast], fun j hj => ?_⟩, ?_⟩
 .rw [if_neg (by omega)]; unfold vo; rw [List.getD_eq_getElem?_getD, List.getElem?_replicate]; split <;> rfl
 rintro x _ ⟨k, rfl, hk2, hx, hx2⟩; dsimp only; refine ⟨fun hlt => ?_, fun hge => ?_⟩
 .refine ⟨fun y => y.length = 2 ^ m /\ ∀ j, j < 2 ^ m -> vo y j = if j < k + 1 /\ j &&& msk l l.length = msk l l.length then 1 else 0, ⟨⟨by omega, by omega, by omega, by omega⟩, fun he => ⟨⟨by omega, by omega⟩, ?_, fun j hj => ?_⟩, fun hne => ⟨hx, fun j hj => ?_⟩⟩, ?_⟩
  .rw [Qo, List.length_set]; exact hx
  .have he' : k &&& msk l l.length = msk l l.length := by
    simp only [Jld, Int.toNat_natCast] at he; omega
   rw [Qo, Qd, hx2 j hj]; by_cases e : k = j
   .subst e; rw [if_pos ⟨rfl, by omega⟩, if_pos ⟨by omega, he'⟩]
   .rw [if_neg (fun hh => e hh.1)]; by_cases e2 : j &&& msk l l.length = msk l l.length
    .by_cases e3 : j < k
     .rw [if_pos ⟨e3, e2⟩, if_pos ⟨by omega, e2⟩]
     .rw [if_neg (fun hh => e3 hh.1), if_neg (fun hh => by omega)]
    .rw [if_neg (fun hh => e2 hh.2), if_neg (fun hh => e2 hh.2)]
  .have hne' : ¬ k &&& msk l l.length = msk l l.length := fun e => hne (by simp only [Jld, Int.toNat_natCast]; omega); rw [hx2 j hj]; by_cases e2 : j &&& msk l l.length = msk l l.length
   .have : j ≠ k := fun e => hne' (e ▸ e2); by_cases e3 : j < k
    .rw [if_pos ⟨e3, e2⟩, if_pos ⟨by omega, e2⟩]
    .rw [if_neg (fun hh => e3 hh.1), if_neg (fun hh => by omega)]
   .rw [if_neg (fun hh => e2 hh.2), if_neg (fun hh => e2 hh.2)]
  .rintro y ⟨h1, h2⟩; exact ⟨Ju (by omega) (by omega), ⟨k + 1, by push_cast; rfl, by omega, h1, h2⟩, by omega⟩
 have hk3 : k = 2 ^ m := by omega
 subst hk3; have e : x = evl m l := by
  refine List.ext_getElem (by simp [evl, hx]) fun j h1 h2 => ?_; have := hx2 j (by omega); unfold vo at this; rw [List.getD_eq_getElem?_getD, List.getElem?_eq_getElem h1] at this; simp only [Option.getD_some] at this; rw [this]; simp only [evl, List.getElem_map, List.getElem_range]; by_cases e2 : j &&& msk l l.length = msk l l.length
  .rw [if_pos ⟨by omega, e2⟩, if_pos e2]
  .rw [if_neg (fun hh => e2 hh.2), if_neg e2]
 rw [e]; exact h
theorem Jkc {m : Int} {l : LI} {Q : LI × Int -> Prop} (h6 : ¬ (0 <= m /\ m <= 6) -> Q ([], 6)) (h5 : 0 <= m /\ m <= 6 -> ¬ Asc m.toNat l -> Q ([], 5)) (h0 : 0 <= m /\ m <= 6 -> Asc m.toNat l -> Q (evl m.toNat l, 0)) : Zy m l Q := by
 refine ⟨fun hh => h6 (by omega), fun h1 => ⟨fun hh => h6 (by omega), fun h2 => ?_⟩⟩; obtain ⟨n, rfl⟩ := Int.eq_ofNat_of_zero_le (show 0 <= m by omega); have hn : n <= 6 := by omega
 rw [Int.toNat_natCast] at h5 h0; have h5 := h5 ⟨by omega, by omega⟩; have h0 := h0 ⟨by omega, by omega⟩; refine ⟨fun z t => ∃ i : Nat, t = i /\ i <= l.length /\ (i : Int) <= z + 1 /\ z < (n : Int) /\ (∀ j, j < i -> 0 <= vo l j /\ vo l j <= z) /\ (∀ a b, a < b -> b < i -> vo l a < vo l b) /\ (0 < i -> z = vo l (i - 1)) /\ -1 <= z /\ (i = 0 -> z = -1), fun _ t => (l.length - t).toNat, ⟨0, rfl, Nat.zero_le _, by omega, by omega, fun j hj => absurd hj (Nat.not_lt_zero _), fun a b _ hb => absurd hb (Nat.not_lt_zero _), fun hh => absurd hh (Nat.lt_irrefl 0), by omega, fun _ => rfl⟩, ?_⟩; rintro z _ ⟨i, rfl, hi, hiz, hzn, ha, hb, hc, hz1, hz0⟩; dsimp only; refine ⟨fun hlt => ⟨⟨by omega, by omega⟩, fun hle => h5 fun hA => ?_, fun hgt => ⟨fun hge => h5 fun hA => ?_, fun hlt2 => ⟨Ju (by omega) (by omega), ⟨i + 1, by push_cast; rfl, by omega, ?_, ?_, fun j hj => ?_, fun a b hab hbi => ?_, fun _ => rfl, ?_, fun hh => absurd hh (Nat.succ_ne_zero _)⟩, by omega⟩⟩⟩, fun hge => ?_⟩
 .have hle' : vo l i <= z := hle; have := hA.1 i (by omega); rcases Nat.eq_zero_or_pos i with e | e
  .have := hz0 e; omega
  .have h1 := hc e; have := hA.2 (i - 1) i (by omega) (by omega); omega
 .have hge' : (n : Int) <= vo l i := hge; have := hA.1 i (by omega); omega
 .have hgt' : ¬ vo l i <= z := hgt; show ((i + 1 : Nat) : Int) <= vo l i + 1; omega
 .have hlt' : ¬ (n : Int) <= vo l i := hlt2; show vo l i < (n : Int)
  omega
 .have hgt' : ¬ vo l i <= z := hgt; show 0 <= vo l j /\ vo l j <= vo l i; rcases Nat.lt_or_ge j i with e | e
  .have := ha j e; omega
  .obtain rfl : j = i := by omega
   omega
 .have hgt' : ¬ vo l i <= z := hgt; rcases Nat.lt_or_ge b i with e | e
  .exact hb a b hab e
  .obtain rfl : b = i := by omega
   have := ha a hab; omega
 .have hgt' : ¬ vo l i <= z := hgt; show -1 <= vo l i; omega
 obtain rfl : i = l.length := by omega
 exact Jho hn (by omega) (fun j hj => by have := ha j hj; omega) (h0 ⟨fun j hj => by have := ha j hj; omega, hb⟩)
theorem asc01 : Asc (2 : Int).toNat [0, 1] := by
 refine ⟨fun i hi => ?_, fun i j hij hj => ?_⟩
 .match i, hi with
  | 0, _ => exact ⟨by decide, by decide⟩
  | 1, _ => exact ⟨by decide, by decide⟩
 .have hj' : j < 2 := hj; obtain rfl : j = 1 := by omega
  obtain rfl : i = 0 := by omega
  decide
theorem Job {Q : Bool -> Prop} (h : Q true) : Jaj Q := by
 refine Jkc (fun hh => absurd ⟨by decide, by decide⟩ hh) (fun _ hh => absurd asc01 hh) fun _ _ => ?_; have e : evl (2 : Int).toNat [0, 1] = [0, 0, 0, 1] := by decide
 rw [e]; exact ⟨fun _ => ⟨fun _ => ⟨⟨by decide, by decide⟩, fun _ => ⟨⟨by decide, by decide⟩, fun _ => ⟨⟨by decide, by decide⟩, fun _ => ⟨⟨by decide, by decide⟩, h⟩, fun hh => absurd rfl hh⟩, fun hh => absurd rfl hh⟩, fun hh => absurd rfl hh⟩, fun hh => absurd rfl hh⟩, fun hh => absurd rfl hh⟩
end
end Go.Proofs.Ytjgpkljepgcekaa
namespace Go.Proofs.Ytjgpkljepgcekaa
/-! ### the points of a projective space -/
section
variable {P M : Int} {mf : LI} {p m v g : Nat} {F : GFv}
def cdg (q r x : Nat) : LI := (List.range r).map fun k => ((x / q ^ (r - 1 - k) % q : Nat) : Int)
theorem Jnl (q r x : Nat) : (cdg q r x).length = r := by simp [cdg]
theorem Jce {q r x k : Nat} (h : k < r) : vo (cdg q r x) k = ((x / q ^ (r - 1 - k) % q : Nat) : Int) := by
 unfold vo cdg; rw [List.getD_eq_getElem?_getD, List.getElem?_map, List.getElem?_range h]; rfl
theorem Ju3 {q r x : Nat} {l : LI} (hl : l.length = r) (h : ∀ k, k < r -> vo l k = ((x / q ^ (r - 1 - k) % q : Nat) : Int)) : l = cdg q r x := by
 refine List.ext_getElem (by rw [hl, Jnl]) fun j h1 h2 => ?_; have a := h j (by omega); have b := Jce (q := q) (x := x) (show j < r by omega); rw [<- b] at a; unfold vo at a
 rwa [List.getD_eq_getElem?_getD, List.getElem?_eq_getElem h1, List.getD_eq_getElem?_getD, List.getElem?_eq_getElem h2] at a
/-- the digits, written from the last to the first -/
def dgI (q r x : Nat) (l : LI) (z t : Int) : Prop := ∃ j : Nat, t = (j : Int) - 1 /\ j <= r /\ l.length = r /\ z = ((x / q ^ (r - j) : Nat) : Int) /\ ∀ k, j <= k -> k < r -> vo l k = ((x / q ^ (r - 1 - k) % q : Nat) : Int)
theorem dgI_0 (q r x : Nat) : dgI q r x (List.replicate r 0) (x : Int) ((r : Int) - 1) := ⟨r, rfl, Nat.le_refl _, by simp, by rw [Nat.sub_self, Nat.pow_zero, Nat.div_one], fun k h1 h2 => by omega⟩
theorem Ji5 {q r x : Nat} (hq : 2 <= q) (hq2 : q <= 256) (hr : r <= 64) (hx : x <= 100000000) {l : LI} {z t : Int} (h : dgI q r x l z t) (ht : 0 <= t) :
  (0 <= t /\ t < (r : Nat)) /\ I64 (z.tdiv (q : Int)) /\ I64 (t - 1) /\ dgI q r x (si l t (z.tmod (q : Int))) (z.tdiv (q : Int)) (t - 1) := by
 obtain ⟨j, rfl, hj, hl, rfl, hk⟩ := h; have hj0 : 0 < j := by omega
 have e1 : ((j : Int) - 1) = ((j - 1 : Nat) : Int) := by omega
 have hle : x / q ^ (r - j) / q <= x := Nat.le_trans (Nat.div_le_self _ _) (Nat.div_le_self _ _); have e2 : x / q ^ (r - j) / q = x / q ^ (r - (j - 1)) := by
  rw [Nat.div_div_eq_div_mul, <- Nat.pow_succ, show (r - j).succ = r - (j - 1) by omega]
 refine ⟨⟨by omega, by omega⟩, ?_, Ju (by omega) (by omega), j - 1, by omega, by omega, ?_, ?_, fun k h1 h2 => ?_⟩
 .rw [Jhv]; exact Ze (by omega)
 .rw [e1, Qo, List.length_set]; exact hl
 .rw [Jhv, e2]
 .rw [e1, Qo, Qd, Jbh]; by_cases e : j - 1 = k
  .subst e; rw [if_pos ⟨rfl, by omega⟩, show r - 1 - (j - 1) = r - j by omega]
  .rw [if_neg (fun hh => e hh.1)]; exact hk k (by omega) h2
theorem Jni {q r x : Nat} {l : LI} {z t : Int} (h : dgI q r x l z t) (ht : ¬ 0 <= t) : l = cdg q r x := by
 obtain ⟨j, rfl, hj, hl, rfl, hk⟩ := h; exact Ju3 hl fun k h => hk k (by omega) h
theorem Jn9 {q r x : Nat} {Q : LI -> Prop} (hq : 2 <= q) (hq2 : q <= 256) (hr : r <= 64) (hx : x <= 100000000) (h : Q (cdg q r x)) : Jah (q : Int) (r : Int) (x : Int) Q := by
 refine ⟨⟨by omega, by omega, by omega⟩, Ju (by omega) (by omega), fun l z t => dgI q r x l z t, fun _ _ t => (t + 1).toNat, by rw [Int.toNat_natCast]; exact dgI_0 q r x, ?_⟩; intro l z t hI; refine ⟨fun ht => ?_, fun ht => by rw [Jni hI ht]; exact h⟩; obtain ⟨h1, h2, h3, h4⟩ := Ji5 hq hq2 hr hx hI ht; exact ⟨by omega, by rw [Int.toNat_natCast]; exact h1, ⟨by omega, h2⟩, h3, h4, by dsimp only; omega⟩
/-- how many points there are -/
def cnt (q : Nat) : Nat -> Nat
  | 0 => 0
  | r + 1 => cnt q r * q + 1
theorem Jab (q : Nat) : ∀ r, cnt q (r + 1) = cnt q r + q ^ r
 | 0 => by simp [cnt]
 | r + 1 => by
  have ih := Jab q r; rw [show cnt q (r + 1 + 1) = cnt q (r + 1) * q + 1 from rfl]; have e : q ^ r * q = q ^ (r + 1) := (Nat.pow_succ ..).symm; rw [ih, Nat.add_mul, e]; have : cnt q (r + 1) = cnt q r * q + 1 := rfl; omega
theorem Jby (q : Nat) {a b : Nat} (h : a <= b) : cnt q a <= cnt q b := by
 induction h with
 | refl => exact Nat.le_refl _
 | step _ ih => rw [Jab]; omega
theorem ZP {q : Nat} (hq : 1 <= q) : ∀ r, r <= cnt q r
 | 0 => Nat.le_refl _
 | r + 1 => by
  have := ZP hq r; have h1 : cnt q r * 1 <= cnt q r * q := Nat.mul_le_mul_left _ hq; show r + 1 <= cnt q r * q + 1; omega
/-- some count up to r is beyond 64 -/
theorem Jp6 {q : Nat} {r : Int} {Q : Bool -> Prop} (hq : 2 <= q) (hq2 : q <= 256) (hr : 1 <= r) (h1 : cnt q r.toNat <= 64 -> Q true) (h2 : ¬ cnt q r.toNat <= 64 -> Q false) : Jca (q : Int) r Q := by
  obtain ⟨n, rfl⟩ := Int.eq_ofNat_of_zero_le (show 0 <= r by omega)
  rw [Int.toNat_natCast] at h1 h2
  refine ⟨fun z t => ∃ j : Nat, t = j /\ j <= n /\ z = ((cnt q j : Nat) : Int) /\ cnt q j <= 64, fun _ t => (n - t).toNat, ⟨0, rfl, Nat.zero_le _, rfl, by simp [cnt]⟩, ?_⟩
  rintro _ _ ⟨j, rfl, hj, rfl, hc⟩
  dsimp only
  have hb : cnt q j * q <= 64 * 256 := Nat.mul_le_mul hc hq2
  have hj64 := ZP (show 1 <= q by omega) j
  have e : ((cnt q j : Nat) : Int) * (q : Int) = ((cnt q j * q : Nat) : Int) := by push_cast; rfl
  rw [e]
  refine ⟨fun hlt => ⟨Ze (by omega), Ju (by omega) (by omega), fun hgt => h2 fun hle => ?_, fun hle => ⟨Ju (by omega) (by omega), ⟨j + 1, by push_cast; rfl, by omega, by show _ = ((cnt q j * q + 1 : Nat) : Int); push_cast; rfl, by show cnt q j * q + 1 <= 64; omega⟩, by omega⟩⟩, fun hge => ?_⟩
  . have := Jby q (show j + 1 <= n by omega)
    have e3 : cnt q (j + 1) = cnt q j * q + 1 := rfl
    omega
  . obtain rfl : j = n := by omega
    exact h1 hc
/-- the numbers of the points -/
def pnl (q : Nat) : Nat -> List Nat
  | 0 => []
  | i + 1 => pnl q i ++ List.range' (q ^ i) (q ^ i)
def pts (q r : Nat) : LL := (pnl q r).map (cdg q r)
theorem Zi (q : Nat) : ∀ i, (pnl q i).length = cnt q i
 | 0 => rfl
 | i + 1 => by rw [pnl, List.length_append, List.length_range', Zi q i, Jab]
theorem Jdb (q r : Nat) : (pts q r).length = cnt q r := by rw [pts, List.length_map, Zi]
theorem Jua {q : Nat} (hq : 2 <= q) {i r : Nat} (hi : i < r) (h : cnt q r <= 64) : q ^ i <= 64 /\ 1 <= q ^ i := by
 have := Jby q (show i + 1 <= r by omega); rw [Jab] at this; exact ⟨by omega, Nat.pos_of_ne_zero (fun e => by have := Nat.pow_eq_zero.1 e; omega)⟩
theorem Jh5 {q r t : Nat} (h : t < (pts q r).length) : (row (pts q r) t).length = r := by
 unfold row pts; rw [List.getD_eq_getElem?_getD, List.getElem?_map, List.getElem?_eq_getElem (by rw [pts, List.length_map] at h; exact h)]; exact Jnl _ _ _
theorem Jp7 {r : Int} {Q : LL × Int -> Prop} (h1 : ¬ QB P M mf -> Q ([], 1)) (h6 : QB P M mf -> r < 1 -> Q ([], 6))
  (h : ∀ p m v, FV P M mf p m v -> 1 <= r -> (¬ cnt (p ^ m) r.toNat <= 64 -> Q ([], 4)) /\ (cnt (p ^ m) r.toNat <= 64 -> Q (pts (p ^ m) r.toNat, 0))) : Jcb P M mf r Q := by
 refine Jql (fun hn => ⟨fun _ => h1 hn, fun hh => absurd (by decide) hh⟩) fun F p m v g K e1 e2 e3 => ⟨fun hh => absurd rfl hh, fun _ => ⟨fun hr => ?_, fun hr => ?_⟩⟩
 .subst e1 e2 e3; exact h6 ⟨p, m, v, K.fv⟩ hr
 have hF : FV P M mf p m v := by subst e1 e2 e3; exact K.fv
 obtain ⟨h4, h0⟩ := h p m v hF (by omega); have hq : 2 <= p ^ m := hF.ring.q2; have hq2 := hF.q; unfold Jal; rw [K.q]; dsimp only; refine Jp6 hq hq2 (by omega) (fun hc => ⟨(fun hh => by cases hh), fun _ => ?_⟩) (fun hc => ⟨fun _ => h4 hc, (fun hh => by cases hh)⟩); have h0 := h0 hc; obtain ⟨n, rfl⟩ := Int.eq_ofNat_of_zero_le (show 0 <= r by omega); rw [Int.toNat_natCast] at h0 hc; generalize p ^ m = q at *
 have hn : n <= 64 := Nat.le_trans (ZP (by omega) n) hc; refine ⟨fun x z t => ∃ i : Nat, t = i /\ i <= n /\ z = ((q ^ i : Nat) : Int) /\ x = (pnl q i).map (cdg q n), fun _ _ t => (n - t).toNat, ⟨0, rfl, Nat.zero_le _, by simp, rfl⟩, ?_⟩; rintro _ _ _ ⟨i, rfl, hi, rfl, rfl⟩; dsimp only; refine ⟨fun hlt => ?_, fun hge => ?_⟩
 .obtain ⟨hp1, hp2⟩ := Jua hq (show i < n by omega) hc; have hci := Jby q (show i <= n by omega); refine ⟨fun x z => ∃ k : Nat, z = ((q ^ i + k : Nat) : Int) /\ k <= q ^ i /\ x = (pnl q i).map (cdg q n) ++ (List.range' (q ^ i) k).map (cdg q n), fun _ z => ((2 * q ^ i : Nat) - z).toNat, ⟨0, rfl, Nat.zero_le _, by simp⟩, ?_⟩; rintro _ _ ⟨k, rfl, hk, rfl⟩; dsimp only; refine ⟨Ju (by omega) (by omega), fun hlt2 => ?_, fun hge2 => ?_⟩
  .refine Jn9 hq hq2 hn (by omega) ⟨?_, Ju (by omega) (by omega), ⟨k + 1, by generalize q ^ i = w at *; push_cast; omega, by omega, ?_⟩, by generalize q ^ i = w at *; omega⟩
   .rw [List.length_append, List.length_map, List.length_map, Zi, List.length_range']; omega
   .rw [List.range'_1_concat, List.map_append, List.append_assoc]; rfl
  .obtain rfl : k = q ^ i := by omega
   have hb : q ^ i * q <= 64 * 256 := Nat.mul_le_mul hp1 hq2; have e : ((q ^ i : Nat) : Int) * (q : Int) = ((q ^ i * q : Nat) : Int) := by push_cast; rfl
   rw [e]; exact ⟨Ze (by omega), Ju (by omega) (by omega), ⟨i + 1, by push_cast; rfl, by omega, by rw [Nat.pow_succ], by rw [pnl, List.map_append]⟩, by omega⟩
 .obtain rfl : i = n := by omega
  exact h0
end
end Go.Proofs.Ytjgpkljepgcekaa
namespace Go.Proofs.Ytjgpkljepgcekaa
/-! ### the reference's points; the law of points -/
section
variable {P M : Int} {mf : LI} {p m v g : Nat} {F : GFv}
/-- the first digit other than 0 is 1 -/
def isP (q r x : Nat) : Bool := decide (∃ i, i < r /\ q ^ i <= x /\ x < 2 * q ^ i)
theorem Jo7 {q r i : Nat} (hq : 2 <= q) (hi : i < r) : (List.range' (q ^ i) (q ^ (i + 1) - q ^ i)).filter (isP q r) = List.range' (q ^ i) (q ^ i) := by
 have hp : 1 <= q ^ i := Nat.pos_of_ne_zero (fun e => by have := Nat.pow_eq_zero.1 e; omega); have hs : q ^ (i + 1) = q ^ i * q := Nat.pow_succ ..; have h2 : q ^ i * 2 <= q ^ i * q := Nat.mul_le_mul_left _ hq; have e : List.range' (q ^ i) (q ^ (i + 1) - q ^ i) = List.range' (q ^ i) (q ^ i) ++ List.range' (q ^ i + q ^ i) (q ^ (i + 1) - q ^ i - q ^ i) := by
  have := List.range'_append_1 (s := q ^ i) (m := q ^ i) (n := q ^ (i + 1) - q ^ i - q ^ i); rw [this]; congr 1; omega
 rw [e, List.filter_append, List.filter_eq_self.2, List.filter_eq_nil_iff.2, List.append_nil]
 .intro x hx; rw [List.mem_range'_1] at hx; simp only [isP, decide_eq_true_eq]; rintro ⟨j, hj, h3, h4⟩; rcases Nat.lt_trichotomy j i with h | h | h
  .have h5 : q ^ (j + 1) <= q ^ i := Nat.pow_le_pow_right (by omega) h; have h6 : q ^ (j + 1) = q ^ j * q := Nat.pow_succ ..; have h7 : q ^ j * 2 <= q ^ j * q := Nat.mul_le_mul_left _ hq; omega
  .subst h; omega
  .have h5 : q ^ (i + 1) <= q ^ j := Nat.pow_le_pow_right (by omega) h; omega
 .intro x hx; rw [List.mem_range'_1] at hx; simp only [isP, decide_eq_true_eq]; exact ⟨i, hi, hx.1, by omega⟩
theorem ZM {q r : Nat} (hq : 2 <= q) : ∀ i, i <= r -> (List.range' 1 (q ^ i - 1)).filter (isP q r) = pnl q i
 | 0, _ => by simp [pnl]
 | i + 1, hi => by
  have hp : 1 <= q ^ i := Nat.pos_of_ne_zero (fun e => by have := Nat.pow_eq_zero.1 e; omega); have hs : q ^ (i + 1) = q ^ i * q := Nat.pow_succ ..; have h2 : q ^ i * 2 <= q ^ i * q := Nat.mul_le_mul_left _ hq; have e : List.range' 1 (q ^ (i + 1) - 1) = List.range' 1 (q ^ i - 1) ++ List.range' (q ^ i) (q ^ (i + 1) - q ^ i) := by
   have := List.range'_append_1 (s := 1) (m := q ^ i - 1) (n := q ^ (i + 1) - q ^ i); rw [show 1 + (q ^ i - 1) = q ^ i by omega] at this; rw [this]; congr 1; omega
  rw [e, List.filter_append, ZM hq i (by omega), Jo7 hq (by omega)]; rfl
/-- what the scan of the digits finds -/
theorem Jna {q r x : Nat} (hq : 2 <= q) (hx : 1 <= x) (hxr : x < q ^ r) {z : Int} (hz : ∀ k, k < r -> (∀ k', k' < k -> vo (cdg q r x) k' = 0) -> vo (cdg q r x) k ≠ 0 -> z = vo (cdg q r x) k) : (z = 1 ↔ isP q r x = true) := by
  obtain ⟨i, h1, h2⟩ : ∃ i, q ^ i <= x /\ x < q ^ (i + 1) := by
    have key : ∀ n, x < q ^ n -> ∃ i, q ^ i <= x /\ x < q ^ (i + 1) := by
      intro n
      induction n with
      | zero => intro h; simp at h; omega
      | succ n ih =>
        intro h
        rcases Nat.lt_or_ge x (q ^ n) with h3 | h3
        . exact ih h3
        . exact ⟨n, h3, h⟩
    exact key r hxr
  have hir : i < r := by
    rcases Nat.lt_or_ge i r with h | h
    . exact h
    . have : q ^ r <= q ^ i := Nat.pow_le_pow_right (by omega) h
      omega
  have hp : 1 <= q ^ i := Nat.pos_of_ne_zero (fun e => by have := Nat.pow_eq_zero.1 e; omega)
  have hs : q ^ (i + 1) = q ^ i * q := Nat.pow_succ ..
  have hdl : x / q ^ i < q := Nat.div_lt_of_lt_mul (by omega)
  have hd1 : 1 <= x / q ^ i := (Nat.one_le_div_iff (by omega)).2 h1
  have hv : vo (cdg q r x) (r - 1 - i) = ((x / q ^ i : Nat) : Int) := by
    rw [Jce (by omega), show r - 1 - (r - 1 - i) = i by omega, Nat.mod_eq_of_lt hdl]
  have hz' := hz (r - 1 - i) (by omega) (fun k' hk' => by
    rw [Jce (by omega)]
    have : q ^ (i + 1) <= q ^ (r - 1 - k') := Nat.pow_le_pow_right (by omega) (by omega)
    rw [Nat.div_eq_of_lt (by omega)]; simp) (by rw [hv]; omega)
  rw [hz', hv]
  simp only [isP, decide_eq_true_eq]
  constructor
  . intro h
    have h3 : x / q ^ i = 1 := by omega
    refine ⟨i, hir, h1, ?_⟩
    have := Nat.div_add_mod x (q ^ i)
    have := Nat.mod_lt x (show 0 < q ^ i by omega)
    rw [h3] at *
    omega
  . rintro ⟨j, hj, h3, h4⟩
    have hji : j = i := by
      rcases Nat.lt_trichotomy j i with h | h | h
      . have h5 : q ^ (j + 1) <= q ^ i := Nat.pow_le_pow_right (by omega) h
        have h6 : q ^ (j + 1) = q ^ j * q := Nat.pow_succ ..
        have h7 : q ^ j * 2 <= q ^ j * q := Nat.mul_le_mul_left _ hq
        omega
      . exact h
      . have h5 : q ^ (i + 1) <= q ^ j := Nat.pow_le_pow_right (by omega) h
        omega
    subst hji
    have : x / q ^ j = 1 := by
      have h5 : x / q ^ j < 2 := Nat.div_lt_of_lt_mul (by omega)
      omega
    omega
theorem ZZ {r : Int} {Q : LL × Int -> Prop} (h1 : ¬ QB P M mf -> Q ([], 1)) (h6 : QB P M mf -> r < 1 -> Q ([], 6))
  (h : ∀ p m v, FV P M mf p m v -> 1 <= r -> (¬ cnt (p ^ m) r.toNat <= 64 -> Q ([], 4)) /\ (cnt (p ^ m) r.toNat <= 64 -> Q (pts (p ^ m) r.toNat, 0))) : Jae P M mf r Q := by
 refine Jqi ⟨fun h0 => h1 fun hV => h0 (Jen hV), fun h0 => ⟨fun hr => h6 (Classical.byContradiction fun hV => h0 (by rw [Ye hV]; decide)) hr, fun hr => ?_⟩⟩; obtain ⟨p, m, v, hF⟩ : QB P M mf := Classical.byContradiction fun hV => h0 (by rw [Ye hV]; decide); obtain ⟨h4, h0⟩ := h p m v hF (by omega); refine Jbg ?_; rw [hF.ord]; have hq : 2 <= p ^ m := hF.ring.q2; have hq2 := hF.q; obtain ⟨n, rfl⟩ := Int.eq_ofNat_of_zero_le (show 0 <= r by omega); rw [Int.toNat_natCast] at h0 h4; generalize p ^ m = q at *
 refine ⟨fun a b t => ∃ i : Nat, t = i /\ i <= n /\ a = ((cnt q i : Nat) : Int) /\ b = ((q ^ i : Nat) : Int) /\ cnt q i <= 64, fun _ _ t => (n - t).toNat, ⟨0, rfl, Nat.zero_le _, rfl, by simp, by simp [cnt]⟩, ?_⟩; rintro _ _ _ ⟨i, rfl, hi, rfl, rfl, hc⟩; dsimp only; have hb : ∀ j, cnt q j <= 64 -> q ^ j <= 64 * 256 := by
  intro j hj; cases j with
  | zero => simp
  | succ j =>
   rw [Jab] at hj; rw [Nat.pow_succ]; exact Nat.mul_le_mul (by omega) hq2
 have hbi := hb i hc; have hsi : q ^ i * q <= 64 * 256 * 256 := Nat.mul_le_mul hbi hq2; have hin := ZP (show 1 <= q by omega) i; have hcs := Jab q i; have e : ((q ^ i : Nat) : Int) * (q : Int) = ((q ^ i * q : Nat) : Int) := by push_cast; rfl
 refine ⟨fun hlt => ⟨Ju (by omega) (by omega), fun hgt => h4 fun hle => ?_, fun hle => ?_⟩, fun hge => ?_⟩
 .have := Jby q (show i + 1 <= n by omega); omega
 .rw [e]; refine ⟨Ze (by omega), Ju (by omega) (by omega), ⟨i + 1, by push_cast; rfl, by omega, by rw [hcs]; push_cast; rfl, by rw [Nat.pow_succ], by omega⟩, by omega⟩
 obtain rfl : i = n := by omega
 have h0 := h0 hc; have hp : 1 <= q ^ i := Nat.pos_of_ne_zero (fun e => by have := Nat.pow_eq_zero.1 e; omega); refine ⟨fun x z => ∃ k : Nat, z = ((1 + k : Nat) : Int) /\ 1 + k <= q ^ i /\ x = ((List.range' 1 k).filter (isP q i)).map (cdg q i), fun _ z => ((q ^ i : Nat) - z).toNat, ⟨0, rfl, by omega, by simp⟩, ?_⟩; rintro _ _ ⟨k, rfl, hk, rfl⟩; dsimp only; refine ⟨fun hlt => ?_, fun hge => ?_⟩
 .have hk2 : 1 + k < q ^ i := by omega
  have hfl : ((List.range' 1 k).filter (isP q i)).length <= k := by
   have := List.length_filter_le (isP q i) (List.range' 1 k); rw [List.length_range'] at this; exact this
  have hsucc : ((List.range' 1 (k + 1)).filter (isP q i)).map (cdg q i) = ((List.range' 1 k).filter (isP q i)).map (cdg q i) ++ (if isP q i (1 + k) = true then [cdg q i (1 + k)] else []) := by
   rw [List.range'_1_concat, List.filter_append, List.map_append]
   congr 1
   by_cases e1 : isP q i (1 + k) = true
   .rw [if_pos e1, List.filter_cons_of_pos e1]; rfl
   .rw [if_neg e1, List.filter_cons_of_neg e1]; rfl
  refine ⟨fun x _ _ _ _ _ _ _ => x = ((List.range' 1 (k + 1)).filter (isP q i)).map (cdg q i), ⟨⟨by omega, by omega, by omega⟩, Ju (by omega) (by omega), fun l z t => dgI q i (1 + k) l z t, fun _ _ t => (t + 1).toNat, by rw [Int.toNat_natCast]; exact dgI_0 q i (1 + k), ?_⟩, ?_⟩
  .intro l z t hI; refine ⟨fun ht => ?_, fun ht => ?_⟩
   .obtain ⟨g1, g2, g3, g4⟩ := Ji5 hq hq2 (by omega) (by omega) hI ht; exact ⟨by omega, by rw [Int.toNat_natCast]; exact g1, ⟨by omega, g2⟩, g3, g4, by dsimp only; omega⟩
   obtain rfl := Jni hI ht; refine ⟨Ju (by omega) (by omega), fun a t => ∃ j : Nat, t = (j : Int) - 1 /\ j <= i /\ ∀ c, j <= c -> c < i -> (∀ c', j <= c' -> c' < c -> vo (cdg q i (1 + k)) c' = 0) -> vo (cdg q i (1 + k)) c ≠ 0 -> a = vo (cdg q i (1 + k)) c, fun _ t => (t + 1).toNat, ⟨i, rfl, Nat.le_refl _, fun c c1 c2 => by omega⟩, ?_⟩; rintro a _ ⟨j, rfl, hj, ha⟩; dsimp only; refine ⟨fun ht => ?_, fun ht => ?_⟩
   .have e1 : (j : Int) - 1 = ((j - 1 : Nat) : Int) := by omega
    have hgi : gi (cdg q i (1 + k)) ((j : Int) - 1) = vo (cdg q i (1 + k)) (j - 1) := by rw [e1]; rfl
    rw [hgi]; refine ⟨fun y => y = if vo (cdg q i (1 + k)) (j - 1) ≠ 0 then vo (cdg q i (1 + k)) (j - 1) else a, ⟨⟨by omega, by omega⟩, fun hne => ⟨⟨by omega, by omega⟩, (if_pos hne).symm⟩, fun he => (if_neg he).symm⟩, ?_⟩; rintro _ rfl; refine ⟨Ju (by omega) (by omega), ⟨j - 1, by omega, by omega, fun c c1 c2 c3 c4 => ?_⟩, by omega⟩; rcases Nat.eq_or_lt_of_le c1 with c5 | c5
    .subst c5; rw [if_pos c4]
    .have h0 := c3 (j - 1) (Nat.le_refl _) c5; rw [if_neg (fun hh => hh h0)]; exact ha c (by omega) c2 (fun c' d1 d2 => c3 c' (by omega) d2) c4
   obtain rfl : j = 0 := by omega
   have hl := Jna hq (show 1 <= 1 + k by omega) hk2 (z := a) fun c c1 c2 c3 => ha c (Nat.zero_le _) c1 (fun c' _ d2 => c2 c' d2) c3; refine ⟨fun h1 => ⟨by rw [List.length_map]; omega, ?_⟩, fun h1 => ?_⟩
   .rw [hsucc, if_pos (hl.1 h1)]
   .rw [hsucc, if_neg (fun hh => h1 (hl.2 hh)), List.append_nil]
  .rintro _ _ _ _ _ _ _ _ rfl; exact ⟨Ju (by omega) (by omega), ⟨k + 1, by push_cast; omega, by omega, rfl⟩, by omega⟩
 .obtain rfl : k = q ^ i - 1 := by omega
  rw [ZM hq i (Nat.le_refl _)]; exact h0
end
end Go.Proofs.Ytjgpkljepgcekaa
namespace Go.Proofs.Ytjgpkljepgcekaa
/-! ### repetition and parity codes -/
section
variable {P M : Int} {mf : LI} {p m v : Nat} {N C n : Int} {X Y : LL}
theorem sg_can (hF : FV P M mf p m v) (hs : shp C X) (he : Els p m X) : ∃ q, Sg P M mf p m v C (J2 p m v C X) q :=
 ⟨_, hF, Jbz hs, Jep hF he, Jsc hF hs he⟩
end
end Go.Proofs.Ytjgpkljepgcekaa
namespace Go.Proofs.Ytjgpkljepgcekaa
/-! ### Hamming and simplex codes -/
section
variable {P M : Int} {mf : LI} {p m v : Nat} {N C r : Int} {X Y : LL}
/-- a column -/
def cl (A : LL) (c k : Nat) : LI := (List.range k).map fun t => vo (row A t) c
theorem cl_len (A : LL) (c k : Nat) : (cl A c k).length = k := by simp [cl]
theorem Ju2 (A : LL) (c k : Nat) : cl A c (k + 1) = cl A c k ++ [vo (row A k) c] := by simp [cl, List.range_succ]
theorem vo_cl {A : LL} {c k t : Nat} (h : t < k) : vo (cl A c k) t = vo (row A t) c := by
 unfold cl; conv => lhs; unfold vo
 rw [List.getD_eq_getElem?_getD, List.getElem?_map, List.getElem?_range h]; rfl
/-- the generating rows of a simplex code -/
def smx (q r : Nat) : LL := tr r (pts q r)
theorem Jbj (q r : Nat) : (smx q r).length = r := tr_len _ _
theorem Jc9 {q r : Nat} (hr : r <= 64) (hc : cnt q r <= 64) : shp ((cnt q r : Nat) : Int) (smx q r) :=
 Jqu ⟨by omega, by omega⟩ (by rw [Jbj]; omega) fun t ht => by rw [Jbj] at ht; rw [smx, Jkg ht, Jdb, Int.toNat_natCast]
theorem Jmt {q r t : Nat} (h : t < (pnl q r).length) : row (pts q r) t = cdg q r ((pnl q r).getD t 0) := by
 unfold row pts; rw [List.getD_eq_getElem?_getD, List.getElem?_map, List.getElem?_eq_getElem h, List.getD_eq_getElem?_getD, List.getElem?_eq_getElem h]; rfl
theorem vo_smx {q r i t : Nat} (hi : i < r) (ht : t < cnt q r) : vo (row (smx q r) i) t = (((pnl q r).getD t 0 / q ^ (r - 1 - i) % q : Nat) : Int) := by
 have h1 : t < (pnl q r).length := by rw [Zi]; exact ht
 rw [smx, Jkn hi]; have := vo_cl (A := pts q r) (c := i) (k := (pts q r).length) (t := t) (by rw [Jdb]; exact ht); unfold cl at this; rw [this, Jmt h1, Jce hi]
theorem Jgb (hF : FV P M mf p m v) (r : Nat) : Els p m (smx (p ^ m) r) := by
 have q2 : 2 <= p ^ m := hF.ring.q2; refine fun l hl x hx => ?_; simp only [smx, tr, List.mem_map, List.mem_range] at hl; obtain ⟨c, hc, rfl⟩ := hl; simp only [List.mem_map, List.mem_range] at hx; obtain ⟨t, ht, rfl⟩ := hx; rw [Jdb, <- Zi] at ht; rw [Jmt ht, Jce hc]; have := Nat.mod_lt ((pnl (p ^ m) r).getD t 0 / (p ^ m) ^ (r - 1 - c)) (show 0 < p ^ m by omega); exact ⟨Int.natCast_nonneg _, Int.ofNat_lt.2 this⟩
end
end Go.Proofs.Ytjgpkljepgcekaa
namespace Go.Proofs.Ytjgpkljepgcekaa
section
variable {P M : Int} {mf : LI} {p m v : Nat} {N C r : Int} {X Y : LL}
/-- rows of which the first i are whole, and the next one is so up to k -/
def smI (A : LL) (n i k : Nat) (x : LL) : Prop := x.length = n /\ (∀ t, t < i -> row x t = cl A t A.length) /\ (i < n -> row x i = cl A i k) /\ ∀ t, i < t -> t < n -> row x t = []
theorem Jge {ls : LL} {i t : Nat} {l : LI} : row (sll ls (i : Int) l) t = if i = t /\ i < ls.length then l else row ls t := QI ls i t l
theorem Joc {Q : Int × Int × LI × Int × LL × Int -> Prop} (h1 : ¬ QB P M mf -> Q (0, 0, [], 0, [], 1)) (h6 : QB P M mf -> r < 1 -> Q (0, 0, [], 0, [], 6))
  (h : ∀ p m v, FV P M mf p m v -> 1 <= r -> (¬ cnt (p ^ m) r.toNat <= 64 -> Q (0, 0, [], 0, [], 4)) /\ (cnt (p ^ m) r.toNat <= 64 -> Q (P, M, mf, ((cnt (p ^ m) r.toNat : Nat) : Int), J2 p m v ((cnt (p ^ m) r.toNat : Nat) : Int) (smx (p ^ m) r.toNat), 0))) : Jak P M mf r Q := by
 refine Jp7 (fun hn => ⟨fun _ => h1 hn, fun hh => absurd (by decide) hh⟩) (fun hV hr => ⟨fun _ => h6 hV hr, fun hh => absurd (by decide) hh⟩) fun p m v hF hr => ⟨fun hc => ⟨fun _ => (h p m v hF hr).1 hc, fun hh => absurd (by decide) hh⟩, fun hc => ⟨fun hh => absurd rfl hh, fun _ => ?_⟩⟩
 have h := (h p m v hF hr).2 hc; have hq : 2 <= p ^ m := hF.ring.q2; have hq2 := hF.q; obtain ⟨n, rfl⟩ := Int.eq_ofNat_of_zero_le (show 0 <= r by omega); rw [Int.toNat_natCast] at *
 have hn : n <= 64 := Nat.le_trans (ZP (by omega) n) hc; have hpl := Jdb (p ^ m) n; have hrl : ∀ t, t < (pts (p ^ m) n).length -> (row (pts (p ^ m) n) t).length = n := fun t ht => Jh5 ht; have hfin : ∀ x, smI (pts (p ^ m) n) n n 0 x -> x = smx (p ^ m) n := fun x hx => by
  refine Yw (by rw [hx.1, Jbj]) fun i hi => ?_; rw [hx.1] at hi; rw [hx.2.1 i hi, smx, Jkn hi]; rfl
 have hNew : Je1 P M mf (((pts (p ^ m) n).length : Nat) : Int) (smx (p ^ m) n) Q := by
  rw [hpl]; have hs := Jc9 (q := p ^ m) hn hc; have he := Jgb hF n; refine w_cNew (fun hh => ?_) fun p' m' v' hF' _ _ _ => ?_
  .have := ZP (show 1 <= p ^ m by omega) n; unfold nck at hh; rw [Jcn ⟨p, m, v, hF⟩ hs ((Q8 hF).2 he), if_neg (fun h => h rfl), if_pos (by omega)] at hh; exact absurd rfl hh
  .obtain ⟨rfl, rfl, rfl⟩ := hF.uniq3 hF'; exact h
 clear h; generalize hA : pts (p ^ m) n = A at *
 refine ⟨⟨by omega, by omega, by omega⟩, fun x z => ∃ i : Nat, z = i /\ i <= n /\ smI A n i 0 x, fun _ z => (n - z).toNat, ⟨0, rfl, Nat.zero_le _, by simp, fun t ht => absurd ht (Nat.not_lt_zero _), fun h0 => ?_, fun t _ ht => ?_⟩, ?_⟩
 .unfold row; rw [List.getD_eq_getElem?_getD, List.getElem?_replicate]; simp [h0, cl]
 .unfold row; rw [List.getD_eq_getElem?_getD, List.getElem?_replicate]; simp [ht]
 rintro x _ ⟨i, rfl, hi, hx⟩; dsimp only; refine ⟨fun hlt => ?_, fun hge => ?_⟩
 .have hin : i < n := by omega
  refine ⟨fun y z => ∃ k : Nat, z = k /\ k <= A.length /\ smI A n i k y, fun _ z => (A.length - z).toNat, ⟨0, rfl, Nat.zero_le _, hx⟩, ?_⟩; rintro y _ ⟨k, rfl, hk, hy⟩; dsimp only; refine ⟨fun hlt2 => ?_, fun hge2 => ?_⟩
  .have hgk : gl A (k : Int) = row A k := rfl; have hgi : gl y (i : Int) = cl A i k := hy.2.2.1 hin; have hrk := hrl k (by omega); rw [hgk, hgi]; refine ⟨fun z => smI A n i (k + 1) z, ⟨⟨by omega, by omega⟩, ⟨by omega, by omega⟩, ⟨by omega, by rw [hrk]; omega⟩, by rw [cl_len]; omega, ⟨by omega, by omega⟩, ?_, fun t ht => ?_, fun _ => ?_, fun t h3 h4 => ?_⟩, fun z hz => ⟨Ju (by omega) (by omega), ⟨k + 1, by push_cast; rfl, by omega, hz⟩, by omega⟩⟩
   .show (y.set _ _).length = n; rw [List.length_set]; exact hy.1
   .rw [Jge, if_neg (fun hh => by omega)]; exact hy.2.1 t ht
   .rw [Jge, if_pos ⟨rfl, by rw [hy.1]; exact hin⟩, Ju2]; rfl
   .rw [Jge, if_neg (fun hh => by omega)]; exact hy.2.2.2 t h3 h4
  .obtain rfl : k = A.length := by omega
   refine ⟨Ju (by omega) (by omega), ⟨i + 1, by push_cast; rfl, by omega, hy.1, fun t ht => ?_, fun h4 => ?_, fun t h3 h4 => hy.2.2.2 t (by omega) h4⟩, by omega⟩
   .rcases Nat.lt_or_ge t i with h5 | h5
    .exact hy.2.1 t h5
    .obtain rfl : t = i := by omega
     exact hy.2.2.1 hin
   .rw [hy.2.2.2 (i + 1) (by omega) h4]; rfl
 .obtain rfl : i = n := by omega
  rw [hfin x hx]; exact hNew
/-- the Hamming code of a simplex code -/
def hmg (p m v n : Nat) : LL := nul p m v ((cnt (p ^ m) n : Nat) : Int) (J2 p m v ((cnt (p ^ m) n : Nat) : Int) (smx (p ^ m) n))
theorem Jnj {q n : Nat} (hn : 1 <= n) : 1 <= cnt q n := by
 cases n with
 | zero => omega
 | succ n => show 1 <= cnt q n * q + 1; omega
theorem Jod {Q : Int × Int × LI × Int × LL × Int -> Prop} (h1 : ¬ QB P M mf -> Q (0, 0, [], 0, [], 1)) (h6 : QB P M mf -> r < 1 -> Q (0, 0, [], 0, [], 6))
  (h : ∀ p m v, FV P M mf p m v -> 1 <= r -> (¬ cnt (p ^ m) r.toNat <= 64 -> Q (0, 0, [], 0, [], 4)) /\ (cnt (p ^ m) r.toNat <= 64 -> Q (P, M, mf, ((cnt (p ^ m) r.toNat : Nat) : Int), hmg p m v r.toNat, 0))) : Jam P M mf r Q := by
 refine Joc (fun hn => ⟨fun _ => h1 hn, fun hh => absurd (by decide) hh⟩) (fun hV hr => ⟨fun _ => h6 hV hr, fun hh => absurd (by decide) hh⟩) fun p m v hF hr => ⟨fun hc => ⟨fun _ => (h p m v hF hr).1 hc, fun hh => absurd (by decide) hh⟩, fun hc => ⟨fun hh => absurd rfl hh, fun _ => ?_⟩⟩
 have hn : r.toNat <= 64 := Nat.le_trans (ZP (by have := hF.ring.q2; omega) _) hc; have hp := Jnj (q := p ^ m) (show 1 <= r.toNat by omega); obtain ⟨q, G⟩ := sg_can hF (Jc9 (q := p ^ m) hn hc) (Jgb hF r.toNat); exact Jtq G (by omega) ((h p m v hF hr).2 hc)
end
end Go.Proofs.Ytjgpkljepgcekaa
namespace Go.Proofs.Ytjgpkljepgcekaa
/-! ### every vector other than zero is one multiple of one point -/
section
variable {q r n : Nat} {A M : Nat -> Nat -> Nat}
def dg (q r x t : Nat) : Nat := x / q ^ (r - 1 - t) % q
theorem dg_ex (hq : 2 <= q) (w : Nat -> Nat) : ∀ r, (∀ t, t < r -> w t < q) -> ∃ x, x < q ^ r /\ ∀ t, t < r -> dg q r x t = w t
 | 0, _ => ⟨0, by simp, fun t h => absurd h (Nat.not_lt_zero _)⟩
 | r + 1, h => by
  obtain ⟨x, hx, he⟩ := dg_ex hq w r fun t ht => h t (by omega); have hr := h r (by omega); refine ⟨x * q + w r, ?_, fun t ht => ?_⟩
  .rw [Nat.pow_succ]; have : (x + 1) * q <= q ^ r * q := Nat.mul_le_mul_right q hx; rw [Nat.succ_mul] at this; omega
  .unfold dg; rcases Nat.lt_or_ge t r with h2 | h2
   .have e : r + 1 - 1 - t = (r - 1 - t) + 1 := by omega
    rw [e, Nat.pow_succ, Nat.mul_comm (q ^ (r - 1 - t)) q, <- Nat.div_div_eq_div_mul]; have : (x * q + w r) / q = x := by
     rw [Nat.mul_comm, Nat.mul_add_div (by omega), Nat.div_eq_of_lt hr, Nat.add_zero]
    rw [this]; exact he t h2
   .obtain rfl : t = r := by omega
    rw [show t + 1 - 1 - t = 0 by omega, Nat.pow_zero, Nat.div_one, Nat.mul_comm, Nat.mul_add_mod, Nat.mod_eq_of_lt hr]
theorem Jr7 (hq : 2 <= q) : ∀ r x x', x < q ^ r -> x' < q ^ r -> (∀ t, t < r -> dg q r x t = dg q r x' t) -> x = x'
 | 0, x, x', h, h', _ => by simp at h h'; omega
 | r + 1, x, x', h, h', he => by
  have e1 : x / q = x' / q := Jr7 hq r _ _ (by rw [Nat.pow_succ, Nat.mul_comm] at h; exact Nat.div_lt_of_lt_mul h) (by rw [Nat.pow_succ, Nat.mul_comm] at h'; exact Nat.div_lt_of_lt_mul h') fun t ht => by
   have := he t (by omega); unfold dg at this ⊢; rw [show r + 1 - 1 - t = (r - 1 - t) + 1 by omega, Nat.pow_succ, Nat.mul_comm (q ^ (r - 1 - t)) q, <- Nat.div_div_eq_div_mul, <- Nat.div_div_eq_div_mul] at this; exact this
  have e2 := he r (by omega); unfold dg at e2; rw [show r + 1 - 1 - r = 0 by omega, Nat.pow_zero, Nat.div_one, Nat.div_one] at e2; rw [<- Nat.div_add_mod x q, <- Nat.div_add_mod x' q, e1, e2]
theorem Jr9 {x t : Nat} (h : t < r) : vo (cdg q r x) t = (dg q r x t : Nat) := Jce h
theorem Jib (hq : 2 <= q) {x : Nat} (h : x ∈ pnl q r) : x < q ^ r /\ ∃ k, k < r /\ dg q r x k = 1 /\ ∀ k', k' < k -> dg q r x k' = 0 := by
 rw [<- ZM hq r (Nat.le_refl _)] at h; obtain ⟨h1, h2⟩ := List.mem_filter.1 h; have h3 := List.mem_range'_1.1 h1; obtain ⟨i, hi, ha, hb⟩ := of_decide_eq_true h2; have hp : ∀ k, 1 <= q ^ k := fun k => Nat.pos_of_ne_zero (fun e => by have := Nat.pow_eq_zero.1 e; omega); have hp' := hp r; refine ⟨by omega, r - 1 - i, by omega, ?_, fun k' hk' => ?_⟩
 .unfold dg; rw [show r - 1 - (r - 1 - i) = i by omega]; have : x / q ^ i = 1 := by
   rw [Nat.div_eq_iff (hp i)]; have := hp i; omega
  rw [this, Nat.mod_eq_of_lt (by omega)]
 .unfold dg; have h5 : q ^ (i + 1) <= q ^ (r - 1 - k') := Nat.pow_le_pow_right (by omega) (by omega); have h6 : q ^ i * 2 <= q ^ (i + 1) := by rw [Nat.pow_succ]; exact Nat.mul_le_mul_left _ hq
  rw [Nat.div_eq_of_lt (by omega)]; exact Nat.zero_mod _
theorem pnl_of (hq : 2 <= q) {x k : Nat} (hx : x < q ^ r) (hk : k < r) (h1 : dg q r x k = 1) (h0 : ∀ k', k' < k -> dg q r x k' = 0) : x ∈ pnl q r := by
 have hp : ∀ k, 1 <= q ^ k := fun k => Nat.pos_of_ne_zero (fun e => by have := Nat.pow_eq_zero.1 e; omega); have x1 : 1 <= x := by
  rcases Nat.eq_zero_or_pos x with e | e
  .subst e; unfold dg at h1; rw [Nat.zero_div, Nat.zero_mod] at h1; omega
  .exact e
 have := (Jna hq x1 hx (z := 1) fun k2 hk2 hz hne => by
  rw [Jr9 hk2] at hne ⊢; rcases Nat.lt_trichotomy k2 k with h | h | h
  .exact absurd (by rw [h0 k2 h]; rfl) hne
  .subst h; rw [h1]; rfl
  .have := hz k h; rw [Jr9 hk, h1] at this; exact absurd this (by decide)).1 rfl
 rw [<- ZM hq r (Nat.le_refl _)]; exact List.mem_filter.2 ⟨List.mem_range'_1.2 ⟨x1, by have := hp r; omega⟩, this⟩
theorem Jub (hq : 2 <= q) {i j : Nat} (hi : i < (pnl q r).length) (hj : j < (pnl q r).length) (h : (pnl q r).getD i 0 = (pnl q r).getD j 0) : i = j := by
 have hp : (pnl q r).Pairwise (· < ·) := by
  rw [<- ZM hq r (Nat.le_refl _)]; exact List.Pairwise.filter _ (List.pairwise_lt_range' ..)
 rw [List.pairwise_iff_getElem] at hp; rw [List.getD_eq_getElem?_getD, List.getD_eq_getElem?_getD, List.getElem?_eq_getElem hi, List.getElem?_eq_getElem hj] at h; have h : (pnl q r)[i] = (pnl q r)[j] := h; rcases Nat.lt_trichotomy i j with e | e | e
 .have := hp i j hi hj e; omega
 .exact e
 .have := hp j i hj hi e; omega
theorem Jix (u : Nat -> Nat) : ∀ r, (∃ t, t < r /\ u t ≠ 0) -> ∃ k, k < r /\ u k ≠ 0 /\ ∀ k', k' < k -> u k' = 0
 | 0, ⟨t, h, _⟩ => absurd h (Nat.not_lt_zero _)
 | r + 1, ⟨t, h, hn⟩ => by
  by_cases e : ∃ t, t < r /\ u t ≠ 0
  .obtain ⟨k, a, b, c⟩ := Jix u r e; exact ⟨k, by omega, b, c⟩
  .have h0 : ∀ k, k < r -> u k = 0 := fun k hk => Classical.byContradiction fun hh => e ⟨k, hk, hh⟩; obtain rfl : t = r := Classical.byContradiction fun hh => hn (h0 t (by omega)); exact ⟨t, by omega, hn, h0⟩
/-- the places of a point -/
def pt (q r j t : Nat) : Nat := dg q r ((pnl q r).getD j 0) t
theorem pt_lt (hq : 2 <= q) (j t : Nat) : pt q r j t < q := Nat.mod_lt _ (by omega)
theorem Jq8 (R : CR q A M) (hi : ∀ x, x < q -> x ≠ 0 -> ∃ y, y < q /\ M x y = 1) (u : Nat -> Nat) (hu : ∀ t, u t < q) (h : ∃ t, t < r /\ u t ≠ 0) :
  ∃ J D, J < (pnl q r).length /\ D < q /\ D ≠ 0 /\ ∀ j d, j < (pnl q r).length -> d < q -> d ≠ 0 -> ((∀ t, t < r -> M d (pt q r j t) = u t) ↔ j = J /\ d = D) := by
 have hq := R.q2; obtain ⟨k, hk, hn, hl⟩ := Jix u r h; obtain ⟨c, hc, hic⟩ := hi (u k) (hu k) hn; obtain ⟨x, hx, hw⟩ := dg_ex hq (fun t => M (u t) c) r fun t _ => R.Ml _ _; have hzero : M 0 c = 0 := by rw [R.Mc (by omega) hc, R.M0 hc]
 have hxm : x ∈ pnl q r := pnl_of hq hx hk (by rw [hw k hk]; exact hic) fun k' hk' => by rw [hw k' (by omega)]; show M (u k') c = 0; rw [hl k' hk']; exact hzero
 obtain ⟨J, hJ, e⟩ := List.mem_iff_getElem.1 hxm; have eJ : (pnl q r).getD J 0 = x := by rw [List.getD_eq_getElem?_getD, List.getElem?_eq_getElem hJ]; exact e
 refine ⟨J, u k, hJ, hu k, hn, fun j d hj hd hd0 => ⟨fun hh => ?_, ?_⟩⟩
 .have hmem : (pnl q r).getD j 0 ∈ pnl q r := by
   rw [List.getD_eq_getElem?_getD, List.getElem?_eq_getElem hj]; exact List.getElem_mem hj
  obtain ⟨hxj, k2, hk2, o1, o0⟩ := Jib hq hmem; have e1 : d = u k2 := by
   have := hh k2 hk2; rw [show pt q r j k2 = 1 from o1, R.M1 hd] at this; exact this
  have e0 : ∀ k', k' < k2 -> u k' = 0 := fun k' hk' => by
   have := hh k' (by omega); rw [show pt q r j k' = 0 from o0 k' hk', R.M0 hd] at this; exact this.symm
  have ek : k2 = k := by
   rcases Nat.lt_trichotomy k2 k with h3 | h3 | h3
   .exact absurd (e1.trans (hl k2 h3)) hd0
   .exact h3
   .exact absurd (e0 k h3) hn
  subst ek; refine ⟨Jub hq hj hJ ?_, e1⟩; rw [eJ]; refine Jr7 hq r _ _ hxj hx fun t ht => ?_; rw [hw t ht]; have h4 := hh t ht; have hpl := pt_lt (r := r) hq j t; show pt q r j t = M (u t) c; rw [<- h4, e1, R.Mc (R.Ml _ _) hc, <- R.Ma hc (hu _) hpl, R.Mc hc (hu _), hic, R.Mc (by omega) hpl, R.M1 hpl]
 .rintro ⟨rfl, rfl⟩ t ht; have : pt q r j t = M (u t) c := by show dg q r ((pnl q r).getD j 0) t = _; rw [eJ, hw t ht]
  rw [this, R.Mc (hu _) hc, <- R.Ma (hu _) hc (hu _), hic, R.Mc (by omega) (hu _), R.M1 (hu _)]
end
end Go.Proofs.Ytjgpkljepgcekaa
namespace Go.Proofs.Ytjgpkljepgcekaa
/-! ### Hamming codes are perfect -/
section
variable {P M : Int} {mf : LI} {p m v n : Nat} {N C r : Int} {X Y : LL} {y u : LI}
theorem w_cHas {q : Nat -> Nat} {y : LI} {Q : Bool × Int -> Prop} (G : Sg P M mf p m v N X q) (h1 : 1 <= N /\ N <= 64) (hy : y.length = N.toNat) (he : Elr p m y) (ht : zr (rsd p m v q X y X.length) -> Q (true, 0)) (hf : ¬ zr (rsd p m v q X y X.length) -> Q (false, 0)) : Jba P M mf N X y Q := by
 unfold Jba YT; refine Jhr ?_; rw [Jsa G h1.1 h1.2]; refine ⟨fun hh => absurd rfl hh, fun _ => ⟨fun hh => absurd (by omega) hh, fun _ => Jdp ?_⟩⟩; rw [Jcn ⟨p, m, v, G.f⟩ (Jm0 (by omega) (by omega)) ((Q8 G.f).2 (Jdd.2 he))]; refine ⟨fun hh => absurd rfl hh, fun _ => ?_⟩; by_cases hz : zr (rsd p m v q X y X.length)
 .exact ⟨true, 0, w_Has G hy he (fun _ => rfl) (fun hh => absurd hz hh), ht hz⟩
 .exact ⟨false, 0, w_Has G hy he (fun hh => absurd hh hz) (fun _ => rfl), hf hz⟩
theorem zr_sp {q : Nat -> Nat} {y : LI} (G : Sg P M mf p m v N X q) (hy : y.length = N.toNat) (he : Elr p m y) : zr (rsd p m v q X y X.length) ↔ Sp p m v N.toNat X y := by
 rw [sp_rsd G.f G.s G.e G.q hy he]; unfold zr; rw [Zf, hy]
/-- the check of a word by the row t of the points -/
def syn (p m v n : Nat) (u : LI) (t : Nat) : Nat := dt p m v (cnt (p ^ m) n) (en p m u) (en p m (row (smx (p ^ m) n) t))
theorem Jki (hF : FV P M mf p m v) (u : LI) (t : Nat) : syn p m v n u t < p ^ m := YZ hF _ _
theorem hmg_in (hF : FV P M mf p m v) (hn : n <= 64) (hc : cnt (p ^ m) n <= 64) (hu : u.length = cnt (p ^ m) n) (hue : Elr p m u) :
  Sp p m v (cnt (p ^ m) n) (hmg p m v n) u ↔ ∀ t, t < n -> syn p m v n u t = 0 := by
 have hs := Jc9 (q := p ^ m) hn hc; have he := Jgb hF n; have hK := Jbz (p := p) (m := m) (v := v) hs; have eK := Jep (C := ((cnt (p ^ m) n : Nat) : Int)) hF he; constructor
 .intro h t ht; unfold syn; rw [YN hF (JV hF _) (JV hF _)]; refine h _ (ZN hF (JV hF _)) fun s hs' => ?_; have h1 : Ann p m (dt p m v (cnt (p ^ m) n) (en p m (row (hmg p m v n) s))) (J2 p m v ((cnt (p ^ m) n : Nat) : Int) (smx (p ^ m) n)) := fun t' ht' => by
   rw [YN hF (JV hF _) (JV hF _)]; exact Jjm hF hK eK ht' s hs'
  have h2 := (Zs hF hs he (ZN hF (JV hF _))).1 h1 t (by rw [Jbj]; exact ht); rw [YN hF (JV hF _) (JV hF _)]; exact h2
 .intro h f L hf; have hB := Y6 (p := p) (m := m) (v := v) hK; have hA : Ann p m (dt p m v (cnt (p ^ m) n) (en p m u)) (smx (p ^ m) n) := fun t ht => h t (by rw [Jbj] at ht; exact ht); have hA2 := (Zs hF hs he (ZN hF (JV hF _))).2 hA; exact Joy hF hK eK hu hue hA2 f L ((Zs hF hB (ZS hF) L).1 hf)
theorem Jmp (hF : FV P M mf p m v) {j z k : Nat} {t : Nat} (ht : t < n) (hj : j < cnt (p ^ m) n) (hu : u.length = cnt (p ^ m) n) (hz : z < p ^ m) (hk : k < p ^ m) (hk0 : JI p m (inE (p ^ m) (vo u j)) k = 0) :
  syn p m v n (u.set j (z : Int)) t = JI p m (syn p m v n u t) (Jr p m (dv p v) (JI p m z k) (pt (p ^ m) n j t)) := by
 have R := hF.ring; have hq := R.q2; unfold syn; rw [YN hF (u := en p m (u.set j (z : Int))) (JV hF _) (JV hF _), YN hF (u := en p m u) (JV hF _) (JV hF _)]; have L := ZN hF (w := cnt (p ^ m) n) (JV hF (row (smx (p ^ m) n) t)); have hunit : ∀ c, (if c = j then 1 else 0) < p ^ m := fun c => by split <;> omega
 have e := L.ad (a := en p m u) (b := fun c => if c = j then 1 else 0) (x := JI p m z k) (JV hF _) hunit (R.Al _ _); have e2 : dt p m v (cnt (p ^ m) n) (en p m (row (smx (p ^ m) n) t)) (fun c => if c = j then 1 else 0) = pt (p ^ m) n j t := by
  rw [YN hF (JV hF _) hunit, at_eq hF hj]; unfold en; rw [vo_smx ht hj]; exact J3 (pt_lt (r := n) hq j t)
 rw [e2] at e; rw [<- e]; refine L.cg fun c hc => ?_; by_cases h : c = j
 .subst h; rw [if_pos rfl, R.M1 (R.Al _ _)]; unfold en; rw [Qd, if_pos ⟨rfl, by omega⟩, J3 hz, R.Ac z k, <- R.Aa (JS (by omega) _) hk hz, hk0, R.Ac, R.Az hz]
 .rw [if_neg h, R.M0 (R.Al _ _), R.Az (JV hF _ _)]; unfold en; rw [Qd, if_neg (fun hh => h hh.1.symm)]
theorem Jis {q : Nat} {A M : Nat -> Nat -> Nat} (R : CR q A M) {x k k' : Nat} (hx : x < q) (hk : k < q) (hk' : k' < q) (h : A x k = 0) (h' : A x k' = 0) : k = k' := by
 have e : A k (A x k') = A (A k x) k' := (R.Aa hk hx hk').symm; rw [h', R.Az hk, R.Ac k x, h, R.Ac 0 k', R.Az hk'] at e; exact e
/-- how often a code word comes up among the words beside y: a count that ends at one -/
theorem Jo4 (hF : FV P M mf p m v) (hn : n <= 64) (hc : cnt (p ^ m) n <= 64) (hy : y.length = cnt (p ^ m) n) (hye : Elr p m y) (In : LI -> Prop)
    (hIn : ∀ u, u.length = cnt (p ^ m) n -> Elr p m u -> (In u ↔ ∀ t, t < n -> syn p m v n u t = 0)) :
    ∃ W : Nat -> Nat -> Nat, (∀ i k, W i k <= 1) /\ (In y -> W 0 0 = 1) /\ (¬ In y -> W 0 0 = 0) /\ (∀ i, W (i + 1) 0 = W i (p ^ m)) /\ W (cnt (p ^ m) n) 0 = 1 /\
      ∀ i k, i < cnt (p ^ m) n -> k < p ^ m -> ((k : Int) = vo y i -> W i (k + 1) = W i k) /\ ((k : Int) ≠ vo y i -> (In (y.set i (k : Int)) -> W i (k + 1) = W i k + 1) /\ (¬ In (y.set i (k : Int)) -> W i (k + 1) = W i k)) := by
  have R := hF.ring
  have hq := R.q2
  obtain ⟨g, K⟩ := hF.gen
  have hi : ∀ x, x < p ^ m -> x ≠ 0 -> ∃ y, y < p ^ m /\ Jr p m (dv p v) x y = 1 := fun x hx h0 => by
    have := Jrl (v := v) K hF (x := (x : Int)) (by omega) ⟨by omega, by omega⟩
    rw [J3 hx] at this
    exact ⟨_, JS (by omega) _, this.2⟩
  -- the word beside y at a place
  have hel : ∀ i (k : Nat), k < p ^ m -> Elr p m (y.set i (k : Int)) := fun i k hk x hx => by
    rcases List.mem_or_eq_of_mem_set hx with h | h
    . exact hye x h
    . rw [h]; exact ⟨by omega, by omega⟩
  have hset : ∀ i (k : Nat), i < cnt (p ^ m) n -> k < p ^ m -> ∃ d, d < p ^ m /\ ((k : Int) ≠ vo y i ↔ d ≠ 0) /\ (∀ k' d', k' < p ^ m -> d' < p ^ m -> True -> True) /\ (In (y.set i (k : Int)) ↔ ∀ t, t < n -> JI p m (syn p m v n y t) (Jr p m (dv p v) d (pt (p ^ m) n i t)) = 0) /\ ∃ z, z < p ^ m /\ JI p m (inE (p ^ m) (vo y i)) z = 0 /\ d = JI p m k z := fun i k hik hk => by
    have hyi : inE (p ^ m) (vo y i) < p ^ m := JS (by omega) _
    obtain ⟨z, hz, hz0⟩ := R.An hyi
    have hyv : ((inE (p ^ m) (vo y i) : Nat) : Int) = vo y i := Jay (Jcr hye (by omega))
    refine ⟨JI p m k z, R.Al _ _, ⟨fun h h0 => h ?_, fun h h0 => h ?_⟩, fun _ _ _ _ _ => trivial, ?_, z, hz, hz0, rfl⟩
    . have := Jis R hz hk hyi (by rw [R.Ac]; exact h0) (by rw [R.Ac]; exact hz0)
      rw [this]; exact hyv
    . have : k = inE (p ^ m) (vo y i) := by omega
      rw [this]; exact hz0
    . rw [hIn _ (by rw [List.length_set]; exact hy) (hel i k hk)]
      exact ⟨fun h t ht => by rw [<- Jmp hF ht hik hy hk hz hz0]; exact h t ht, fun h t ht => by rw [Jmp hF ht hik hy hk hz hz0]; exact h t ht⟩
  by_cases hy0 : In y
  . have hs := (hIn y hy hye).1 hy0
    refine ⟨fun _ _ => 1, fun _ _ => Nat.le_refl _, fun _ => rfl, fun h => absurd hy0 h, fun _ => rfl, rfl, fun i k hik hk => ⟨fun _ => rfl, fun hne => ⟨fun hh => ?_, fun _ => rfl⟩⟩⟩
    obtain ⟨d, hd, h1, _, h2, _⟩ := hset i k hik hk
    have h3 := h2.1 hh
    have hmem : (pnl (p ^ m) n).getD i 0 ∈ pnl (p ^ m) n := by
      rw [List.getD_eq_getElem?_getD, List.getElem?_eq_getElem (by rw [Zi]; exact hik)]; exact List.getElem_mem _
    obtain ⟨_, k2, hk2, o1, _⟩ := Jib hq hmem
    have h4 := h3 k2 hk2
    rw [hs k2 hk2, show pt (p ^ m) n i k2 = 1 from o1, R.M1 hd, R.Ac, R.Az hd] at h4
    exact absurd h4 (h1.1 hne)
  . have hnz : ∃ t, t < n /\ syn p m v n y t ≠ 0 := Classical.byContradiction fun hh => hy0 ((hIn y hy hye).2 fun t ht => Classical.byContradiction fun h => hh ⟨t, ht, h⟩)
    have hneg : ∀ t, ∃ k, k < p ^ m /\ JI p m (syn p m v n y t) k = 0 := fun t => R.An (Jki hF y t)
    let nu : Nat -> Nat := fun t => Classical.choose (hneg t)
    have hnu : ∀ t, nu t < p ^ m /\ JI p m (syn p m v n y t) (nu t) = 0 := fun t => Classical.choose_spec (hneg t)
    obtain ⟨J, D, hJ, hD, hD0, huniq⟩ := Jq8 (r := n) R hi nu (fun t => (hnu t).1) (by
      obtain ⟨t, ht, h⟩ := hnz
      refine ⟨t, ht, fun h0 => h ?_⟩
      have := (hnu t).2
      rw [h0, R.Az (Jki hF y t)] at this; exact this)
    rw [Zi] at hJ huniq
    -- the one entry that takes y into the code
    have hyJ : inE (p ^ m) (vo y J) < p ^ m := JS (by omega) _
    have hit : ∀ i k, i < cnt (p ^ m) n -> k < p ^ m -> (((k : Int) ≠ vo y i /\ In (y.set i (k : Int))) ↔ i = J /\ k = JI p m D (inE (p ^ m) (vo y J))) := fun i k hik hk => by
      obtain ⟨d, hd, h1, _, h2, z, hz, hz0, hdz⟩ := hset i k hik hk
      have hyi : inE (p ^ m) (vo y i) < p ^ m := JS (by omega) _
      have h3 : (∀ t, t < n -> JI p m (syn p m v n y t) (Jr p m (dv p v) d (pt (p ^ m) n i t)) = 0) ↔ ∀ t, t < n -> Jr p m (dv p v) d (pt (p ^ m) n i t) = nu t :=
        ⟨fun h t ht => Jis R (Jki hF y t) (R.Ml _ _) (hnu t).1 (h t ht) (hnu t).2, fun h t ht => by rw [h t ht]; exact (hnu t).2⟩
      have hk2 : JI p m d (inE (p ^ m) (vo y i)) = k := by
        rw [hdz, R.Aa hk hz hyi, R.Ac z, hz0, R.Az hk]
      rw [h2, h3]
      constructor
      . rintro ⟨a, b⟩
        obtain ⟨rfl, rfl⟩ := (huniq i d hik hd (h1.1 a)).1 b
        exact ⟨rfl, hk2.symm⟩
      . rintro ⟨rfl, hkD⟩
        have hdD : d = D := by
          have e : JI p m d (inE (p ^ m) (vo y i)) = JI p m D (inE (p ^ m) (vo y i)) := hk2.trans hkD
          have e1 : JI p m (JI p m d (inE (p ^ m) (vo y i))) z = d := by rw [R.Aa hd hyi hz, hz0, R.Az hd]
          have e2 : JI p m (JI p m D (inE (p ^ m) (vo y i))) z = D := by rw [R.Aa hD hyi hz, hz0, R.Az hD]
          rw [<- e1, e, e2]
        subst hdD
        exact ⟨h1.2 hD0, (huniq i d hik hd hD0).2 ⟨rfl, rfl⟩⟩
    generalize hZ : JI p m D (inE (p ^ m) (vo y J)) = Z at hit
    have hZq : Z < p ^ m := by rw [<- hZ]; exact R.Al _ _
    refine ⟨fun i k => if J < i ∨ (J = i /\ Z < k) then 1 else 0, fun i k => by show (if J < i ∨ (J = i /\ Z < k) then 1 else 0) <= 1; split <;> omega, fun h => absurd h hy0, fun _ => if_neg (by omega), fun i => ?_, if_pos (.inl hJ), fun i k hik hk => ?_⟩
    . show (if J < i + 1 ∨ (J = i + 1 /\ Z < 0) then 1 else 0) = if J < i ∨ (J = i /\ Z < p ^ m) then 1 else 0
      by_cases h : J < i + 1
      . have a1 : J < i + 1 ∨ (J = i + 1 /\ Z < 0) := .inl h
        have a2 : J < i ∨ (J = i /\ Z < p ^ m) := by omega
        rw [if_pos a1, if_pos a2]
      . have a1 : ¬ (J < i + 1 ∨ (J = i + 1 /\ Z < 0)) := by omega
        have a2 : ¬ (J < i ∨ (J = i /\ Z < p ^ m)) := by omega
        rw [if_neg a1, if_neg a2]
    . have hh := hit i k hik hk
      have no : ¬ (i = J /\ k = Z) -> (if J < i ∨ (J = i /\ Z < k + 1) then 1 else 0) = if J < i ∨ (J = i /\ Z < k) then 1 else 0 := fun h => by
        by_cases h2 : J < i ∨ (J = i /\ Z < k)
        . have a1 : J < i ∨ (J = i /\ Z < k + 1) := by omega
          rw [if_pos h2, if_pos a1]
        . have a1 : ¬ (J < i ∨ (J = i /\ Z < k + 1)) := by omega
          rw [if_neg h2, if_neg a1]
      refine ⟨fun e => no fun h => (hh.2 h).1 e, fun hne => ⟨fun hin => ?_, fun hin => no fun h => hin (hh.2 h).2⟩⟩
      obtain ⟨rfl, rfl⟩ := hh.1 ⟨hne, hin⟩
      show (if i < i ∨ (i = i /\ k < k + 1) then 1 else 0) = (if i < i ∨ (i = i /\ k < k) then 1 else 0) + 1
      have a1 : i < i ∨ (i = i /\ k < k + 1) := by omega
      have a2 : ¬ (i < i ∨ (i = i /\ k < k)) := by omega
      rw [if_pos a1, if_neg a2]
end
end Go.Proofs.Ytjgpkljepgcekaa
namespace Go.Proofs.Ytjgpkljepgcekaa
section
variable {P M : Int} {mf : LI} {p m v n : Nat} {N C r : Int} {X Y : LL} {y u : LI}
theorem Jmb {q : Nat -> Nat} {y : LI} {Q : Bool × Int -> Prop} (G : Sg P M mf p m v N X q) (h1 : 1 <= N /\ N <= 64) (hy : y.length = N.toNat) (he : Elr p m y) (h : ∀ b : Bool, (b = true ↔ zr (rsd p m v q X y X.length)) -> Q (b, 0)) : Jba P M mf N X y Q :=
 w_cHas G h1 hy he (fun hz => h true ⟨fun _ => hz, fun _ => rfl⟩) fun hz => h false ⟨(fun hh => by cases hh), fun hh => absurd hh hz⟩
theorem Jqv (y : LI) (i : Nat) : y.set i (vo y i) = y := YB (by simp) fun j hj => by
 rw [Qd]; by_cases h : i = j /\ i < y.length
 .rw [if_pos h, h.1]
 .rw [if_neg h]
theorem Jax (P M : Int) (mf : LI) (r : Int) (y : LI) : Jbc P M mf r y (fun b => b = true) := by
 refine Job ⟨(fun hh => by cases hh), fun _ => ?_⟩; refine Jod (fun hn => ?_) (fun hV hr => ?_) fun p m v hF hr => ⟨fun hc => ?_, fun hc => ?_⟩
 .exact ZZ (fun _ => ⟨fun _ => decide_eq_true rfl, fun hh => absurd (by decide) hh⟩) (fun h => absurd h hn) fun p m v hF => absurd ⟨p, m, v, hF⟩ hn
 .exact ZZ (fun hn => absurd hV hn) (fun _ _ => ⟨fun _ => decide_eq_true rfl, fun hh => absurd (by decide) hh⟩) fun p m v hF h1 => by omega
 .refine ZZ (fun hn => absurd ⟨p, m, v, hF⟩ hn) (fun _ h1 => by omega) fun p' m' v' hF' _ => ⟨fun _ => ⟨fun _ => decide_eq_true rfl, fun hh => absurd (by decide) hh⟩, fun hc' => ?_⟩
  obtain ⟨rfl, rfl, rfl⟩ := hF.uniq3 hF'; exact absurd hc' hc
 refine ZZ (fun hn => absurd ⟨p, m, v, hF⟩ hn) (fun _ h1 => by omega) fun p' m' v' hF' _ => ⟨fun hc' => ?_, fun _ => ?_⟩
 .obtain ⟨rfl, rfl, rfl⟩ := hF.uniq3 hF'; exact absurd hc hc'
 clear hF'; have R := hF.ring; have hq := R.q2; have hq2 := hF.q; refine ⟨fun hh => absurd rfl hh, fun _ => ⟨fun hh => absurd rfl hh, fun _ => ⟨fun _ => rfl, fun h21 => ?_⟩⟩⟩; have hn : r.toNat <= 64 := Nat.le_trans (ZP (by omega) _) hc; have hp := Jnj (q := p ^ m) (show 1 <= r.toNat by omega); refine ⟨fun hne => ⟨fun _ => rfl, fun hh => absurd (by decide) hh⟩, fun heq => ?_⟩; have heq := Classical.not_not.1 heq; have hy : y.length = cnt (p ^ m) r.toNat := by omega
 refine Jj9 hF (by omega) (fun hye => ⟨fun hh => absurd rfl hh, fun _ => ?_⟩) (fun _ => ⟨fun _ => rfl, fun hh => absurd (by decide) hh⟩); have G := nul_sg (v := v) hF (Jbz (p := p) (m := m) (v := v) (Jc9 (q := p ^ m) hn hc))
 change Sg P M mf p m v _ (hmg p m v r.toNat) _ at G
 have h1 : (1 : Int) <= ((cnt (p ^ m) r.toNat : Nat) : Int) /\ ((cnt (p ^ m) r.toNat : Nat) : Int) <= 64 := by omega
 obtain ⟨W, hW1, hWt, hWf, hWn, hWe, hWs⟩ := Jo4 hF hn hc hy hye _ fun u hu hue => (zr_sp G (by rw [Int.toNat_natCast]; exact hu) hue).trans (by rw [Int.toNat_natCast]; exact hmg_in hF hn hc hu hue); generalize hN : cnt (p ^ m) r.toNat = N at *
 refine Jmb G h1 (by rw [Int.toNat_natCast]; exact hy) hye fun b hb => ⟨fun hh => absurd rfl hh, fun _ => ⟨fun z => z = ((W 0 0 : Nat) : Int), ⟨fun e => by rw [hWt (hb.1 e)]; rfl, fun e => by rw [hWf fun h => by rw [e] at hb; exact absurd (hb.2 h) (by decide)]; rfl⟩, ?_⟩⟩
 rintro _ rfl; refine ⟨by omega, fun x z t => ∃ i : Nat, t = i /\ i <= N /\ y = x /\ z = ((W i 0 : Nat) : Int), fun _ _ t => (N - t).toNat, ⟨0, rfl, Nat.zero_le _, rfl, rfl⟩, ?_⟩; rintro _ _ _ ⟨i, rfl, hi, rfl, rfl⟩; dsimp only; refine ⟨fun hlt => ?_, fun hge => ?_⟩
 .have hiN : i < N := by omega
  refine ⟨fun x z t => ∃ k : Nat, t = k /\ k <= p ^ m /\ (∃ w : Int, x = y.set i w) /\ z = ((W i k : Nat) : Int), fun _ _ t => (((p ^ m : Nat) : Int) - t).toNat, ⟨0, rfl, Nat.zero_le _, ⟨vo y i, (Jqv y i).symm⟩, rfl⟩, ?_⟩; rintro _ _ _ ⟨k, rfl, hk, ⟨w, rfl⟩, rfl⟩; dsimp only; refine Jbg ?_; rw [hF.ord]; have hs : si (y.set i w) (i : Int) (k : Int) = y.set i (k : Int) := by rw [Qo, List.set_set]
  have hs2 : si (y.set i w) (i : Int) (gi y (i : Int)) = y := by rw [Qo, List.set_set]; exact Jqv y i
  rw [hs, hs2]; have hW := hW1 i k; refine ⟨fun hlt2 => ?_, fun hge2 => ?_⟩
  .have hkq : k < p ^ m := by omega
   have hel : Elr p m (y.set i (k : Int)) := fun x hx => by
    rcases List.mem_or_eq_of_mem_set hx with h | h
    .exact hye x h
    .rw [h]; exact ⟨by omega, by omega⟩
   obtain ⟨s1, s2⟩ := hWs i k hiN hkq; refine ⟨fun x z => (∃ w : Int, x = y.set i w) /\ z = ((W i (k + 1) : Nat) : Int), ⟨⟨by omega, by omega⟩, fun e => ⟨⟨w, rfl⟩, by rw [s1 e]⟩, fun hne => ⟨⟨by omega, by rw [List.nil_append]; omega⟩, Jmb G h1 (by rw [Int.toNat_natCast, List.length_set]; exact hy) hel fun b hb => ⟨fun hh => absurd rfl hh, fun _ => ⟨fun e => ⟨Ju (by omega) (by omega), ⟨_, rfl⟩, ?_⟩, fun e => ⟨⟨_, rfl⟩, ?_⟩⟩⟩⟩⟩, ?_⟩
   .rw [(s2 hne).1 (hb.1 e)]; push_cast; rfl
   .have e' : b = false := e; rw [(s2 hne).2 fun h => by rw [e'] at hb; exact absurd (hb.2 h) (by decide)]
   .rintro _ _ ⟨⟨w', rfl⟩, rfl⟩; exact ⟨Ju (by omega) (by omega), ⟨k + 1, by push_cast; rfl, by omega, ⟨w', rfl⟩, rfl⟩, by omega⟩
  .obtain rfl : k = p ^ m := by omega
   exact ⟨⟨by omega, by omega⟩, ⟨by omega, by rw [List.nil_append]; omega⟩, Ju (by omega) (by omega), ⟨i + 1, by push_cast; rfl, by omega, rfl, by rw [hWn]⟩, by omega⟩
 .obtain rfl : i = N := by omega
  exact decide_eq_true (by rw [hWe]; rfl)
end
end Go.Proofs.Ytjgpkljepgcekaa
