/- Contracts of functions of the program, and what they lean on: V6, M1, M2, M3, M4, M5, M6, M7, M8, M9, M10, M11, M12, M13, M14, M15, M16, M17, M18, M19, M20. -/
import Derived.Test.YtngdhnijkgjhcaaGreatSpaceWordsG9
set_option linter.unusedVariables false
set_option linter.unusedSimpArgs false
namespace Go.Proofs.YtngdhnijkgjhcaaGreat
section
variable {F : GFv} {p m v g : Nat}
theorem v_Is {x : Int} {Q : Bool -> Prop} (K : GFk F p m v g) (h : Q (decide (0 <= x /\ x < ((p ^ m : Nat) : Int)))) : V_Is F x Q := by
 refine ⟨fun h0 => ?_, fun h0 => ?_⟩
 .rw [K.q]; simpa [h0] using h
 .simpa [h0] using h
theorem Jhm {x : Int} {Q : Bool -> Prop} (K : GFk F p m v g) (h : Q (decide (inE (p ^ m) x ≠ 0))) : Jan F x Q := by
 unfold inE at h; refine ⟨fun h0 => ?_, fun h0 => ?_⟩
 .rw [K.q]; by_cases hx : x < ((p ^ m : Nat) : Int)
  .rw [if_pos ⟨by omega, hx⟩] at h; rw [decide_eq_true hx]; rw [decide_eq_true (by omega)] at h; exact h
  .rw [if_neg (by omega)] at h; rw [decide_eq_false hx]; exact h
 .by_cases hx : 0 <= x /\ x < ((p ^ m : Nat) : Int)
  .rw [if_pos hx] at h; rw [decide_eq_false (by omega)] at h; exact h
  .rw [if_neg hx] at h; exact h
theorem Jjn {x : Int} {Q : Int -> Prop} (K : GFk F p m v g) (h : Q ((inE (p ^ m) x : Nat) : Int)) : Jao F x Q := by
 refine v_Is K ⟨fun hb => ?_, fun hb => ?_⟩
 .have hb := of_decide_eq_true hb; unfold inE at h; rw [if_pos hb, Int.toNat_of_nonneg hb.1] at h; exact h
 .have hb := of_decide_eq_false hb; unfold inE at h; rw [if_neg hb] at h; exact h
theorem Qau {q : Nat} {x : Int} (h : inE q x ≠ 0) : x = ((inE q x : Nat) : Int) := by
 unfold inE at h ⊢; split
 .rename_i hc; exact (Int.toNat_of_nonneg hc.1).symm
 .rename_i hc; rw [if_neg hc] at h; exact absurd rfl h
theorem GFk.lg (K : GFk F p m v g) {x : Int} (h : inE (p ^ m) x ≠ 0) : ∃ a : Nat, a < p ^ m - 1 /\ inE (p ^ m) x = pw (Jv p m (dv p v)) g a /\ gi F.log x = (a : Int) /\ (0 <= x /\ x < (F.log.length : Nat)) := by
  have R := K.fv.ring
  have hlt := J6 R.pos x
  obtain ⟨a, ha, he⟩ := K.G.surj R (Nat.pos_of_ne_zero h) hlt
  have hx := Qau h
  refine ⟨a, ha, he.symm, ?_, ?_⟩
  . rw [hx, <- he, JU, K.lv a ha]
  . rw [K.ll]; omega
theorem Jml {x y : Int} {Q : Int -> Prop} (K : GFk F p m v g) (h : Q ((Jv p m (dv p v) (inE (p ^ m) x) (inE (p ^ m) y) : Nat) : Int)) : Jgh F x y Q := by
 have R := K.fv.ring; have hq := K.fv.q; have hx := J6 R.pos x; have hy := J6 R.pos y; refine Jhm K ⟨fun hb => ?_, fun hb => Jhm K ⟨fun hb2 => ?_, fun hb2 => ?_⟩⟩
 .have h0 : inE (p ^ m) x = 0 := by simpa using hb
  rw [h0, R.Z0 hy] at h; exact h
 .have h0 : inE (p ^ m) y = 0 := by simpa using hb2
  rw [h0, R.M0 hx] at h; exact h
 .obtain ⟨a, ha, ea, la, bx⟩ := K.lg (x := x) (by simpa using hb); obtain ⟨b, hb', eb, lb, by_⟩ := K.lg (x := y) (by simpa using hb2); rw [la, lb]; have hel := K.el; refine ⟨bx, by_, Jz (by omega) (by omega), ⟨by omega, by omega⟩, ?_⟩; rw [show (a : Int) + (b : Int) = ((a + b : Nat) : Int) by push_cast; rfl, JU, K.ev _ (by omega), R.pw_add K.G.lt, <- ea, <- eb]; exact h
theorem Qdv {p m : Nat} {c : Vec} {x : Nat} (hp : 2 <= p) (hm : 0 < m) (hx : x < p ^ m) : Jv p m c (p - 1) x = QH p m x := by
 unfold Jv QH; have hd : vcg p (dv p (p - 1)) (vsm (-1) e0) := fun i => by
  cases i with
  | zero =>
   rw [ZQ, Nat.mod_eq_of_lt (by omega)]; show ((p - 1 : Nat) : Int) % p = (-1 * 1) % p; rw [show ((p - 1 : Nat) : Int) = -1 * 1 + p * 1 by omega, Int.add_mul_emod_self_left]
  | succ i =>
   rw [Jbg, Nat.div_eq_of_lt (by omega), Jim]; simp [vz, vsm, e0]
 rw [Z1 (vcg.mul (vcg.refl c) hd (vcg.refl _))]; have : YV m c (vsm (-1) e0) (dv p x) = vsm (-1) (dv p x) := by
  show opr m c (dv p x) m (vsm (-1) e0) = _; rw [Jpq, Jaa (YJ hx)]
 rw [this]
theorem Jsu {x : Int} {Q : Int -> Prop} (K : GFk F p m v g) (h : Q ((QH p m (inE (p ^ m) x) : Nat) : Int)) : ZU F x Q := by
 have hp := K.fv.p2; have hpq := K.fv.pq; have h256 := K.fv.p256; have R := K.fv.ring; unfold ZU; rw [K.fv.eP]; refine ⟨Jz (by omega) (by omega), Jml K ?_⟩; rw [show (p : Int) - 1 = ((p - 1 : Nat) : Int) by omega, Qt (by omega), Qdv hp K.fv.m0 (J6 R.pos x)]; exact h
theorem Jys {m x y : Nat} (hx : x < 2 ^ m) (hy : y < 2 ^ m) : x ^^^ y = J0 2 m x y := by
 refine (nm_eq (by decide) (Nat.xor_lt_two_pow hx hy) fun i hi => ?_).symm; have h := Nat.testBit_xor x y i; rw [Nat.testBit_eq_decide_div_mod_eq, Nat.testBit_eq_decide_div_mod_eq, Nat.testBit_eq_decide_div_mod_eq] at h; simp only [dv, Qg]; have h1 := Nat.mod_two_eq_zero_or_one (x / 2 ^ i); have h2 := Nat.mod_two_eq_zero_or_one (y / 2 ^ i); have h3 := Nat.mod_two_eq_zero_or_one ((x ^^^ y) / 2 ^ i); rcases h1 with h1 | h1 <;> rcases h2 with h2 | h2 <;> rcases h3 with h3 | h3 <;> rw [h1, h2, h3] at h <;> rw [h1, h2, h3] <;> first | rfl | exact absurd h (by decide)
theorem v_Add {x y : Int} {Q : Int -> Prop} (K : GFk F p m v g) (h : Q ((J0 p m (inE (p ^ m) x) (inE (p ^ m) y) : Nat) : Int)) : Jon F x y Q := by
 have R := K.fv.ring; have hq := K.fv.q; have hx := J6 R.pos x; have hy := J6 R.pos y; have hq2 := R.q2; refine Jjn K (Jjn K ⟨fun h2 => ⟨⟨by omega, by omega, by omega, by omega⟩, ?_⟩, fun h2 => ⟨fun h0 => ?_, fun h0 => ⟨fun h1 => ?_, fun h1 => ?_⟩⟩⟩)
 .have hp2 : p = 2 := by have := K.fv.eP; omega
  subst hp2; rw [<- Jys hx hy] at h; exact h
 .rw [show inE (p ^ m) x = 0 by omega, R.zA hy] at h; exact h
 .rw [show inE (p ^ m) y = 0 by omega, R.Az hx] at h; exact h
 .have hi : ∀ z : Nat, z < p ^ m -> inE (p ^ m) (z : Int) = z := fun z hz => Qt hz; obtain ⟨a, ha, ea, la, bx⟩ := K.lg (x := ((inE (p ^ m) x : Nat) : Int)) (by rw [hi _ hx]; omega); obtain ⟨b, hb, eb, lb, by_⟩ := K.lg (x := ((inE (p ^ m) y : Nat) : Int)) (by rw [hi _ hy]; omega); rw [hi _ hx] at ea; rw [hi _ hy] at eb; rw [la, lb]; have hal := K.al; have hel := K.el; refine ⟨by_, bx, Jz (by omega) (by omega), fun z => ∃ d : Nat, z = d /\ d < p ^ m - 1 /\ pw (Jv p m (dv p v)) g (a + d) = pw (Jv p m (dv p v)) g b, ⟨fun hn => ?_, fun hn => ?_⟩, ?_⟩
  .rw [K.q]; refine ⟨Jz (by omega) (by omega), Jz (by omega) (by omega), b + (p ^ m - 1) - a, by omega, by omega, ?_⟩; have := K.G.per R b 1; rw [Nat.mul_one] at this; rw [show a + (b + (p ^ m - 1) - a) = b + (p ^ m - 1) by omega]; exact this
  .exact ⟨b - a, by omega, by omega, by rw [show a + (b - a) = b by omega]⟩
  .rintro _ ⟨d, rfl, hd, hpd⟩; rw [JU, K.av d hd]; have hgd := R.pw_lt g d; have hga := R.pw_lt g a
   -- x + y = x (g^d + 1)
   have hsum : J0 p m (inE (p ^ m) x) (inE (p ^ m) y) = Jv p m (dv p v) (pw (Jv p m (dv p v)) g a) (J0 p m (pw (Jv p m (dv p v)) g d) 1) := by
    rw [R.Md hga hgd R.one_lt, R.M1 hga, <- R.pw_add K.G.lt, hpd, <- ea, <- eb, R.Ac]
   rw [hsum] at h; have hsl := R.Al (pw (Jv p m (dv p v)) g d) 1; refine ⟨⟨by omega, by omega⟩, fun hm1 => ?_, fun hm1 => ?_⟩
   .have hz : J0 p m (pw (Jv p m (dv p v)) g d) 1 = 0 := by
     rcases Nat.eq_zero_or_pos (J0 p m (pw (Jv p m (dv p v)) g d) 1) with h3 | h3
     .exact h3
     .obtain ⟨s, hs, hse⟩ := K.G.surj R h3 hsl; rw [<- hse, K.lv s hs] at hm1; omega
    rw [hz, R.M0 hga] at h; exact h
   .have hnz : 0 < J0 p m (pw (Jv p m (dv p v)) g d) 1 := by
     rcases Nat.eq_zero_or_pos (J0 p m (pw (Jv p m (dv p v)) g d) 1) with h3 | h3
     .rw [h3, K.l0] at hm1; exact absurd rfl hm1
     .exact h3
    obtain ⟨s, hs, hse⟩ := K.G.surj R hnz hsl; rw [<- hse] at h ⊢; rw [K.lv s hs]; refine ⟨bx, Jz (by omega) (by omega), ⟨by omega, by omega⟩, ?_⟩; rw [show (a : Int) + (s : Int) = ((a + s : Nat) : Int) by push_cast; rfl, JU, K.ev _ (by omega), R.pw_add K.G.lt]; exact h
theorem v_Inv {x : Int} {Q : Int × Int -> Prop} (K : GFk F p m v g) (h0 : inE (p ^ m) x = 0 -> Q (0, 7)) (h1 : ∀ z : Nat, inE (p ^ m) x ≠ 0 -> z < p ^ m -> Jv p m (dv p v) z (inE (p ^ m) x) = 1 -> Q ((z : Int), 0)) : Juo F x Q := by
 have R := K.fv.ring; have hq := K.fv.q; refine Jhm K ⟨fun hb => h0 (by simpa using hb), fun hb => ?_⟩; have hne : inE (p ^ m) x ≠ 0 := by simpa using hb
 obtain ⟨a, ha, ea, la, bx⟩ := K.lg hne; have hel := K.el; rw [la, K.q]; refine ⟨Jz (by omega) (by omega), bx, Jz (by omega) (by omega), ⟨by omega, by omega⟩, ?_⟩; rw [show ((p ^ m : Nat) : Int) - 1 - (a : Int) = ((p ^ m - 1 - a : Nat) : Int) by omega, JU, K.ev _ (by omega)]; refine h1 _ hne (R.pw_lt g _) ?_; rw [ea, <- R.pw_add K.G.lt, show p ^ m - 1 - a + a = p ^ m - 1 by omega, K.G.one]
theorem Qc5 {x : Int} {l : LI} {Q : LI -> Prop} (K : GFk F p m v g) (hl : l.length <= 1000) (h : ∀ r : LI, r.length = l.length -> (∀ i, i < l.length -> vo r i = ((Jv p m (dv p v) (inE (p ^ m) x) (inE (p ^ m) (vo l i)) : Nat) : Int)) -> Q r) : Jbr F x l Q := by
 refine ⟨⟨by omega, by omega, by omega⟩, fun r i => ∃ k : Nat, i = k /\ k <= l.length /\ r.length = l.length /\ ∀ j, j < k -> vo r j = ((Jv p m (dv p v) (inE (p ^ m) x) (inE (p ^ m) (vo l j)) : Nat) : Int), fun r i => (l.length - i).toNat, ⟨0, rfl, Nat.zero_le _, by simp, fun j hj => by omega⟩, ?_⟩; rintro r _ ⟨k, rfl, hk, hr, hv⟩; dsimp only; rw [JU]; refine ⟨fun hlt => ⟨⟨by omega, by omega⟩, Jml K ⟨⟨by omega, by omega⟩, Jz (by omega) (by omega), ⟨k + 1, by push_cast; rfl, by omega, ?_, fun j hj => ?_⟩, by omega⟩⟩, fun hge => h r hr fun i hi => hv i (by omega)⟩
 .rw [Qk, List.length_set, hr]
 .rw [Qk, J5]; by_cases hkj : k = j
  .subst hkj; rw [if_pos ⟨rfl, by omega⟩]
  .rw [if_neg (fun h => hkj h.1)]; exact hv j (by omega)
end
end Go.Proofs.YtngdhnijkgjhcaaGreat
namespace Go.Proofs.YtngdhnijkgjhcaaGreat
section
variable (p m v : Nat)
def Ad (x y : Int) : Int := ((J0 p m (inE (p ^ m) x) (inE (p ^ m) y) : Nat) : Int)
def Ml (x y : Int) : Int := ((Jv p m (dv p v) (inE (p ^ m) x) (inE (p ^ m) y) : Nat) : Int)
def Ng (x : Int) : Int := ((QH p m (inE (p ^ m) x) : Nat) : Int)
def Iv (x : Int) : Int := ((((List.range (p ^ m)).find? fun z => Jv p m (dv p v) z (inE (p ^ m) x) == 1).getD 0 : Nat) : Int)
def El (x : Int) : Prop := 0 <= x /\ x < ((p ^ m : Nat) : Int)
def Elr (l : LI) : Prop := ∀ x ∈ l, El p m x
def Els (X : LL) : Prop := ∀ r ∈ X, Elr p m r
def sc (x : Int) (l : LI) : LI := l.map (Ml p m v x)
def adm (a : LI) (x : Int) (o : LI) : LI := (List.range a.length).map fun i => if vo o i = 0 then vo a i else Ad p m (vo a i) (Ml p m v x (vo o i))
def adx (a : LI) (x : Int) (o : LI) : LI := if x = 0 then a else adm p m v a x o
def row (X : LL) (t : Nat) : LI := X.getD t []
def nz (X : LL) (c s : Nat) : Nat := s + ((X.drop s).takeWhile fun r => vo r c == 0).length
def swp (X : LL) (i j : Nat) : LL := (X.set i (row X j)).set j (row X i)
def clr (f : Nat -> Int) (cur : Nat) (X : LL) : LL := (List.range X.length).map fun t => if t = cur then row X t else adx p m v (row X t) (f t) (row X cur)
structure ES where
  X : LL
  Y : LL
  pv : LI
  d : Int
def es1 (c r cur : Nat) (S : ES) : ES :=
  let X1 := if r = cur then S.X else swp S.X r cur
  let Y1 := if r = cur then S.Y else swp S.Y r cur
  let e := vo (row X1 cur) c
  let X2 := X1.set cur (sc p m v (Iv p m v e) (row X1 cur))
  let Y2 := Y1.set cur (sc p m v (Iv p m v e) (row Y1 cur))
  { X := clr p m v (fun t => Ng p m (vo (row X2 t) c)) cur X2, Y := clr p m v (fun t => Ng p m (vo (row X2 t) c)) cur Y2, pv := S.pv ++ [(c : Int)], d := Ml p m v (if r = cur then S.d else Ng p m S.d) e }
def Yo (S : ES) (c : Nat) : ES :=
  if S.pv.length < S.X.length /\ nz S.X c S.pv.length < S.X.length then es1 p m v c (nz S.X c S.pv.length) S.pv.length S else S
def elim (cols : Nat) (S : ES) : ES := (List.range cols).foldl (Yo p m v) S
end
theorem QL {X Y : LL} (h : X.length = Y.length) (hv : ∀ i, i < X.length -> row X i = row Y i) : X = Y := by
 apply List.ext_getElem?; intro i; rcases Nat.lt_or_ge i X.length with hi | hi
 .rw [Zi (d := []) hi, Zi (d := []) (ls := Y) (by omega)]; exact congrArg some (hv i hi)
 .rw [List.getElem?_eq_none hi, List.getElem?_eq_none (by omega)]
theorem Qn (X : LL) (i j : Nat) (l : LI) : row (X.set i l) j = if i = j /\ i < X.length then l else row X j := by
 unfold row; rw [List.getD_eq_getElem?_getD, List.getD_eq_getElem?_getD, List.getElem?_set]; by_cases h : i = j
 .subst h; by_cases hi : i < X.length <;> simp [hi]
 .simp [h]
theorem Jck {n : Nat} {f : Nat -> LI} {t : Nat} (h : t < n) : row ((List.range n).map f) t = f t := by
 unfold row; rw [List.getD_eq_getElem?_getD]; simp [h]
theorem Jdo {n : Nat} {f : Nat -> Int} {t : Nat} (h : t < n) : vo ((List.range n).map f) t = f t := by
 unfold vo; rw [List.getD_eq_getElem?_getD]; simp [h]
theorem row_hi {X : LL} {t : Nat} (h : X.length <= t) : row X t = [] := by
 unfold row; rw [List.getD_eq_getElem?_getD, List.getElem?_eq_none h]; rfl
theorem Ja1 {X : LL} {t : Nat} (h : t < X.length) : row X t ∈ X := List.mem_of_getElem? (Zi h)
theorem ZN {X : LL} {r : LI} (h : r ∈ X) : ∃ t, t < X.length /\ row X t = r := by
 obtain ⟨t, ht, e⟩ := List.mem_iff_getElem.1 h; refine ⟨t, ht, ?_⟩; unfold row; rw [List.getD_eq_getElem?_getD, List.getElem?_eq_getElem ht]; exact e
theorem Jp4 {l : LI} {x : Int} (h : x ∈ l) : ∃ t, t < l.length /\ vo l t = x := by
 obtain ⟨t, ht, e⟩ := List.mem_iff_getElem.1 h; refine ⟨t, ht, ?_⟩; unfold vo; rw [List.getD_eq_getElem?_getD, List.getElem?_eq_getElem ht]; exact e
theorem Jav {l : LI} {t : Nat} (h : t < l.length) : vo l t ∈ l := List.mem_of_getElem? (Zi h)
theorem Jgs (X : LL) (i j : Nat) : (swp X i j).length = X.length := by simp [swp]
theorem Ja0 {X : LL} {i j t : Nat} (hi : i < X.length) (hj : j < X.length) : row (swp X i j) t = if t = j then row X i else if t = i then row X j else row X t := by
 unfold swp; rw [Qn, Qn, List.length_set]; by_cases h1 : t = j
 .subst h1; simp [hj]
 .by_cases h2 : t = i
  .subst h2; simp [hi, Ne.symm h1, h1]
  .simp [Ne.symm h1, Ne.symm h2, h1, h2]
theorem Jzp {X : LL} {i j : Nat} (hi : i < X.length) (hj : j < X.length) : swp X i j = swp X j i := by
 refine QL (by rw [Jgs, Jgs]) fun t ht => ?_; rw [Ja0 hi hj, Ja0 hj hi]; by_cases h1 : t = j <;> by_cases h2 : t = i <;> simp_all
theorem Jzo {X : LL} {i : Nat} (hi : i < X.length) : swp X i i = X := by
 refine QL (Jgs _ _ _) fun t ht => ?_; rw [Ja0 hi hi]; by_cases h1 : t = i <;> simp_all
theorem Ja8 (X : LL) (c : Nat) : ∀ s, s <= X.length -> nz X c s <= X.length /\ (∀ t, s <= t -> t < nz X c s -> vo (row X t) c = 0) /\ (nz X c s < X.length -> vo (row X (nz X c s)) c ≠ 0) := by
 have key : ∀ (n s : Nat), n + s = X.length -> nz X c s <= X.length /\ (∀ t, s <= t -> t < nz X c s -> vo (row X t) c = 0) /\ (nz X c s < X.length -> vo (row X (nz X c s)) c ≠ 0) := by
  intro n
  induction n with
  | zero =>
   intro s hs; have hd : X.drop s = [] := List.drop_eq_nil_of_le (by omega); have e : nz X c s = s := by unfold nz; rw [hd]; rfl
   rw [e]; exact ⟨by omega, fun t h1 h2 => by omega, fun h => by omega⟩
  | succ n ih =>
   intro s hs; have hlt : s < X.length := by omega
   have hd : X.drop s = row X s :: X.drop (s + 1) := by
    rw [List.drop_eq_getElem_cons hlt]
    congr 1
    unfold row; rw [List.getD_eq_getElem?_getD, List.getElem?_eq_getElem hlt]; rfl
   by_cases h0 : vo (row X s) c = 0
   .have e : nz X c s = nz X c (s + 1) := by
     unfold nz; rw [hd, List.takeWhile_cons, if_pos (by simp [h0]), List.length_cons]; omega
    obtain ⟨h1, h2, h3⟩ := ih (s + 1) (by omega); rw [e]; refine ⟨h1, fun t ht1 ht2 => ?_, h3⟩; rcases Nat.eq_or_lt_of_le ht1 with rfl | h
    .exact h0
    .exact h2 t h ht2
   .have e : nz X c s = s := by
     unfold nz; rw [hd, List.takeWhile_cons, if_neg (by simpa using h0)]; rfl
    rw [e]; exact ⟨by omega, fun t h1 h2 => by omega, fun _ => h0⟩
 exact fun s hs => key (X.length - s) s (by omega)
theorem Jtk (X : LL) (c s : Nat) : s <= nz X c s := Nat.le_add_right _ _
theorem Jnl {X : LL} {c s r : Nat} (hs : s <= r) (hr : r <= X.length) (h1 : ∀ t, s <= t -> t < r -> vo (row X t) c = 0) (h2 : r < X.length -> vo (row X r) c ≠ 0) : r = nz X c s := by
 obtain ⟨a, b, d⟩ := Ja8 X c s (by omega); have := Jtk X c s; rcases Nat.lt_trichotomy r (nz X c s) with h | h | h
 .exact absurd (b r hs h) (h2 (by omega))
 .exact h
 .exact absurd (h1 _ this h) (d (by omega))
section
variable {p m v : Nat}
theorem Jcv (a : LI) (x : Int) (o : LI) : (adm p m v a x o).length = a.length := by simp [adm]
theorem Jes (a : LI) (x : Int) (o : LI) : (adx p m v a x o).length = a.length := by
 unfold adx; split
 .rfl
 .exact Jcv ..
theorem Jff (x : Int) (l : LI) : (sc p m v x l).length = l.length := by simp [sc]
theorem Zj (f : Nat -> Int) (cur : Nat) (X : LL) : (clr p m v f cur X).length = X.length := by simp [clr]
theorem ZK {f : Nat -> Int} {cur t : Nat} {X : LL} (h : t < X.length) : row (clr p m v f cur X) t = if t = cur then row X t else adx p m v (row X t) (f t) (row X cur) := Jck h
theorem Jaw {a o : LI} {x : Int} {t : Nat} (h : t < a.length) : vo (adm p m v a x o) t = if vo o t = 0 then vo a t else Ad p m (vo a t) (Ml p m v x (vo o t)) := Jdo h
theorem Jhi {x : Int} {l : LI} {t : Nat} (h : t < l.length) : vo (sc p m v x l) t = Ml p m v x (vo l t) := by
 unfold vo sc; rw [List.getD_eq_getElem?_getD, List.getElem?_map, List.getD_eq_getElem?_getD, List.getElem?_eq_getElem h]; rfl
end
section
variable {F : GFv} {p m v g : Nat} {P M : Int} {mf : LI} {X : LL}
theorem Ji7 {l : LI} {Q : Bool -> Prop} (K : GFk F p m v g) (hl : l.length <= 1000000) (h1 : Elr p m l -> Q true) (h2 : ¬ Elr p m l -> Q false) : Y4 F l Q := by
 refine ⟨fun z => ∃ t : Nat, z = t /\ t <= l.length /\ ∀ k, k < t -> El p m (vo l k), fun z => (l.length - z).toNat, ⟨0, rfl, Nat.zero_le _, fun k h => by omega⟩, ?_⟩; rintro _ ⟨t, rfl, ht, hk⟩; dsimp only; rw [JU]; refine ⟨fun hlt => ⟨⟨by omega, by omega⟩, v_Is K ?_⟩, fun hge => h1 fun x hx => ?_⟩
 .by_cases he : El p m (vo l t)
  .rw [decide_eq_true (show 0 <= vo l t /\ vo l t < ((p ^ m : Nat) : Int) from he)]; refine ⟨fun h => absurd h (by decide), fun _ => ⟨Jz (by omega) (by omega), ⟨t + 1, by push_cast; rfl, by omega, fun k hk' => ?_⟩, by omega⟩⟩; rcases Nat.lt_or_ge k t with h | h
   .exact hk k h
   .rw [show k = t by omega]; exact he
  .rw [decide_eq_false (show ¬ (0 <= vo l t /\ vo l t < ((p ^ m : Nat) : Int)) from he)]; exact ⟨fun _ => h2 fun h => he (h _ (Jav (by omega))), fun h => absurd h (by decide)⟩
 .obtain ⟨t', h3, rfl⟩ := Jp4 hx; exact hk t' (by omega)
theorem Jdm {l : LI} {Q : Int -> Prop} (hF : FV P M mf p m v) (hl : l.length <= 1000000) (h1 : Elr p m l -> Q 0) (h2 : ¬ Elr p m l -> Q 2) : ZG P M mf l Q := by
 refine ⟨fun z => ∃ t : Nat, z = t /\ t <= l.length /\ ∀ k, k < t -> El p m (vo l k), fun z => (l.length - z).toNat, ⟨0, rfl, Nat.zero_le _, fun k h => by omega⟩, ?_⟩; rintro _ ⟨t, rfl, ht, hk⟩; dsimp only; rw [JU]; refine ⟨fun hlt => ⟨⟨by omega, by omega⟩, _, v_rIs hF rfl, ?_⟩, fun hge => h1 fun x hx => ?_⟩
 .by_cases he : El p m (vo l t)
  .rw [decide_eq_true (show 0 <= vo l t /\ vo l t < ((p ^ m : Nat) : Int) from he)]; refine ⟨fun h => absurd h (by decide), fun _ => ⟨Jz (by omega) (by omega), ⟨t + 1, by push_cast; rfl, by omega, fun k hk' => ?_⟩, by omega⟩⟩; rcases Nat.lt_or_ge k t with h | h
   .exact hk k h
   .rw [show k = t by omega]; exact he
  .rw [decide_eq_false (show ¬ (0 <= vo l t /\ vo l t < ((p ^ m : Nat) : Int)) from he)]; exact ⟨fun _ => h2 fun h => he (h _ (Jav (by omega))), fun h => absurd h (by decide)⟩
 .obtain ⟨t', h3, rfl⟩ := Jp4 hx; exact hk t' (by omega)
def shp (C : Int) (X : LL) : Prop := 0 <= C /\ C <= 256 /\ X.length <= 256 /\ ∀ r ∈ X, (r.length : Int) = C
theorem Jo5 {C : Int} {Q : Bool -> Prop} (h1 : shp C X -> Q true) (h2 : ¬ shp C X -> Q false) : ZH C X Q := by
 refine ⟨fun h => h2 fun s => by have := s.1; omega, fun h0 => ⟨fun h => h2 fun s => by have := s.2.1; omega, fun h3 => ⟨fun h => h2 fun s => by have := s.2.2.1; omega, fun h4 => ?_⟩⟩⟩; refine ⟨fun z => ∃ t : Nat, z = t /\ t <= X.length /\ ∀ k, k < t -> ((row X k).length : Int) = C, fun z => (X.length - z).toNat, ⟨0, rfl, Nat.zero_le _, fun k h => by omega⟩, ?_⟩; rintro _ ⟨t, rfl, ht, hk⟩; dsimp only; refine ⟨fun hlt => ⟨⟨by omega, by omega⟩, fun hne => h2 fun s => hne (s.2.2.2 _ (Ja1 (by omega))), fun he => ⟨Jz (by omega) (by omega), ⟨t + 1, by push_cast; rfl, by omega, fun k hk' => ?_⟩, by omega⟩⟩, fun hge => h1 ⟨by omega, by omega, by omega, fun r hr => ?_⟩⟩
 .rcases Nat.lt_or_ge k t with h | h
  .exact hk k h
  .rw [show k = t by omega]; exact Classical.not_not.1 he
 .obtain ⟨t', h3, rfl⟩ := ZN hr; exact hk t' (by omega)
theorem Jyz {Q : LL -> Prop} (hX : X.length <= 1000000) (hr : ∀ r ∈ X, r.length <= 1000000) (h : Q X) : Je5 X Q := by
 refine ⟨⟨by omega, by omega, by omega⟩, fun x z => ∃ t : Nat, z = t /\ t <= X.length /\ x.length = X.length /\ ∀ k, k < t -> row x k = row X k, fun x z => (X.length - z).toNat, ⟨0, rfl, Nat.zero_le _, by simp, fun k h => by omega⟩, ?_⟩; rintro x _ ⟨t, rfl, ht, hx, hk⟩; dsimp only; refine ⟨fun hlt => ⟨⟨by omega, by omega⟩, Jd8 (hr _ (Ja1 (t := t) (by omega))) ⟨⟨by omega, by omega⟩, Jz (by omega) (by omega), ⟨t + 1, by push_cast; rfl, by omega, ?_, fun k hk' => ?_⟩, ?_⟩⟩, fun hge => ?_⟩
 .rw [ZJ]; exact hx
 .show row (x.set t (row X t)) k = row X k; rw [Qn]; by_cases e : t = k
  .rw [if_pos ⟨e, by omega⟩, e]
  .rw [if_neg (fun h => e h.1)]; exact hk k (by omega)
 .omega
 .rw [show x = X from QL hx fun i hi => hk i (by omega)]; exact h
theorem Qc0 {c s : Nat} {Q : Int -> Prop} (hs : s <= X.length) (hX : X.length <= 1000000) (hc : ∀ t, t < X.length -> c < (row X t).length) (h : Q ((nz X c s : Nat) : Int)) : YT X s c Q := by
 refine ⟨fun r => r = ((nz X c s : Nat) : Int), ⟨fun z => ∃ t : Nat, z = t /\ s <= t /\ t <= X.length /\ ∀ k, s <= k -> k < t -> vo (row X k) c = 0, fun z => (X.length - z).toNat, ⟨s, rfl, Nat.le_refl _, hs, fun k h1 h2 => by omega⟩, ?_⟩, ?_⟩
 .rintro _ ⟨t, rfl, h1, h2, h3⟩; dsimp only; refine ⟨fun hlt => ⟨⟨by omega, by omega⟩, ⟨by omega, by have := hc t (by omega); show (c : Int) < ((row X t).length : Nat); omega⟩, fun he => ⟨Jz (by omega) (by omega), ⟨t + 1, by push_cast; rfl, by omega, by omega, fun k hk1 hk2 => ?_⟩, by omega⟩, fun hne => ?_⟩, fun hge => ?_⟩
  .rcases Nat.lt_or_ge k t with h | h
   .exact h3 k hk1 h
   .rw [show k = t by omega]; exact he
  .exact congrArg _ (Jnl h1 h2 h3 fun _ => hne)
  .exact congrArg _ (Jnl h1 h2 h3 fun h => by omega)
 .rintro _ rfl; exact h
theorem ZW {a o : LI} {x : Int} {Q : LI -> Prop} (K : GFk F p m v g) (hl : o.length <= a.length) (ha : a.length <= 1000000) (h : Q (adx p m v a x o)) : Qh F a x o Q := by
 refine ⟨fun h0 => by unfold adx at h; rwa [if_pos h0] at h, fun h0 => ?_⟩; unfold adx at h; rw [if_neg h0] at h; refine ⟨fun y z => ∃ t : Nat, z = t /\ t <= o.length /\ y.length = a.length /\ ∀ k, k < a.length -> vo y k = if k < t then vo (adm p m v a x o) k else vo a k, fun y z => (o.length - z).toNat, ⟨0, rfl, Nat.zero_le _, rfl, fun k hk => by simp⟩, ?_⟩; rintro y _ ⟨t, rfl, ht, hy, hk⟩; dsimp only; rw [JU, JU]; refine ⟨fun hlt => ⟨fun y' => y'.length = a.length /\ ∀ k, k < a.length -> vo y' k = if k < t + 1 then vo (adm p m v a x o) k else vo a k, ⟨⟨by omega, by omega⟩, fun hne => ⟨⟨by omega, by omega⟩, _, Jml K rfl, _, v_Add K rfl, ⟨by omega, by omega⟩, ?_⟩, fun he => ?_⟩, ?_⟩, fun hge => ?_⟩
 .rw [Qk]; refine ⟨by rw [List.length_set]; exact hy, fun k hk' => ?_⟩; rw [J5]; by_cases e : t = k
  .subst e; rw [if_pos ⟨rfl, by omega⟩, if_pos (by omega), Jaw hk', if_neg hne, hk t hk', if_neg (by omega)]; rfl
  .rw [if_neg (fun h => e h.1), hk k hk']; by_cases hkt : k < t
   .rw [if_pos hkt, if_pos (by omega)]
   .rw [if_neg hkt, if_neg (by omega)]
 .have he' : vo o t = 0 := Classical.not_not.1 he; refine ⟨hy, fun k hk' => ?_⟩; rw [hk k hk']; by_cases e : k = t
  .subst e; rw [if_neg (by omega), if_pos (by omega), Jaw hk', if_pos he']
  .by_cases hkt : k < t
   .rw [if_pos hkt, if_pos (by omega)]
   .rw [if_neg hkt, if_neg (by omega)]
 .rintro y' ⟨h1, h2⟩; exact ⟨Jz (by omega) (by omega), ⟨t + 1, by push_cast; rfl, by omega, h1, h2⟩, by omega⟩
 .have : y = adm p m v a x o := QY (by rw [Jcv]; exact hy) fun i hi => by
   rw [hk i (by omega)]; by_cases hit : i < t
   .rw [if_pos hit]
   .rw [if_neg hit, Jaw (by omega), if_pos (Jdc (by omega))]
  rw [this]; exact h
theorem Jsq {x : Int} {l : LI} {Q : LI -> Prop} (K : GFk F p m v g) (hl : l.length <= 1000) (h : Q (sc p m v x l)) : Jbr F x l Q := Qc5 K hl fun r h1 h2 => by
 have : r = sc p m v x l := QY (by rw [Jff]; exact h1) fun i hi => by rw [h2 i (by omega), Jhi (by omega)]; rfl
 rw [this]; exact h
theorem Jyt {x : Int} {l : LI} {Q : LI -> Prop} (hF : FV P M mf p m v) (hl : l.length <= 1000) (h : Q (sc p m v x l)) : Jew P M mf x l Q := by
 refine ⟨⟨by omega, by omega, by omega⟩, fun y z => ∃ t : Nat, z = t /\ t <= l.length /\ y.length = l.length /\ ∀ k, k < t -> vo y k = vo (sc p m v x l) k, fun y z => (l.length - z).toNat, ⟨0, rfl, Nat.zero_le _, by simp, fun k h => by omega⟩, ?_⟩; rintro y _ ⟨t, rfl, ht, hy, hk⟩; dsimp only; rw [JU]; refine ⟨fun hlt => ⟨⟨by omega, by omega⟩, _, Jpb hF rfl, ⟨by omega, by omega⟩, Jz (by omega) (by omega), ⟨t + 1, by push_cast; rfl, by omega, ?_, fun k hk' => ?_⟩, by omega⟩, fun hge => ?_⟩
 .rw [Qk, List.length_set]; exact hy
 .rw [Qk, J5]; by_cases e : t = k
  .subst e; rw [if_pos ⟨rfl, by omega⟩, Jhi (by omega)]; rfl
  .rw [if_neg (fun h => e h.1)]; exact hk k (by omega)
 .rw [show y = sc p m v x l from QY (by rw [Jff]; exact hy) fun i hi => hk i (by omega)]; exact h
theorem Jmb {a u : LI} {x : Int} {Q : LI -> Prop} (hF : FV P M mf p m v) (hl : a.length <= u.length) (ha : a.length <= 1000000) (h : Q (adm p m v a x u)) : Jce P M mf a x u Q := by
 refine ⟨⟨by omega, by omega, by omega⟩, fun y z => ∃ t : Nat, z = t /\ t <= a.length /\ y.length = a.length /\ ∀ k, k < t -> vo y k = vo (adm p m v a x u) k, fun y z => (a.length - z).toNat, ⟨0, rfl, Nat.zero_le _, by simp, fun k h => by omega⟩, ?_⟩; rintro y _ ⟨t, rfl, ht, hy, hk⟩; dsimp only; rw [JU, JU]; refine ⟨fun hlt => ⟨fun y' => y'.length = a.length /\ ∀ k, k < t + 1 -> vo y' k = vo (adm p m v a x u) k, ⟨⟨by omega, by omega⟩, ⟨by omega, by omega⟩, ⟨by omega, by omega⟩, fun hne => ⟨⟨by omega, by omega⟩, ⟨by omega, by omega⟩, _, Jpb hF rfl, _, v_rAdd hF rfl, ⟨by omega, by omega⟩, ?_⟩, fun he => ?_⟩, ?_⟩, fun hge => ?_⟩
 .rw [Qk, Qk]; refine ⟨by rw [List.length_set, List.length_set]; exact hy, fun k hk' => ?_⟩; rw [J5, List.length_set]; by_cases e : t = k
  .subst e; rw [if_pos ⟨rfl, by omega⟩, Jaw (by omega), if_neg hne]; rfl
  .rw [if_neg (fun h => e h.1), J5, if_neg (fun h => e h.1)]; exact hk k (by omega)
 .have he' : vo u t = 0 := Classical.not_not.1 he; rw [Qk]; refine ⟨by rw [List.length_set]; exact hy, fun k hk' => ?_⟩; rw [J5]; by_cases e : t = k
  .subst e; rw [if_pos ⟨rfl, by omega⟩, Jaw (by omega), if_pos he']
  .rw [if_neg (fun h => e h.1)]; exact hk k (by omega)
 .rintro y' ⟨h1, h2⟩; exact ⟨Jz (by omega) (by omega), ⟨t + 1, by push_cast; rfl, by omega, h1, h2⟩, by omega⟩
 .rw [show y = adm p m v a x u from QY (by rw [Jcv]; exact hy) fun i hi => hk i (by omega)]; exact h
theorem Qcx {Q : LL -> Prop} (hX : X.length <= 1000000) (hr : ∀ r ∈ X, r.length <= 1000000) (h : Q X) : Jg6 X Q := by
 refine ⟨fun x z => ∃ t : Nat, z = t /\ t <= X.length /\ x = X.take t, fun x z => (X.length - z).toNat, ⟨0, rfl, Nat.zero_le _, rfl⟩, ?_⟩; rintro _ _ ⟨t, rfl, ht, rfl⟩; dsimp only; refine ⟨fun hlt => ?_, fun hge => by rw [List.take_of_length_le (by omega)]; exact h⟩; have h1 := hr _ (Ja1 (t := t) (X := X) (by omega)); refine ⟨⟨by omega, by omega⟩, ?_, ?_, Jz (by omega) (by omega), ⟨t + 1, by push_cast; rfl, by omega, ?_⟩, by omega⟩
 .show ((0 : Nat) + ((row X t).length : Nat) : Int) * 8 <= _; omega
 .rw [List.length_take]; omega
 .show X.take t ++ [[] ++ row X t] = _; rw [List.take_add_one, Zi (d := []) (by omega)]; rfl
theorem Jma {a : LI} {Q : Bool -> Prop} (ha : a.length <= 1000000) (h : Q true) : QP a a Q := by
 refine ⟨fun hne => absurd rfl hne, fun _ => ⟨fun z => ∃ t : Nat, z = t /\ t <= a.length, fun z => (a.length - z).toNat, ⟨0, rfl, Nat.zero_le _⟩, ?_⟩⟩; rintro _ ⟨t, rfl, ht⟩; dsimp only; exact ⟨fun hlt => ⟨⟨by omega, by omega⟩, ⟨by omega, by omega⟩, fun hne => absurd rfl hne, fun _ => ⟨Jz (by omega) (by omega), ⟨t + 1, by push_cast; rfl, by omega⟩, by omega⟩⟩, fun _ => h⟩
theorem Jl9 {Q : Bool -> Prop} (hX : X.length <= 1000000) (hr : ∀ r ∈ X, r.length <= 1000000) (h : Q true) : QG X X Q := by
 refine ⟨fun hne => absurd rfl hne, fun _ => ⟨fun z => ∃ t : Nat, z = t /\ t <= X.length, fun z => (X.length - z).toNat, ⟨0, rfl, Nat.zero_le _⟩, ?_⟩⟩; rintro _ ⟨t, rfl, ht⟩; dsimp only; exact ⟨fun hlt => ⟨⟨by omega, by omega⟩, ⟨by omega, by omega⟩, _, Jma (hr _ (Ja1 (t := t) (X := X) (by omega))) rfl, fun h => absurd h (by decide), fun _ => ⟨Jz (by omega) (by omega), ⟨t + 1, by push_cast; rfl, by omega⟩, by omega⟩⟩, fun _ => h⟩
theorem Jkc {C : Int} {Q : Bool -> Prop} (hX : X.length <= 1000000) (hr : ∀ r ∈ X, r.length <= 1000000) (h : Q true) : Je0 C X C X Q := ⟨fun _ => Jl9 hX hr h, fun hne => absurd rfl hne⟩
theorem Jyx {C : Int} {n : Int} {Q : Bool -> Prop} (hn : 0 <= n /\ n <= 1000000) (h1 : C <= 260 -> X.length <= n -> (∀ r ∈ X, (r.length : Int) <= n) -> Q true) (h2 : Q false) : Jiw C X n Q := by
 refine ⟨fun _ => h2, fun hC => ⟨fun _ => h2, fun hX => ⟨Jz (by omega) (by omega), fun y z => ∃ t : Nat, z = t /\ t <= X.length /\ 0 <= y /\ y <= n /\ ∀ k, k < t -> ((row X k).length : Int) <= n, fun y z => (X.length - z).toNat, ⟨0, rfl, Nat.zero_le _, by omega, by omega, fun k h => by omega⟩, ?_⟩⟩⟩; rintro y _ ⟨t, rfl, ht, hy, hy2, hk⟩; dsimp only; refine ⟨fun hlt => ⟨⟨by omega, by omega⟩, fun _ => h2, fun hge => ?_⟩, fun hge => h1 (by omega) (by omega) fun r hr => ?_⟩
 .have hge' : ((row X t).length : Int) <= y := by
   have : ¬ (y < (((row X t).length : Nat) : Int)) := hge; omega
  have hg : gl X (t : Int) = row X t := rfl; rw [hg]; refine ⟨⟨by omega, by omega⟩, Jz (by omega) (by omega), Jz (by omega) (by omega), ⟨t + 1, by push_cast; rfl, by omega, by omega, by omega, fun k hk' => ?_⟩, by omega⟩; rcases Nat.lt_or_ge k t with h | h
  .exact hk k h
  .rw [show k = t by omega]; omega
 .obtain ⟨t', h3, rfl⟩ := ZN hr; exact hk t' (by omega)
end
end Go.Proofs.YtngdhnijkgjhcaaGreat
namespace Go.Proofs.YtngdhnijkgjhcaaGreat
structure Shp (n w wy : Nat) (S : ES) : Prop where
  xl : S.X.length = n
  xr : ∀ t, t < n -> (row S.X t).length = w
  yl : S.Y.length = n
  yr : ∀ t, t < n -> (row S.Y t).length = wy
  pl : S.pv.length <= n
section
variable {p m v n w wy : Nat}
theorem Jmo {X : LL} {i j t w : Nat} (hi : i < X.length) (hj : j < X.length) (h : ∀ t, t < X.length -> (row X t).length = w) (ht : t < X.length) : (row (swp X i j) t).length = w := by
 rw [Ja0 hi hj]; split
 .exact h _ hi
 .split
  .exact h _ hj
  .exact h _ ht
def swq (X : LL) (r cur : Nat) : LL := if r = cur then X else swp X r cur
theorem J9 (X : LL) (r cur : Nat) : (swq X r cur).length = X.length := by
 unfold swq; split
 .rfl
 .exact Jgs ..
theorem Yd {X : LL} {i j t w : Nat} (hi : i < X.length) (hj : j < X.length) (h : ∀ t, t < X.length -> (row X t).length = w) (ht : t < X.length) : (row (swq X i j) t).length = w := by
 unfold swq; split
 .exact h _ ht
 .exact Jmo hi hj h ht
def scq (p m v : Nat) (X : LL) (cur : Nat) (e : Int) : LL := X.set cur (sc p m v (Iv p m v e) (row X cur))
theorem QK (X : LL) (cur : Nat) (e : Int) : (scq p m v X cur e).length = X.length := by simp [scq]
theorem Yf {X : LL} {cur t w : Nat} {e : Int} (hc : cur < X.length) (h : ∀ t, t < X.length -> (row X t).length = w) (ht : t < X.length) : (row (scq p m v X cur e) t).length = w := by
 unfold scq; rw [Qn]; split
 .rw [Jff]; exact h _ hc
 .exact h _ ht
theorem Jgg {X : LL} {f : Nat -> Int} {cur t w : Nat} (h : ∀ t, t < X.length -> (row X t).length = w) (ht : t < X.length) : (row (clr p m v f cur X) t).length = w := by
 rw [ZK ht]; split
 .exact h _ ht
 .rw [Jes]; exact h _ ht
theorem Jdi (c r cur : Nat) (S : ES) : (es1 p m v c r cur S).X = clr p m v (fun t => Ng p m (vo (row (scq p m v (swq S.X r cur) cur (vo (row (swq S.X r cur) cur) c)) t) c)) cur (scq p m v (swq S.X r cur) cur (vo (row (swq S.X r cur) cur) c)) := rfl
theorem Qa2 (c r cur : Nat) (S : ES) : (es1 p m v c r cur S).Y = clr p m v (fun t => Ng p m (vo (row (scq p m v (swq S.X r cur) cur (vo (row (swq S.X r cur) cur) c)) t) c)) cur (scq p m v (swq S.Y r cur) cur (vo (row (swq S.X r cur) cur) c)) := rfl
theorem Qd8 {c r cur : Nat} {S : ES} (h : Shp n w wy S) (hr : r < n) (hc : cur < n) (hp : S.pv.length < n) : Shp n w wy (es1 p m v c r cur S) := by
 have hx := h.xl; have hy := h.yl; have ax : ∀ t, t < S.X.length -> (row S.X t).length = w := fun t ht => h.xr t (by omega); have ay : ∀ t, t < S.Y.length -> (row S.Y t).length = wy := fun t ht => h.yr t (by omega); refine ⟨?_, fun t ht => ?_, ?_, fun t ht => ?_, ?_⟩
 .rw [Jdi, Zj, QK, J9]; exact hx
 .rw [Jdi]; refine Jgg (fun t ht => ?_) (by rw [QK, J9]; omega); rw [QK, J9] at ht; refine Yf (by rw [J9]; omega) (fun t ht => ?_) (by rw [J9]; omega); rw [J9] at ht; exact Yd (by omega) (by omega) ax ht
 .rw [Qa2, Zj, QK, J9]; exact hy
 .rw [Qa2]; refine Jgg (fun t ht => ?_) (by rw [QK, J9]; omega); rw [QK, J9] at ht; refine Yf (by rw [J9]; omega) (fun t ht => ?_) (by rw [J9]; omega); rw [J9] at ht; exact Yd (by omega) (by omega) ay ht
 .show (S.pv ++ [(c : Int)]).length <= n; rw [List.length_append]; simp; omega
theorem Jvk {c : Nat} {S : ES} (h : Shp n w wy S) : Shp n w wy (Yo p m v S c) := by
 unfold Yo; split
 .rename_i hc
  exact Qd8 h (by have := h.xl; omega) (by have := h.xl; omega) (by have := h.xl; omega)
 .exact h
theorem Q7 (k : Nat) (S : ES) : elim p m v (k + 1) S = Yo p m v (elim p m v k S) k := by
 unfold elim; rw [List.range_succ, List.foldl_append]; rfl
theorem ZA {S : ES} (h : Shp n w wy S) : ∀ k, Shp n w wy (elim p m v k S)
 | 0 => h
 | k + 1 => by rw [Q7]; exact Jvk (ZA h k)
theorem Jfz {S : ES} {k : Nat} (h : ¬ (elim p m v k S).pv.length < (elim p m v k S).X.length) : ∀ j, elim p m v (k + j) S = elim p m v k S
 | 0 => rfl
 | j + 1 => by
  rw [<- Nat.add_assoc, Q7, Jfz h j]; unfold Yo; rw [if_neg (fun hc => h hc.1)]
end
section
variable {F : GFv} {p m v g : Nat} {P M : Int} {mf : LI} {X Y : LL}
theorem Jup (R : CR (p ^ m) (J0 p m) (Jv p m (dv p v))) {x : Int} {z : Nat} (hx : inE (p ^ m) x < p ^ m) (hz : z < p ^ m) (h : Jv p m (dv p v) z (inE (p ^ m) x) = 1) : Iv p m v x = (z : Int) := by
 unfold Iv; cases hf : (List.range (p ^ m)).find? fun z => Jv p m (dv p v) z (inE (p ^ m) x) == 1 with
 | none =>
  have := List.find?_eq_none.1 hf z (List.mem_range.2 hz); simp [h] at this
 | some y =>
  have h1 := List.find?_some hf; have h2 := List.mem_range.1 (List.mem_of_find?_eq_some hf); have h1' : Jv p m (dv p v) y (inE (p ^ m) x) = 1 := by simpa using h1
  show (y : Int) = z; have e : y = z := by
   have q1 : 1 < p ^ m := R.q2
   calc y = Jv p m (dv p v) y 1 := (R.M1 h2).symm
    _ = Jv p m (dv p v) y (Jv p m (dv p v) z (inE (p ^ m) x)) := by rw [h]
    _ = Jv p m (dv p v) y (Jv p m (dv p v) (inE (p ^ m) x) z) := by rw [R.Mc hz hx]
    _ = Jv p m (dv p v) (Jv p m (dv p v) y (inE (p ^ m) x)) z := (R.Ma h2 hx hz).symm
    _ = Jv p m (dv p v) 1 z := by rw [h1']
    _ = Jv p m (dv p v) z 1 := R.Mc q1 hz
    _ = z := R.M1 hz
  rw [e]
theorem Qfa (R : CR (p ^ m) (J0 p m) (Jv p m (dv p v))) {x : Int} (hx : inE (p ^ m) x = 0) : Iv p m v x = 0 := by
 unfold Iv; cases hf : (List.range (p ^ m)).find? fun z => Jv p m (dv p v) z (inE (p ^ m) x) == 1 with
 | none => rfl
 | some y =>
  have h1 := List.find?_some hf; have h2 := List.mem_range.1 (List.mem_of_find?_eq_some hf); rw [hx, R.M0 h2] at h1; simp at h1
def prt (p m v : Nat) (f : Nat -> Int) (cur t : Nat) (X : LL) : LL := (List.range X.length).map fun s => if s < t /\ s ≠ cur then adx p m v (row X s) (f s) (row X cur) else row X s
theorem YD (f : Nat -> Int) (cur t : Nat) (X : LL) : (prt p m v f cur t X).length = X.length := by simp [prt]
theorem Yk {f : Nat -> Int} {cur t s : Nat} (h : s < X.length) : row (prt p m v f cur t X) s = if s < t /\ s ≠ cur then adx p m v (row X s) (f s) (row X cur) else row X s := Jck h
theorem Jhz (f : Nat -> Int) (cur : Nat) : prt p m v f cur 0 X = X := QL (YD ..) fun i hi => by
 rw [YD] at hi; rw [Yk hi, if_neg (by omega)]
theorem Jku (f : Nat -> Int) (cur : Nat) : prt p m v f cur X.length X = clr p m v f cur X := QL (by rw [YD, Zj]) fun i hi => by
 rw [YD] at hi; rw [Yk hi, ZK hi]; by_cases h : i = cur
 .rw [if_neg (fun hh => hh.2 h), if_pos h]
 .rw [if_pos ⟨hi, h⟩, if_neg h]
theorem prt_same {f : Nat -> Int} {cur : Nat} : prt p m v f cur (cur + 1) X = prt p m v f cur cur X := QL (by rw [YD, YD]) fun i hi => by
 rw [YD] at hi; rw [Yk hi, Yk hi]; by_cases h : i = cur
 .rw [if_neg (fun hh => hh.2 h), if_neg (fun hh => hh.2 h)]
 .by_cases h1 : i < cur
  .rw [if_pos ⟨by omega, h⟩, if_pos ⟨h1, h⟩]
  .rw [if_neg (fun hh => h1 (by omega)), if_neg (fun hh => h1 hh.1)]
theorem Jeg {f : Nat -> Int} {cur t : Nat} (ht : t < X.length) (hc : t ≠ cur) : (prt p m v f cur t X).set t (adx p m v (row X t) (f t) (row X cur)) = prt p m v f cur (t + 1) X := QL (by rw [List.length_set, YD, YD]) fun i hi => by
 rw [List.length_set, YD] at hi; rw [Qn, YD, Yk (t := t + 1) hi]; by_cases h : t = i
 .subst h; rw [if_pos ⟨rfl, ht⟩, if_pos ⟨by omega, hc⟩]
 .rw [if_neg (fun hh => h hh.1), Yk hi]; by_cases h1 : i < t
  .by_cases h2 : i = cur
   .rw [if_neg (fun hh => hh.2 h2), if_neg (fun hh => hh.2 h2)]
   .rw [if_pos ⟨h1, h2⟩, if_pos ⟨by omega, h2⟩]
  .rw [if_neg (fun hh => h1 hh.1), if_neg (fun hh => h1 (by omega))]
theorem Jme {cols wy : Nat} {Q : LI × Int × LL × LL -> Prop} (K : GFk F p m v g) (hX : X.length <= 300) (hc : cols <= 300) (hw : wy <= 300) (hS : Shp X.length cols wy ⟨X, Y, [], 1⟩)
  (h : Q ((elim p m v cols ⟨X, Y, [], 1⟩).pv, (elim p m v cols ⟨X, Y, [], 1⟩).d, (elim p m v cols ⟨X, Y, [], 1⟩).X, (elim p m v cols ⟨X, Y, [], 1⟩).Y)) : Ze F cols X Y Q := by
 have hYl : Y.length = X.length := hS.yl; generalize hS0 : (⟨X, Y, [], 1⟩ : ES) = S0 at h hS; refine ⟨fun a b c d => (⟨a, b, c, d⟩ : ES) = elim p m v cols S0, ⟨fun a b c d z => ∃ k : Nat, z = k /\ k <= cols /\ (⟨a, b, c, d⟩ : ES) = elim p m v k S0, fun _ _ _ _ z => (cols - z).toNat, ⟨0, rfl, Nat.zero_le _, hS0⟩, ?_⟩, ?_⟩
 .rintro a b c d _ ⟨k, rfl, hk, he⟩; have hs := ZA (p := p) (m := m) (v := v) hS k; have hstop := Jfz (p := p) (m := m) (v := v) (S := S0) (k := k); have hsucc := Q7 (p := p) (m := m) (v := v) k S0; rw [<- he] at hs hstop hsucc; have hal : a.length = X.length := hs.xl; have hbl : b.length = X.length := hs.yl; have har := hs.xr; have hbr := hs.yr; have hpl : c.length <= X.length := hs.pl; simp only at har hbr; refine ⟨fun hlt => ⟨fun hlc => ?_, fun hge => ?_⟩, fun hge => ?_⟩
  .have hcur : c.length < X.length := by omega
   have hkc : k < cols := by omega
   refine ⟨fun pv x y d' _ _ => (⟨x, y, pv, d'⟩ : ES) = elim p m v (k + 1) S0, Qc0 (by omega) (by omega) (fun t ht => by rw [har t (by omega)]; exact hkc) ?_, ?_⟩
   .refine ⟨fun heq => ?_, fun hne => ?_⟩
    .rw [hsucc]; unfold Yo; rw [if_neg (fun hh => by have := hh.2; simp only at this; omega)]
    .have hnz := (Ja8 a k c.length (by omega)).1; have hr : nz a k c.length < X.length := by omega
     generalize hrr : nz a k c.length = r at hr hne; rw [show Yo p m v ⟨a, b, c, d⟩ k = es1 p m v k r c.length ⟨a, b, c, d⟩ by unfold Yo; rw [if_pos ⟨by simp only; omega, by simp only; omega⟩, <- hrr]] at hsucc; refine ⟨fun x y d' => x = swq a r c.length /\ y = swq b r c.length /\ d' = (if r = c.length then d else Ng p m d), ⟨fun hrc => ⟨⟨by omega, by omega⟩, ⟨by omega, by omega⟩, ⟨by omega, by omega⟩, ⟨by omega, by omega⟩, ⟨by omega, by omega⟩, ⟨by omega, by omega⟩, ⟨by omega, by omega⟩, ⟨by omega, by omega⟩, Jsu K ?_⟩, fun hrc => ?_⟩, ?_⟩
     .have hrc' : r ≠ c.length := fun e => hrc (by rw [e]); refine ⟨?_, ?_, by rw [if_neg hrc']; rfl⟩
      .unfold swq; rw [if_neg hrc']; rfl
      .unfold swq; rw [if_neg hrc']; rfl
     .have hrc' : r = c.length := by have := Classical.not_not.1 hrc; omega
      refine ⟨?_, ?_, by rw [if_pos hrc']⟩
      .unfold swq; rw [if_pos hrc']
      .unfold swq; rw [if_pos hrc']
     .rintro _ _ _ ⟨rfl, rfl, rfl⟩; have hx1 : ∀ t, t < X.length -> (row (swq a r c.length) t).length = cols := fun t ht => Yd (by omega) (by omega) (fun t ht => har t (by omega)) (by omega); have hy1 : ∀ t, t < X.length -> (row (swq b r c.length) t).length = wy := fun t ht => Yd (by omega) (by omega) (fun t ht => hbr t (by omega)) (by omega); have hl1 := J9 a r c.length; have hl2 := J9 b r c.length; have hxs := Jdi (p := p) (m := m) (v := v) k r c.length ⟨a, b, c, d⟩; have hys := Qa2 (p := p) (m := m) (v := v) k r c.length ⟨a, b, c, d⟩; have hds : (es1 p m v k r c.length ⟨a, b, c, d⟩).d = Ml p m v (if r = c.length then d else Ng p m d) (vo (row (swq a r c.length) c.length) k) := rfl; have hps : (es1 p m v k r c.length ⟨a, b, c, d⟩).pv = c ++ [(k : Int)] := rfl; simp only at hxs hys; generalize swq a r c.length = x1 at *
      generalize swq b r c.length = y1 at *
      have he1 : gi (gl x1 (c.length : Nat)) (k : Int) = vo (row x1 c.length) k := rfl; refine ⟨⟨by omega, by omega⟩, ⟨by omega, ?_⟩, _, Jml K rfl, fun z => z = Iv p m v (vo (row x1 c.length) k), ⟨⟨by omega, by omega⟩, ⟨by omega, ?_⟩, Iv p m v (vo (row x1 c.length) k), ?_⟩, ?_⟩
      .show (k : Int) < ((row x1 c.length).length : Nat); rw [hx1 _ hcur]; omega
      .show (k : Int) < ((row x1 c.length).length : Nat); rw [hx1 _ hcur]; omega
      .by_cases h0 : inE (p ^ m) (vo (row x1 c.length) k) = 0
       .exact ⟨7, v_Inv K (fun _ => by rw [Qfa K.fv.ring h0]) (fun z h1 => absurd h0 h1), rfl⟩
       .exact ⟨0, v_Inv K (fun h1 => absurd h1 h0) (fun z h1 h2 h3 => by have e := Jup (x := vo (row x1 c.length) k) K.fv.ring (J6 (by have := K.fv.ring.q2; omega) _) h2 h3; rw [e]), rfl⟩
      .rintro _ rfl; have hsx : sll x1 (c.length : Int) (sc p m v (Iv p m v (vo (row x1 c.length) k)) (row x1 c.length)) = scq p m v x1 c.length (vo (row x1 c.length) k) := rfl; have hsy : sll y1 (c.length : Int) (sc p m v (Iv p m v (vo (row x1 c.length) k)) (row y1 c.length)) = scq p m v y1 c.length (vo (row x1 c.length) k) := rfl; refine ⟨⟨by omega, by omega⟩, _, Jsq K (by show (row x1 c.length).length <= 1000; rw [hx1 _ hcur]; omega) rfl, ⟨by omega, by omega⟩, ⟨by omega, by omega⟩, _, Jsq K (by show (row y1 c.length).length <= 1000; rw [hy1 _ hcur]; omega) rfl, ⟨by omega, by omega⟩, ?_⟩; have hx2 : ∀ t, t < X.length -> (row (scq p m v x1 c.length (vo (row x1 c.length) k)) t).length = cols := fun t ht => Yf (by omega) (fun t ht => hx1 t (by omega)) (by omega); have hy2 : ∀ t, t < X.length -> (row (scq p m v y1 c.length (vo (row x1 c.length) k)) t).length = wy := fun t ht => Yf (by omega) (fun t ht => hy1 t (by omega)) (by omega); have hl3 := QK (p := p) (m := m) (v := v) x1 c.length (vo (row x1 c.length) k); have hl4 := QK (p := p) (m := m) (v := v) y1 c.length (vo (row x1 c.length) k); generalize scq p m v x1 c.length (vo (row x1 c.length) k) = x2 at *
       generalize scq p m v y1 c.length (vo (row x1 c.length) k) = y2 at *
       have hfm : ∀ t, t < X.length -> vo (row (prt p m v (fun t => Ng p m (vo (row x2 t) k)) c.length t x2) t) k = vo (row x2 t) k := fun t ht => by
        rw [Yk (by omega), if_neg (by omega)]
       generalize hf : (fun t => Ng p m (vo (row x2 t) k)) = f at *
       refine ⟨fun x y z => ∃ t : Nat, z = t /\ t <= X.length /\ x = prt p m v f c.length t x2 /\ y = prt p m v f c.length t y2, fun x y z => (X.length - z).toNat, ⟨0, rfl, Nat.zero_le _, hsx.trans (Jhz _ _).symm, hsy.trans (Jhz _ _).symm⟩, ?_⟩; rintro _ _ _ ⟨t, rfl, ht, rfl, rfl⟩; refine ⟨fun hlt2 => ?_, fun hge2 => ?_⟩
       .have htX : t < X.length := by omega
        have hg1 : gl (prt p m v f c.length t x2) (t : Int) = row x2 t := by
         show row (prt p m v f c.length t x2) t = _; rw [Yk (by omega), if_neg (by omega)]
        have hg2 : gl (prt p m v f c.length t y2) (t : Int) = row y2 t := by
         show row (prt p m v f c.length t y2) t = _; rw [Yk (by omega), if_neg (by omega)]
        have hg3 : gl (prt p m v f c.length t x2) (c.length : Int) = row x2 c.length := by
         show row (prt p m v f c.length t x2) c.length = _; rw [Yk (by omega), if_neg (by omega)]
        have hg4 : gl (prt p m v f c.length t y2) (c.length : Int) = row y2 c.length := by
         show row (prt p m v f c.length t y2) c.length = _; rw [Yk (by omega), if_neg (by omega)]
        rw [hg1, hg2, hg3, hg4]; have hft : Ng p m (gi (row x2 t) (k : Int)) = f t := by rw [<- hf]; rfl
        refine ⟨fun x y z => x = prt p m v f c.length (t + 1) x2 /\ y = prt p m v f c.length (t + 1) y2, ⟨⟨by omega, by omega⟩, ⟨by omega, by rw [hx2 t htX]; omega⟩, _, Jsu K rfl, fun hne2 => ?_, fun he2 => ?_⟩, ?_⟩
        .have hne3 : t ≠ c.length := fun e => hne2 (by rw [e]); have hne4 : (c.length : Int).toNat ≠ (t : Int).toNat := by omega
         refine ⟨⟨by omega, by omega⟩, ⟨by omega, by omega⟩, hne4, ZW K (by rw [hx2 t htX, hx2 _ hcur]; exact Nat.le_refl _) (by rw [hx2 t htX]; omega) ⟨⟨by omega, by omega⟩, ⟨by omega, by omega⟩, hne4, ZW K (by rw [hy2 t htX, hy2 _ hcur]; exact Nat.le_refl _) (by rw [hy2 t htX]; omega) ⟨?_, ?_⟩⟩⟩
         .show (prt p m v f c.length t x2).set t (adx p m v (row x2 t) (Ng p m (gi (row x2 t) (k : Int))) (row x2 c.length)) = _; rw [hft, Jeg (by omega) hne3]
         .show (prt p m v f c.length t y2).set t (adx p m v (row y2 t) (Ng p m (gi (row x2 t) (k : Int))) (row y2 c.length)) = _; rw [hft, Jeg (by omega) hne3]
        .have he3 : t = c.length := by have := Classical.not_not.1 he2; omega
         subst he3; exact ⟨prt_same.symm, prt_same.symm⟩
        .rintro _ _ _ ⟨rfl, rfl⟩; refine ⟨Jz (by omega) (by omega), ⟨t + 1, by push_cast; rfl, by omega, rfl, rfl⟩, ?_⟩; show ((X.length : Int) - ((t : Int) + 1)).toNat < ((X.length : Int) - (t : Int)).toNat; omega
       .have hte : t = X.length := by omega
        subst hte; refine ⟨by omega, ?_⟩; have e1 := Jku (p := p) (m := m) (v := v) (X := x2) f c.length; have e2 := Jku (p := p) (m := m) (v := v) (X := y2) f c.length; rw [show x2.length = X.length by omega] at e1; rw [show y2.length = X.length by omega] at e2; rw [e1, e2, hsucc]; rw [<- hxs, <- hys]; show (⟨_, _, c ++ [(k : Int)], _⟩ : ES) = _; rw [<- hps]; show (⟨(es1 p m v k r c.length ⟨a, b, c, d⟩).X, (es1 p m v k r c.length ⟨a, b, c, d⟩).Y, (es1 p m v k r c.length ⟨a, b, c, d⟩).pv, Ml p m v (if r = c.length then d else Ng p m d) (vo (row x1 c.length) k)⟩ : ES) = _; rw [<- hds]
   .rintro pv x y d' _ _ hE; refine ⟨Jz (by omega) (by omega), ⟨k + 1, by push_cast; rfl, by omega, hE⟩, ?_⟩; show ((cols : Int) - ((k : Int) + 1)).toNat < ((cols : Int) - (k : Int)).toNat; omega
  .have hst := hstop (by show ¬ c.length < a.length; omega) (cols - k); rw [show k + (cols - k) = cols by omega] at hst; exact hst.symm
  .show (⟨a, b, c, d⟩ : ES) = _; rw [he, show k = cols by omega]
 .rintro a b c d he; rw [<- he] at h; exact h
end
end Go.Proofs.YtngdhnijkgjhcaaGreat
namespace Go.Proofs.YtngdhnijkgjhcaaGreat
section
variable {p m v n w wy : Nat}
theorem Jf0 {q : Nat} (h : q < p ^ m) : El p m (q : Int) := ⟨by omega, by omega⟩
theorem Z3 {l : LI} (h : Elr p m l) {t : Nat} (ht : t < l.length) : El p m (vo l t) := h _ (Jav ht)
theorem Qb {X : LL} (h : Els p m X) (t : Nat) : Elr p m (row X t) := by
 rcases Nat.lt_or_ge t X.length with ht | ht
 .exact h _ (Ja1 ht)
 .rw [row_hi ht]; exact fun x hx => by cases hx
theorem Zz {X : LL} (h : ∀ t, t < X.length -> Elr p m (row X t)) : Els p m X := fun r hr => by
 obtain ⟨t, ht, rfl⟩ := ZN hr; exact h t ht
theorem Jdu {l : LI} (h : ∀ t, t < l.length -> El p m (vo l t)) : Elr p m l := fun x hx => by
 obtain ⟨t, ht, rfl⟩ := Jp4 hx; exact h t ht
theorem Jzv (hp : 0 < p) {x : Int} {l : LI} : Elr p m (sc p m v x l) := Jdu fun t ht => by
 rw [Jff] at ht; rw [Jhi ht]; exact Jf0 (Jlg hp _ _)
theorem Qej (hp : 0 < p) {a o : LI} {x : Int} (ha : Elr p m a) : Elr p m (adm p m v a x o) := Jdu fun t ht => by
 rw [Jcv] at ht; rw [Jaw ht]; split
 .exact Z3 ha ht
 .exact Jf0 (Jtt hp _ _)
theorem Jls (hp : 0 < p) {a o : LI} {x : Int} (ha : Elr p m a) : Elr p m (adx p m v a x o) := by
 unfold adx; split
 .exact ha
 .exact Qej hp ha
theorem Jlh (hp : 0 < p) {c r cur : Nat} {S : ES} (h : Els p m S.X) (hr : r < S.X.length) (hc : cur < S.X.length) : Els p m (es1 p m v c r cur S).X := by
 rw [Jdi]; have h1 : Els p m (swq S.X r cur) := Zz fun t ht => by
  rw [J9] at ht; unfold swq; split
  .exact Qb h t
  .rw [Ja0 hr hc]; split
   .exact Qb h _
   .split <;> exact Qb h _
 have h2 : ∀ e, Els p m (scq p m v (swq S.X r cur) cur e) := fun e => Zz fun t ht => by
  unfold scq; rw [Qn]; split
  .exact Jzv hp
  .exact Qb h1 t
 refine Zz fun t ht => ?_; rw [Zj] at ht; rw [ZK ht]; split
 .exact Qb (h2 _) t
 .exact Jls hp (Qb (h2 _) t)
theorem Jvl (hp : 0 < p) {c : Nat} {S : ES} (h : Els p m S.X) : Els p m (Yo p m v S c).X := by
 unfold Yo; split
 .rename_i hc; exact Jlh hp h hc.2 hc.1
 .exact h
theorem Jb6 (hp : 0 < p) {S : ES} (h : Els p m S.X) : ∀ k, Els p m (elim p m v k S).X
 | 0 => h
 | k + 1 => by rw [Q7]; exact Jvl hp (Jb6 hp h k)
end
section
variable {F : GFv} {p m v g : Nat} {P M : Int} {mf : LI} {X Y : LL}
theorem Z2 {x : Int} (h : El p m x) : ((inE (p ^ m) x : Nat) : Int) = x := by
 unfold inE; rw [if_pos (show 0 <= x /\ x < ((p ^ m : Nat) : Int) from h)]; have := h.1; omega
theorem Jk8 (hF : FV P M mf p m v) {x : Int} (h : El p m x) : Ng p m x = 0 ↔ x = 0 := by
 have R := hF.ring; have hp := hF.p2; have hx := J6 (q := p ^ m) (by have := R.q2; omega) x; have h1 := Q2 (p := p) (m := m) (by omega) hx; constructor
 .intro h0; have h2 : QH p m (inE (p ^ m) x) = 0 := Int.ofNat.inj h0; rw [h2, R.Az hx] at h1; rw [<- Z2 h, h1]; rfl
 .intro h0; have h3 : inE (p ^ m) x = 0 := by rw [h0]; unfold inE; split <;> rfl
  rw [h3] at h1; show ((QH p m (inE (p ^ m) x) : Nat) : Int) = 0; rw [h3]; have h4 : QH p m 0 < p ^ m := Yb (by omega) 0; have h5 : J0 p m 0 (QH p m 0) = QH p m 0 := by rw [R.Ac, R.Az h4]
  rw [h5] at h1; rw [h1]; rfl
theorem ml_one (hF : FV P M mf p m v) {x : Int} (h : El p m x) : Ml p m v 1 x = x := by
 have R := hF.ring; have hq := R.q2; have hx := J6 (q := p ^ m) (by omega) x; unfold Ml; rw [show inE (p ^ m) (1 : Int) = 1 from Qt (x := 1) (by omega), R.Mc (by omega) hx, R.M1 hx]; exact Z2 h
theorem Qap (hF : FV P M mf p m v) : Iv p m v 1 = 1 := by
 have R := hF.ring; have hq := R.q2; have e1 : inE (p ^ m) (1 : Int) = 1 := Qt (x := 1) (by omega); exact Jup R (z := 1) (by rw [e1]; omega) (by omega) (by rw [e1]; exact R.M1 (by omega))
theorem Jzu (hF : FV P M mf p m v) {l : LI} (h : Elr p m l) : sc p m v 1 l = l := QY (Jff _ _) fun i hi => by
 rw [Jff] at hi; rw [Jhi hi, ml_one hF (Z3 h hi)]
theorem w_rInv {x : Int} {Q : Int -> Prop} (hF : FV P M mf p m v) (h : Q (Iv p m v x)) : Jlw P M mf x Q := by
 have hq := hF.q; have R := hF.ring; have hq2 := R.q2; have hxl := J6 (q := p ^ m) (by omega) x; refine ⟨fun z => ∃ n : Nat, z = n /\ 1 <= n /\ n <= p ^ m /\ ∀ k, k < n -> Jv p m (dv p v) (inE (p ^ m) x) k ≠ 1, fun z => (((p ^ m : Nat) : Int) - z).toNat, ⟨1, rfl, Nat.le_refl 1, by omega, fun k hk => by
  rw [show k = 0 by omega, R.M0 hxl]; omega⟩, ?_⟩
 rintro _ ⟨n, rfl, hn1, hn, hk⟩; refine Jhk ?_; rw [hF.ord]; dsimp only; refine ⟨fun hlt => Jpb hF ?_, fun hge => ?_⟩
 .have hnq : n < p ^ m := Int.ofNat_lt.1 hlt; rw [Qt hnq]; refine ⟨fun he => ?_, fun hne => ⟨Jz (by omega) (by omega), ⟨n + 1, by push_cast; rfl, by omega, by omega, fun k hk' => ?_⟩, by omega⟩⟩
  .have h1 : Jv p m (dv p v) (inE (p ^ m) x) n = 1 := Int.ofNat.inj he; rw [<- Jup R hxl hnq (by rw [R.Mc hnq hxl]; exact h1)]; exact h
  .rcases Nat.lt_or_ge k n with h | h
   .exact hk k h
   .rw [show k = n by omega]; exact fun e => hne (by rw [e]; rfl)
 .have e : Iv p m v x = 0 := by
   unfold Iv; cases hf : (List.range (p ^ m)).find? fun z => Jv p m (dv p v) z (inE (p ^ m) x) == 1 with
   | none => rfl
   | some y =>
    have h1 := List.find?_some hf; have h2 := List.mem_range.1 (List.mem_of_find?_eq_some hf); have h1' : Jv p m (dv p v) y (inE (p ^ m) x) = 1 := by simpa using h1
    exact absurd (by rw [R.Mc hxl h2]; exact h1') (hk y (by omega))
  rw [e] at h; exact h
theorem Ji5 {cols W wy : Nat} {d0 : Int} {Q : LL × LI -> Prop} (hF : FV P M mf p m v) (hX : X.length <= 300) (hc : cols <= W) (hW : W <= 1000) (hS : Shp X.length W wy ⟨X, Y, [], d0⟩) (hE : Els p m X)
  (h : Q ((elim p m v cols ⟨X, Y, [], d0⟩).X, (elim p m v cols ⟨X, Y, [], d0⟩).pv)) : Yn P M mf X cols Q := by
 have hp2 := hF.p2; have hE0 : ∀ k, Els p m (elim p m v k ⟨X, Y, [], d0⟩).X := Jb6 (by omega) hE; have hXr : ∀ r ∈ X, r.length <= 1000000 := fun r hr => by
  obtain ⟨t, ht, rfl⟩ := ZN hr; have := hS.xr t ht; simp only at this; omega
 refine Qcx (by omega) hXr ?_; generalize hS0 : (⟨X, Y, [], d0⟩ : ES) = S0 at h hS hE0; have hX0 : X = S0.X := by rw [<- hS0]
 have hP0 : ([] : LI) = S0.pv := by rw [<- hS0]
 refine ⟨fun a c => a = (elim p m v cols S0).X /\ c = (elim p m v cols S0).pv, ⟨fun a c z y => ∃ k : Nat, y = k /\ k <= cols /\ a = (elim p m v k S0).X /\ c = (elim p m v k S0).pv /\ z = ((elim p m v k S0).pv.length : Nat), fun _ _ _ y => (cols - y).toNat, ⟨0, rfl, Nat.zero_le _, hX0, hP0, by show (0 : Int) = ((S0.pv.length : Nat) : Int); rw [<- hP0]; rfl⟩, ?_⟩, ?_⟩
 .rintro _ _ _ _ ⟨k, rfl, hk, rfl, rfl, rfl⟩; have hs := ZA (p := p) (m := m) (v := v) hS k; have hstop := Jfz (p := p) (m := m) (v := v) (S := S0) (k := k); have hsucc := Q7 (p := p) (m := m) (v := v) k S0; have hek := hE0 k; generalize hSk : elim p m v k S0 = S at *
  have hal := hs.xl; have har := hs.xr; have hpl := hs.pl; refine ⟨fun hlt => ⟨fun hlc => ?_, fun hge => ?_⟩, fun hge => ?_⟩
  .have hcur : S.pv.length < X.length := by omega
   have hkc : k < cols := by omega
   have hsp := Ja8 S.X k S.pv.length (by omega); refine ⟨fun pv x z _ _ _ _ => x = (elim p m v (k + 1) S0).X /\ pv = (elim p m v (k + 1) S0).pv /\ z = ((elim p m v (k + 1) S0).pv.length : Nat), ⟨fun r _ _ => r = ((nz S.X k S.pv.length : Nat) : Int), ⟨fun z _ => ∃ t : Nat, z = t /\ S.pv.length <= t /\ t <= X.length /\ ∀ s, S.pv.length <= s -> s < t -> vo (row S.X s) k = 0, fun z _ => (X.length - z).toNat, ⟨_, rfl, Nat.le_refl _, by omega, fun s h1 h2 => by omega⟩, ?_⟩, ?_⟩, ?_⟩
   .rintro _ _ ⟨t, rfl, h1, h2, h3⟩; dsimp only; refine ⟨fun hlt2 => ⟨⟨by omega, by omega⟩, ⟨by omega, by show (k : Int) < ((row S.X t).length : Nat); rw [har t (by omega)]; omega⟩, fun he => ⟨Jz (by omega) (by omega), ⟨t + 1, by push_cast; rfl, by omega, by omega, fun s hs1 hs2 => ?_⟩, by omega⟩, fun hne => ?_⟩, fun hge2 => ?_⟩
    .rcases Nat.lt_or_ge s t with h | h
     .exact h3 s hs1 h
     .rw [show s = t by omega]; exact he
    .exact congrArg _ (Jnl h1 (by omega) h3 fun _ => hne)
    .exact congrArg _ (Jnl h1 (by omega) h3 fun h => by omega)
   .rintro _ _ _ rfl; refine ⟨fun heq => ?_, fun hne => ?_⟩
    .have e : elim p m v (k + 1) S0 = S := by
      rw [hsucc]; unfold Yo; rw [if_neg (fun hh => by have := hh.2; omega)]
     rw [e]; exact ⟨rfl, rfl, rfl⟩
    .have hr : nz S.X k S.pv.length < X.length := by have := hsp.1; omega
     have hge := Jtk S.X k S.pv.length; generalize hrr : nz S.X k S.pv.length = r at hr hge hsp; rw [show Yo p m v S k = es1 p m v k r S.pv.length S by unfold Yo; rw [if_pos ⟨by omega, by omega⟩, <- hrr]] at hsucc; have hsw : sll (sll S.X ((S.pv.length : Nat) : Int) (gl S.X (r : Int))) (r : Int) (gl S.X ((S.pv.length : Nat) : Int)) = swq S.X r S.pv.length := by
      show swp S.X S.pv.length r = _; unfold swq; split
      .rename_i e; rw [e]; exact Jzo (by omega)
      .exact Jzp (by omega) (by omega)
     refine ⟨True, ⟨⟨by omega, by omega⟩, ⟨by omega, by omega⟩, ⟨by omega, by omega⟩, ⟨by omega, by omega⟩, trivial⟩, fun _ => ?_⟩; rw [hsw]; have hx1 : ∀ t, t < X.length -> (row (swq S.X r S.pv.length) t).length = W := fun t ht => Yd (by omega) (by omega) (fun t ht => har t (by omega)) (by omega); have hl1 := J9 S.X r S.pv.length; have hes : Els p m (es1 p m v k r S.pv.length S).X := Jlh (by omega) hek (by omega) (by omega); have hxs := Jdi (p := p) (m := m) (v := v) k r S.pv.length S; have hps : (es1 p m v k r S.pv.length S).pv = S.pv ++ [(k : Int)] := rfl; have hel1 : Els p m (swq S.X r S.pv.length) := Zz fun t ht => by
      rw [J9] at ht; unfold swq; split
      .exact Qb hek t
      .rw [Ja0 (by omega) (by omega)]; split
       .exact Qb hek _
       .split <;> exact Qb hek _
     generalize swq S.X r S.pv.length = x1 at *
     refine ⟨⟨by omega, by omega⟩, ⟨by omega, by show (k : Int) < ((row x1 S.pv.length).length : Nat); rw [hx1 _ hcur]; omega⟩, fun x => x = scq p m v x1 S.pv.length (vo (row x1 S.pv.length) k), ⟨fun hne1 => ⟨⟨by omega, by omega⟩, ⟨by omega, by show (k : Int) < ((row x1 S.pv.length).length : Nat); rw [hx1 _ hcur]; omega⟩, _, w_rInv hF rfl, ⟨by omega, by omega⟩, _, Jyt hF (by show (row x1 S.pv.length).length <= 1000; rw [hx1 _ hcur]; omega) rfl, ⟨by omega, by omega⟩, rfl⟩, fun he1 => ?_⟩, ?_⟩
     .have he2 : vo (row x1 S.pv.length) k = 1 := Classical.not_not.1 he1; unfold scq; rw [he2, Qap hF, Jzu hF (Qb hel1 _)]; refine (QL (by rw [List.length_set]) fun i hi => ?_).symm; rw [Qn]; split
      .rename_i h; rw [h.1]
      .rfl
     .rintro _ rfl; have hx2 : ∀ t, t < X.length -> (row (scq p m v x1 S.pv.length (vo (row x1 S.pv.length) k)) t).length = W := fun t ht => Yf (by omega) (fun t ht => hx1 t (by omega)) (by omega); have hl3 := QK (p := p) (m := m) (v := v) x1 S.pv.length (vo (row x1 S.pv.length) k); have hel2 : Els p m (scq p m v x1 S.pv.length (vo (row x1 S.pv.length) k)) := Zz fun t ht => by
       unfold scq; rw [Qn]; split
       .exact Jzv (by omega)
       .exact Qb hel1 t
      generalize scq p m v x1 S.pv.length (vo (row x1 S.pv.length) k) = x2 at *
      generalize hf : (fun t => Ng p m (vo (row x2 t) k)) = f at *
      refine ⟨fun x z => ∃ t : Nat, z = t /\ t <= X.length /\ x = prt p m v f S.pv.length t x2, fun x z => (X.length - z).toNat, ⟨0, rfl, Nat.zero_le _, (Jhz _ _).symm⟩, ?_⟩; rintro _ _ ⟨t, rfl, ht, rfl⟩; refine ⟨fun hlt2 => ?_, fun hge2 => ?_⟩
      .have htX : t < X.length := by omega
       have hg1 : gl (prt p m v f S.pv.length t x2) (t : Int) = row x2 t := by
        show row (prt p m v f S.pv.length t x2) t = _; rw [Yk (by omega), if_neg (by omega)]
       have hg3 : gl (prt p m v f S.pv.length t x2) ((S.pv.length : Nat) : Int) = row x2 S.pv.length := by
        show row (prt p m v f S.pv.length t x2) S.pv.length = _; rw [Yk (by omega), if_neg (by omega)]
       rw [hg1, hg3]; have hft : Ng p m (gi (row x2 t) (k : Int)) = f t := by rw [<- hf]; rfl
       have hent : El p m (vo (row x2 t) k) := Z3 (Qb hel2 t) (by rw [hx2 t htX]; omega); have hz := Jk8 hF hent; refine ⟨fun x _ => x = prt p m v f S.pv.length (t + 1) x2, ⟨fun hne2 => ?_, fun he2 => ?_⟩, ?_⟩
       .have hne3 : t ≠ S.pv.length := fun e => hne2 (by rw [e]); refine ⟨⟨by omega, by omega⟩, ⟨by omega, by rw [hx2 t htX]; omega⟩, fun hnz => ?_, fun hnz => ?_⟩
        .refine ⟨⟨by omega, by omega⟩, ⟨by omega, by omega⟩, ⟨by omega, by rw [hx2 t htX]; omega⟩, _, Jpa hF rfl, ⟨by omega, by omega⟩, _, Jmb hF (by rw [hx2 t htX, hx2 _ hcur]; exact Nat.le_refl _) (by rw [hx2 t htX]; omega) rfl, ⟨by omega, by omega⟩, ?_⟩; rw [<- Jeg (by omega) hne3, <- hft]; show _ = (prt p m v f S.pv.length t x2).set t (adx p m v (row x2 t) (Ng p m (vo (row x2 t) k)) (row x2 S.pv.length)); unfold adx; rw [if_neg (fun h0 => hnz (hz.1 h0))]; rfl
        .have hnz' : vo (row x2 t) k = 0 := Classical.not_not.1 hnz; rw [<- Jeg (by omega) hne3, <- hft]; show prt p m v f S.pv.length t x2 = (prt p m v f S.pv.length t x2).set t (adx p m v (row x2 t) (Ng p m (vo (row x2 t) k)) (row x2 S.pv.length)); unfold adx; rw [if_pos (hz.2 hnz')]; refine QL (by rw [List.length_set]) fun i hi => ?_; rw [Qn]; split
         .rename_i hh; rw [<- hh.1]; exact hg1
         .rfl
       .have he3 : t = S.pv.length := by have := Classical.not_not.1 he2; omega
        subst he3; exact prt_same.symm
       .rintro _ _ rfl; refine ⟨Jz (by omega) (by omega), ⟨t + 1, by push_cast; rfl, by omega, rfl⟩, ?_⟩; show ((X.length : Int) - ((t : Int) + 1)).toNat < ((X.length : Int) - (t : Int)).toNat; omega
      .have hte : t = X.length := by omega
       subst hte; have e1 := Jku (p := p) (m := m) (v := v) (X := x2) f S.pv.length; rw [show x2.length = X.length by omega] at e1; refine ⟨by omega, Jz (by omega) (by omega), ?_⟩; rw [hsucc, e1, hxs, hps]; exact ⟨rfl, rfl, by rw [List.length_append]; simp⟩
   .rintro _ _ _ _ _ _ _ ⟨rfl, rfl, rfl⟩; refine ⟨Jz (by omega) (by omega), ⟨k + 1, by push_cast; rfl, by omega, rfl, rfl, rfl⟩, ?_⟩; show ((cols : Int) - ((k : Int) + 1)).toNat < ((cols : Int) - (k : Int)).toNat; omega
  .have hst := hstop (by omega) (cols - k); rw [show k + (cols - k) = cols by omega] at hst; rw [hst]; exact ⟨rfl, rfl⟩
  .have hkc : k = cols := by omega
   subst hkc; exact ⟨by rw [hSk], by rw [hSk]⟩
 .rintro _ _ ⟨rfl, rfl⟩; exact h
theorem Jkd {cols wy : Nat} {d0 : Int} {Q : LL × LI -> Prop} (hF : FV P M mf p m v) (hX : X.length <= 300) (hc : cols <= 300) (hS : Shp X.length cols wy ⟨X, Y, [], d0⟩) (hE : Els p m X)
 (h : Q ((elim p m v cols ⟨X, Y, [], d0⟩).X, (elim p m v cols ⟨X, Y, [], d0⟩).pv)) : Yn P M mf X cols Q := Ji5 hF hX (Nat.le_refl _) (by omega) hS hE h
end
end Go.Proofs.YtngdhnijkgjhcaaGreat
namespace Go.Proofs.YtngdhnijkgjhcaaGreat
section
variable {F : GFv} {p m v g : Nat} {P M : Int} {mf : LI} {X Y : LL} {C : Int}
def Jyr (P M : Int) (mf : LI) (X : LL) : Prop := ∃ p m v, FV P M mf p m v /\ Els p m X
open Classical in
noncomputable def mck (P M : Int) (mf : LI) (C : Int) (X : LL) : Int := if ¬ Zd P M mf then 1 else if ¬ shp C X then 3 else if ¬ Jyr P M mf X then 2 else 0
theorem FV.uniq {p' m' v' : Nat} (h : FV P M mf p m v) (h' : FV P M mf p' m' v') : p = p' /\ m = m' := ⟨by have := h.eP; have := h'.eP; omega, by have := h.eM; have := h'.eM; omega⟩
theorem QT (h : FV P M mf p m v) : Jyr P M mf X ↔ Els p m X := ⟨fun ⟨p', m', v', h1, h2⟩ => by obtain ⟨rfl, rfl⟩ := h.uniq h1; exact h2, fun h2 => ⟨p, m, v, h, h2⟩⟩
theorem Jib (h : ¬ Zd P M mf) : mck P M mf C X = 1 := if_pos h
theorem Jcp (h : Zd P M mf) (hs : ¬ shp C X) : mck P M mf C X = 3 := by unfold mck; rw [if_neg (fun hh => hh h), if_pos hs]
theorem Jgv (h : Zd P M mf) (hs : shp C X) (he : ¬ Jyr P M mf X) : mck P M mf C X = 2 := by unfold mck; rw [if_neg (fun hh => hh h), if_neg (fun hh => hh hs), if_pos he]
theorem Jdt (h : Zd P M mf) (hs : shp C X) (he : Jyr P M mf X) : mck P M mf C X = 0 := by unfold mck; rw [if_neg (fun hh => hh h), if_neg (fun hh => hh hs), if_neg (fun hh => hh he)]
theorem Jae (h : mck P M mf C X = 0) : Zd P M mf /\ shp C X /\ Jyr P M mf X := by
 by_cases h1 : Zd P M mf
 .by_cases h2 : shp C X
  .by_cases h3 : Jyr P M mf X
   .exact ⟨h1, h2, h3⟩
   .rw [Jgv h1 h2 h3] at h; exact absurd h (by decide)
  .rw [Jcp h1 h2] at h; exact absurd h (by decide)
 .rw [Jib h1] at h; exact absurd h (by decide)
theorem QZ (h : shp C X) : X.length <= 256 := h.2.2.1
theorem Qe (h : shp C X) {t : Nat} (ht : t < X.length) : (row X t).length = C.toNat := by
 have := h.2.2.2 _ (Ja1 ht); have := h.1; omega
noncomputable def Jh1 (P M : Int) (mf : LI) : List Mt -> Int
  | [] => 0
  | (C, X) :: ms => if mck P M mf C X = 0 then Jh1 P M mf ms else mck P M mf C X
theorem Jyy {ms : List Mt} {Q : Option GFv × Int -> Prop} (hl : ms.length <= 1000) (hno : ¬ Zd P M mf -> Q (none, 1))
  (h : ∀ (F : GFv) (p m v g : Nat), GFk F p m v g -> FV P M mf p m v -> Jh1 P M mf ms = 0 -> Q (some F, 0)) (hb : Zd P M mf -> Jh1 P M mf ms ≠ 0 -> Q (none, Jh1 P M mf ms)) : Z5 P M mf ms Q := by
 refine v_New (fun hn => ⟨fun h0 => ⟨h0, hno hn⟩, fun h0 => absurd (show (1 : Int) ≠ 0 by decide) h0⟩) fun F p m v g K eP eM emf => ⟨fun h0 => absurd rfl h0, fun _ => ?_⟩
 have hF : FV P M mf p m v := by rw [<- eP, <- eM, <- emf]; exact K.fv
 have hV : Zd P M mf := ⟨p, m, v, hF⟩
 refine ⟨fun z => ∃ t : Nat, z = t /\ t <= ms.length /\ Jh1 P M mf (ms.drop t) = Jh1 P M mf ms, fun z => (ms.length - z).toNat, ⟨0, rfl, Nat.zero_le _, rfl⟩, ?_⟩; rintro _ ⟨t, rfl, ht, he⟩; refine ⟨fun hlt => ?_, fun hge => ?_⟩
 .have htl : t < ms.length := by omega
  have hd : ms.drop t = gm ms t :: ms.drop (t + 1) := by
   rw [List.drop_eq_getElem_cons htl]
   congr 1
   unfold gm; show _ = ms.getD t (0, []); rw [List.getD_eq_getElem?_getD, List.getElem?_eq_getElem htl]; rfl
  rw [hd] at he; generalize gm ms t = mt at *
  obtain ⟨C, X⟩ := mt; simp only [Jh1] at he; dsimp only; refine ⟨⟨by omega, by omega⟩, Jo5 (fun hs => ⟨fun h => absurd h (by decide), fun _ => ?_⟩) (fun hs => ⟨fun _ => ⟨by decide, ?_⟩, fun h => absurd h (by decide)⟩)⟩
  .refine ⟨fun z => ∃ s : Nat, z = s /\ s <= X.length /\ ∀ k, k < s -> Elr p m (row X k), fun z => (X.length - z).toNat, ⟨0, rfl, Nat.zero_le _, fun k hk => by omega⟩, ?_⟩; rintro _ ⟨s, rfl, hs1, hs2⟩; have hX : X.length <= 256 := QZ hs; dsimp only; refine ⟨fun hlt2 => ⟨⟨by omega, by omega⟩, Ji7 K (by show (row X s).length <= _; rw [Qe hs (by omega)]; have := hs.2.1; omega) (fun hel => ⟨fun h => absurd h (by decide), fun _ => ⟨Jz (by omega) (by omega), ⟨s + 1, by push_cast; rfl, by omega, fun k hk => ?_⟩, by omega⟩⟩) (fun hel => ⟨fun _ => ⟨by decide, ?_⟩, fun h => absurd h (by decide)⟩)⟩, fun hge2 => ?_⟩
   .rcases Nat.lt_or_ge k s with h | h
    .exact hs2 k h
    .rw [show k = s by omega]; exact hel
   .have e : mck P M mf C X = 2 := Jgv hV hs fun hv => hel (Qb ((QT hF).1 hv) s); rw [e, if_neg (by decide)] at he; have := hb hV (by rw [<- he]; decide)
    rwa [<- he] at this
   .have e : mck P M mf C X = 0 := Jdt hV hs ((QT hF).2 (Zz fun k hk => hs2 k (by omega))); rw [e, if_pos rfl] at he; exact ⟨Jz (by omega) (by omega), ⟨t + 1, by push_cast; rfl, by omega, he⟩, by omega⟩
  .have e : mck P M mf C X = 3 := Jcp hV hs; rw [e, if_neg (by decide)] at he; have := hb hV (by rw [<- he]; decide)
   rwa [<- he] at this
 .rw [show t = ms.length by omega, List.drop_length] at he; exact h F p m v g K hF he.symm
theorem Jh0 : Jh1 P M mf [(C, X)] = mck P M mf C X := by
 simp only [Jh1]; split
 .rename_i h; exact h.symm
 .rfl
theorem Jm3 {C' : Int} {X' : LL} : Jh1 P M mf [(C, X), (C', X')] = if mck P M mf C X = 0 then mck P M mf C' X' else mck P M mf C X := by
 show (if mck P M mf C X = 0 then Jh1 P M mf [(C', X')] else mck P M mf C X) = _; rw [Jh0]
theorem Jd6 {Q : Option GFv × Int -> Prop} (hb : mck P M mf C X ≠ 0 -> Q (none, mck P M mf C X))
    (h : ∀ (F : GFv) (p m v g : Nat), GFk F p m v g -> FV P M mf p m v -> shp C X -> Els p m X -> mck P M mf C X = 0 -> Q (some F, 0)) : Z5 P M mf [(C, X)] Q := by
  refine Jyy (by simp) (fun hn => ?_) (fun F p m v g K hF he => ?_) (fun hV he => ?_)
  . have := hb (by rw [Jib hn]; decide); rwa [Jib hn] at this
  . rw [Jh0] at he
    obtain ⟨_, h2, h3⟩ := Jae he
    exact h F p m v g K hF h2 ((QT hF).1 h3) he
  . rw [Jh0] at he ⊢; exact hb he
theorem Jmd {Q : Int -> Prop} (h : Q (mck P M mf C X)) : Jcf P M mf C X Q := Jd6 (fun _ _ => h) (fun F p m v g K hF h1 h2 h3 => by show Q 0; rw [<- h3]; exact h)
theorem Juq {Q : Int -> Prop} (h : Q (mck P M mf C X)) : Jcz P M mf C X Q := by
 refine Jzd ?_; by_cases hV : Zd P M mf
 .rw [Jj3 hV]; refine ⟨fun h0 => absurd rfl h0, fun _ => ⟨fun h0 => ?_, fun h0 => ⟨fun h1 => ?_, fun h1 => ⟨fun h2 => ?_, fun h2 => ?_⟩⟩⟩⟩
  .rw [Jcp hV fun s => by have := s.1; omega] at h; exact h
  .rw [Jcp hV fun s => by have := s.2.1; omega] at h; exact h
  .rw [Jcp hV fun s => by have := s.2.2.1; omega] at h; exact h
  .refine ⟨fun z => ∃ t : Nat, z = t /\ t <= X.length /\ ∀ k, k < t -> ((row X k).length : Int) = C, fun z => (X.length - z).toNat, ⟨0, rfl, Nat.zero_le _, fun k hk => by omega⟩, ?_⟩; rintro _ ⟨t, rfl, ht, hk⟩; dsimp only; refine ⟨fun hlt => ⟨⟨by omega, by omega⟩, fun hne => ?_, fun he => ⟨Jz (by omega) (by omega), ⟨t + 1, by push_cast; rfl, by omega, fun k hk' => ?_⟩, by omega⟩⟩, fun hge => ?_⟩
   .rw [Jcp hV fun s => hne (s.2.2.2 _ (Ja1 (by omega)))] at h; exact h
   .rcases Nat.lt_or_ge k t with h | h
    .exact hk k h
    .rw [show k = t by omega]; exact Classical.not_not.1 he
   .have hs : shp C X := ⟨by omega, by omega, by omega, fun r hr => by obtain ⟨s, h3, rfl⟩ := ZN hr; exact hk s (by omega)⟩
    obtain ⟨p, m, v, hF⟩ := hV; refine ⟨fun r z => r = 0 /\ ∃ s : Nat, z = s /\ s <= X.length /\ ∀ k, k < s -> Elr p m (row X k), fun _ z => (X.length - z).toNat, ⟨rfl, 0, rfl, Nat.zero_le _, fun k hk => by omega⟩, ?_⟩; rintro _ _ ⟨rfl, s, rfl, hs1, hs2⟩; dsimp only; refine ⟨fun hlt2 => ⟨⟨by omega, by omega⟩, ?_⟩, fun hge2 => ?_⟩
    .have hrl : (row X s).length <= 1000000 := by rw [Qe hs (by omega)]; have := hs.2.1; omega
     by_cases hel : Elr p m (row X s)
     .refine ⟨0, Jdm hF hrl (fun _ => rfl) (fun h => absurd hel h), fun h0 => absurd rfl h0, fun _ => ⟨Jz (by omega) (by omega), ⟨rfl, s + 1, by push_cast; rfl, by omega, fun k hk' => ?_⟩, by omega⟩⟩; rcases Nat.lt_or_ge k s with h | h
      .exact hs2 k h
      .rw [show k = s by omega]; exact hel
     .refine ⟨2, Jdm hF hrl (fun h => absurd h hel) (fun _ => rfl), fun _ => ?_, fun h0 => absurd (by decide) h0⟩; rw [Jgv ⟨p, m, v, hF⟩ hs fun hv => hel (Qb ((QT hF).1 hv) s)] at h; exact h
    .rw [Jdt ⟨p, m, v, hF⟩ hs ((QT hF).2 (Zz fun k hk' => hs2 k (by omega)))] at h; exact h
 .rw [Zb hV]; rw [Jib hV] at h; exact ⟨fun _ => h, fun h0 => absurd (by decide) h0⟩
def ec (p m v : Nat) (C : Int) (X : LL) : ES := elim p m v C.toNat ⟨X, List.replicate X.length [], [], 1⟩
def JQ (p m v : Nat) (C : Int) (X : LL) : LL := (ec p m v C X).X.take (ec p m v C X).pv.length
def JG (p m v : Nat) (C : Int) (X : LL) : LI := (ec p m v C X).pv
theorem Qdc {n t : Nat} {l : LI} (h : t < n) : row (List.replicate n l) t = l := by
 unfold row; rw [List.getD_eq_getElem?_getD, List.getElem?_replicate, if_pos h]; rfl
theorem shp_S0 (hs : shp C X) {Z : LL} {wz : Nat} {d : Int} (hZ : Z.length = X.length) (hz : ∀ t, t < X.length -> (row Z t).length = wz) : Shp X.length C.toNat wz ⟨X, Z, [], d⟩ := ⟨rfl, fun t ht => Qe hs ht, hZ, hz, Nat.zero_le _⟩
theorem Jay (hs : shp C X) : Shp X.length C.toNat 0 ⟨X, List.replicate X.length [], [], 1⟩ := shp_S0 hs (by simp) fun t ht => by rw [Qdc ht]; rfl
theorem QQ (hs : shp C X) : X.length <= 256 /\ C.toNat <= 256 /\ ((C.toNat : Nat) : Int) = C := ⟨hs.2.2.1, by have := hs.2.1; omega, by have := hs.1; omega⟩
theorem Jmv (hs : shp C X) : ∀ r ∈ X, r.length <= 1000000 := fun r hr => by have := hs.2.2.2 r hr; have := hs.2.1; omega
theorem Jbf (hs : shp C X) : Shp X.length C.toNat 0 (ec p m v C X) := ZA (Jay hs) _
theorem Jbw {Q : Int × LL × LI -> Prop} (K : GFk F p m v g) (hs : shp C X) (h : Q (C, JQ p m v C X, JG p m v C X)) : Yy F C X Q := by
 obtain ⟨h1, h2, h3⟩ := QQ hs; refine Jyz (by omega) (Jmv hs) ⟨⟨by omega, by omega, by omega⟩, ?_⟩; show Ze F C X (List.replicate X.length ([] : LI)) _; rw [<- h3]; refine Jme K (by omega) (by omega) (wy := 0) (by omega) (Jay hs) ?_; rw [h3]; have := (Jbf (p := p) (m := m) (v := v) hs).pl; exact ⟨⟨by omega, by show ((ec p m v C X).pv.length : Int) <= _; omega⟩, h⟩
theorem Jmj {Q : Int × LL × LI × Int -> Prop} (hb : mck P M mf C X ≠ 0 -> Q (0, [], [], mck P M mf C X))
  (h : ∀ p m v, FV P M mf p m v -> shp C X -> Els p m X -> mck P M mf C X = 0 -> Q (C, JQ p m v C X, JG p m v C X, 0)) : ZV P M mf C X Q :=
 Jd6 (fun h0 _ => hb h0) fun F p m v g K hF hs he h0 => Jbw K hs (h p m v hF hs he h0)
theorem Jhe {Q : LL × LI -> Prop} (hF : FV P M mf p m v) (hs : shp C X) (he : Els p m X) (h : Q (JQ p m v C X, JG p m v C X)) : Jal P M mf X C Q := by
 obtain ⟨h1, h2, h3⟩ := QQ hs; show Yn P M mf X C _; rw [<- h3]; refine Jkd hF (by omega) (by omega) (Jay hs) he ?_; have h4 := Jbf (p := p) (m := m) (v := v) hs; exact ⟨⟨by omega, by have := h4.pl; have := h4.xl; show ((ec p m v C X).pv.length : Int) <= ((ec p m v C X).X.length : Nat); omega⟩, h⟩
theorem FV.uniq3 {p' m' v' : Nat} (h : FV P M mf p m v) (h' : FV P M mf p' m' v') : p = p' /\ m = m' /\ v = v' := by
 obtain ⟨e1, e2⟩ := h.uniq h'; subst e1; subst e2; refine ⟨rfl, rfl, ?_⟩; by_cases hm : m = 1
 .rw [(h.m1 hm).2, (h'.m1 hm).2]
 .have e1 := h.m2 hm; have e2 := h'.m2 hm; have hp := h.p2; have h3 : dv p v = dv p v' := by rw [<- h.vo, <- h'.vo]
  have h4 := Jdg (p := p) (m := m) (x := v) (by omega) h.vlt; have h5 := Jdg (p := p) (m := m) (x := v') (by omega) h'.vlt; rw [<- h4, <- h5, h3]
end
end Go.Proofs.YtngdhnijkgjhcaaGreat
namespace Go.Proofs.YtngdhnijkgjhcaaGreat
section
variable {p m v : Nat}
def Asc (k : Nat) (l : LI) : Prop := (∀ i, i < l.length -> 0 <= vo l i /\ vo l i < (k : Int)) /\ ∀ i j, i < j -> j < l.length -> vo l i < vo l j
theorem Jd7 {l : LI} {x : Int} {i : Nat} : vo (l ++ [x]) i = if i < l.length then vo l i else if i = l.length then x else 0 := by
 unfold vo; rw [List.getD_eq_getElem?_getD, List.getD_eq_getElem?_getD, List.getElem?_append]; by_cases h : i < l.length
 .rw [if_pos h, if_pos h]
 .rw [if_neg h, if_neg h]; by_cases h2 : i = l.length
  .subst h2; simp
  .rw [if_neg h2]; have : i - l.length ≠ 0 := by omega
   cases hh : i - l.length with
   | zero => omega
   | succ n => simp
theorem Asc.snoc {k : Nat} {l : LI} (h : Asc k l) : Asc (k + 1) (l ++ [(k : Int)]) := by
 refine ⟨fun i hi => ?_, fun i j hij hj => ?_⟩
 .rw [List.length_append] at hi; rw [Jd7]; split
  .rename_i h1; have := h.1 i h1; omega
  .split
   .omega
   .simp at hi; omega
 .rw [List.length_append] at hj; have hj' : j < l.length + 1 := by simpa using hj
  rw [Jd7, Jd7, if_pos (show i < l.length by omega)]; split
  .rename_i h1; exact h.2 i j hij h1
  .rw [if_pos (show j = l.length by omega)]; exact (h.1 i (by omega)).2
theorem Asc.up {k : Nat} {l : LI} (h : Asc k l) : Asc (k + 1) l := ⟨fun i hi => by have := h.1 i hi; omega, h.2⟩
theorem Jil {S : ES} (h : S.pv = []) : ∀ k, Asc k (elim p m v k S).pv
 | 0 => by
  show Asc 0 S.pv; rw [h]; exact ⟨fun i hi => absurd hi (Nat.not_lt_zero i), fun i j _ hj => absurd hj (Nat.not_lt_zero j)⟩
 | k + 1 => by
  have ih := Jil h k; rw [Q7]; unfold Yo; split
  .exact ih.snoc
  .exact ih.up
theorem QA (C : Int) (X : LL) : Asc C.toNat (JG p m v C X) := Jil rfl _
end
section
variable {F : GFv} {p m v g : Nat} {P M : Int} {mf : LI} {X Y : LL} {C : Int}
theorem Jl7 {l : LI} {x : Int} {k : Nat} {Q : Int × Bool -> Prop} (hl : l.length <= 1000000) (hs : Asc k l) (h1 : ∀ i, (∃ j, j < l.length /\ vo l j = x) -> Q (i, true)) (h2 : ∀ i, (¬ ∃ j, j < l.length /\ vo l j = x) -> Q (i, false)) : Jcc l x Q := by
 refine ⟨fun a b => ∃ s t : Nat, a = s /\ b = t /\ s <= t /\ t <= l.length /\ (∀ j, j < s -> vo l j < x) /\ ∀ j, t <= j -> j < l.length -> x <= vo l j, fun a b => (b - a).toNat, ⟨0, l.length, rfl, rfl, Nat.zero_le _, Nat.le_refl _, fun j hj => by omega, fun j hj1 hj2 => by omega⟩, ?_⟩; rintro _ _ ⟨s, t, rfl, rfl, hst, htl, hlo, hhi⟩; dsimp only; refine ⟨fun hlt => ?_, fun hge => ?_⟩
 .obtain ⟨q, hq⟩ : ∃ q : Nat, ((s : Int) + t).fdiv 2 = q := ⟨(s + t) / 2, by
   rw [Int.fdiv_eq_ediv_of_nonneg _ (by decide)]; omega⟩
  have hq2 : q = (s + t) / 2 := by
   have : ((s : Int) + t).fdiv 2 = (((s + t) / 2 : Nat) : Int) := by rw [Int.fdiv_eq_ediv_of_nonneg _ (by decide)]; omega
   omega
  rw [hq]; have hql : q < l.length := by omega
  rw [JU]; refine ⟨Jz (by omega) (by omega), ⟨by omega, by omega⟩, Jz (by omega) (by omega), ⟨by omega, by omega⟩, ?_⟩; show (decide (vo l q ≠ vo l q) = true -> _) /\ (decide (vo l q ≠ vo l q) = false -> _)
  refine ⟨fun h => absurd (of_decide_eq_true h) (fun h => h rfl), fun _ => ⟨fun h => ?_, fun h => ?_⟩⟩
  .have hlt2 := of_decide_eq_true h; refine ⟨Jz (by omega) (by omega), ⟨q + 1, t, by push_cast; rfl, rfl, by omega, htl, fun j hj => ?_, hhi⟩, by omega⟩; rcases Nat.lt_or_ge j q with h3 | h3
   .have := hs.2 j q h3 hql; omega
   .rw [show j = q by omega]; exact hlt2
  .have hge2 := of_decide_eq_false h; refine ⟨⟨s, q, rfl, rfl, by omega, by omega, hlo, fun j hj1 hj2 => ?_⟩, by omega⟩; rcases Nat.eq_or_lt_of_le hj1 with h3 | h3
   .subst h3; omega
   .have := hs.2 q j h3 hj2; omega
 .have hse : s = t := by omega
  subst hse; rw [JU]; refine ⟨fun hlt2 => ⟨⟨by omega, by omega⟩, fun he => h1 _ ⟨s, by omega, he⟩, fun hne => ⟨⟨by omega, by omega⟩, ?_⟩⟩, fun hge2 => ?_⟩
  .have hno : ¬ ∃ j, j < l.length /\ vo l j = x := fun ⟨j, hj, he⟩ => by
    rcases Nat.lt_trichotomy j s with h3 | h3 | h3
    .have := hlo j h3; omega
    .subst h3; exact hne he
    .have := hs.2 s j h3 hj; have := hhi s (Nat.le_refl _) (by omega); omega
   show (decide (vo l s ≠ vo l s) = true -> _) /\ (decide (vo l s ≠ vo l s) = false -> _)
   exact ⟨fun h => absurd (of_decide_eq_true h) (fun h => h rfl), fun _ => h2 _ hno⟩
  .refine h2 _ fun ⟨j, hj, he⟩ => ?_; have := hlo j (by omega); omega
def YX (p m : Nat) (C : Nat) (R : LL) (pv : LI) (t k : Nat) : LI := (List.range k).foldl (fun x i => x.set (vo pv i).toNat (Ng p m (vo (row R i) t))) ((List.replicate C 0).set t 1)
theorem YW (C : Nat) (R : LL) (pv : LI) (t k : Nat) : YX p m C R pv t (k + 1) = (YX p m C R pv t k).set (vo pv k).toNat (Ng p m (vo (row R k) t)) := by
 unfold YX; rw [List.range_succ, List.foldl_append]; rfl
theorem Jhu (C : Nat) (R : LL) (pv : LI) (t : Nat) : ∀ k, (YX p m C R pv t k).length = C
 | 0 => by simp [YX]
 | k + 1 => by rw [YW, List.length_set]; exact Jhu C R pv t k
theorem Jmu (hq : 1 < p ^ m) (hp : 0 < p) (C : Nat) (R : LL) (pv : LI) (t : Nat) : ∀ k, Elr p m (YX p m C R pv t k)
 | 0 => fun x hx => by
  rcases List.mem_or_eq_of_mem_set hx with h | h
  .rw [List.eq_of_mem_replicate h]; exact Jf0 (q := 0) (by omega)
  .rw [h]; exact Jf0 (q := 1) (by omega)
 | k + 1 => fun x hx => by
  rw [YW] at hx; rcases List.mem_or_eq_of_mem_set hx with h | h
  .exact Jmu hq hp C R pv t k x h
  .rw [h]; exact Jf0 (Yb hp _)
theorem Joz {R : LL} {pv : LI} {t : Nat} {Q : LI -> Prop} (K : GFk F p m v g) (hC : 0 <= C /\ C <= 256) (ht : t < C.toNat) (hR : pv.length <= R.length) (hl : pv.length <= 1000000) (hr : ∀ i, i < R.length -> t < (row R i).length) (hp : Asc C.toNat pv)
  (h : Q (YX p m C.toNat R pv t pv.length)) : Jbl F C R pv t Q := by
 refine ⟨⟨by omega, by omega, by omega⟩, ⟨by omega, by omega⟩, fun x z => ∃ k : Nat, z = k /\ k <= pv.length /\ x = YX p m C.toNat R pv t k, fun _ z => (pv.length - z).toNat, ⟨0, rfl, Nat.zero_le _, rfl⟩, ?_⟩; rintro _ _ ⟨k, rfl, hk, rfl⟩; dsimp only; rw [JU]; refine ⟨fun hlt => ⟨⟨by omega, by omega⟩, ⟨by omega, by omega⟩, ⟨by omega, by show (t : Int) < ((row R k).length : Nat); have := hr k (by omega); omega⟩, Jsu K ?_⟩, fun hge => by rw [show k = pv.length by omega]; exact h⟩; have hv : 0 <= gi pv (k : Int) /\ gi pv (k : Int) < ((C.toNat : Nat) : Int) := hp.1 k (by omega); refine ⟨⟨hv.1, by have := hv.2; omega⟩, Jz (by omega) (by omega), ⟨k + 1, by push_cast; rfl, by omega, ?_⟩, by omega⟩; rw [YW]; rfl
def inP (pv : LI) (c : Nat) : Bool := (List.range pv.length).any fun i => vo pv i == (c : Int)
theorem YZ {pv : LI} {c : Nat} : inP pv c = true ↔ ∃ j, j < pv.length /\ vo pv j = (c : Int) := by
 unfold inP; rw [List.any_eq_true]; exact ⟨fun ⟨i, hi, h⟩ => ⟨i, List.mem_range.1 hi, by simpa using h⟩, fun ⟨i, hi, h⟩ => ⟨i, List.mem_range.2 hi, by simpa using h⟩⟩
def bas (p m : Nat) (C : Nat) (R : LL) (pv : LI) (k : Nat) : LL := (List.range k).foldl (fun B c => if inP pv c then B else B ++ [YX p m C R pv c pv.length]) []
theorem YM (C : Nat) (R : LL) (pv : LI) (k : Nat) : bas p m C R pv (k + 1) = if inP pv k then bas p m C R pv k else bas p m C R pv k ++ [YX p m C R pv k pv.length] := by
 unfold bas; rw [List.range_succ, List.foldl_append]; rfl
theorem Jg1 (C : Nat) (R : LL) (pv : LI) : ∀ k, (bas p m C R pv k).length <= k
 | 0 => Nat.le_refl _
 | k + 1 => by
  rw [YM]; have := Jg1 C R pv k; split
  .omega
  .rw [List.length_append]; simp; omega
theorem Jg0 (C : Nat) (R : LL) (pv : LI) : ∀ k, ∀ r ∈ bas p m C R pv k, ∃ c, c < k /\ inP pv c = false /\ r = YX p m C R pv c pv.length
 | 0, r, h => by cases h
 | k + 1, r, h => by
  rw [YM] at h; split at h
  .obtain ⟨c, h1, h2⟩ := Jg0 C R pv k r h; exact ⟨c, by omega, h2⟩
  .rename_i hn
   rcases List.mem_append.1 h with h | h
   .obtain ⟨c, h1, h2⟩ := Jg0 C R pv k r h; exact ⟨c, by omega, h2⟩
   .exact ⟨k, by omega, by simpa using hn, by simpa using h⟩
def Q3 (p m v : Nat) (C : Int) (X : LL) : LL := bas p m C.toNat (JQ p m v C X) (JG p m v C X) C.toNat
theorem QU (hs : shp C X) : shp C (Q3 p m v C X) := by
 obtain ⟨h1, h2, h3⟩ := QQ hs; refine ⟨hs.1, hs.2.1, by have := Jg1 (p := p) (m := m) C.toNat (JQ p m v C X) (JG p m v C X) C.toNat; unfold Q3; omega, fun r hr => ?_⟩; obtain ⟨c, _, _, rfl⟩ := Jg0 _ _ _ _ r hr; rw [Jhu]; exact h3
theorem QV (hF : FV P M mf p m v) : Els p m (Q3 p m v C X) := fun r hr => by
 obtain ⟨c, _, _, rfl⟩ := Jg0 _ _ _ _ r hr; exact Jmu (by have := hF.ring.q2; omega) (by have := hF.p2; omega) _ _ _ _ _
theorem Qz (hs : shp C X) : (JQ p m v C X).length = (JG p m v C X).length := by
 have h0 := Jbf (p := p) (m := m) (v := v) hs; unfold JQ JG; rw [List.length_take]; have h1 := h0.pl; have h2 := h0.xl; omega
theorem Zr {Z : LL} {n t : Nat} (h : t < n) : row (Z.take n) t = row Z t := by
 unfold row; rw [List.getD_eq_getElem?_getD, List.getD_eq_getElem?_getD, List.getElem?_take, if_pos h]
theorem Jb8 (hs : shp C X) {t : Nat} (ht : t < (JQ p m v C X).length) : (row (JQ p m v C X) t).length = C.toNat := by
 have h1 := Jbf (p := p) (m := m) (v := v) hs; rw [Qz hs] at ht; unfold JQ; rw [Zr (n := (ec p m v C X).pv.length) ht]; exact h1.xr t (Nat.lt_of_lt_of_le ht h1.pl)
theorem Zc (hs : shp C X) : shp C (JQ p m v C X) := by
 obtain ⟨h1, h2, h3⟩ := QQ hs; have h4 := Jbf (p := p) (m := m) (v := v) hs; refine ⟨hs.1, hs.2.1, by rw [Qz hs]; have := h4.pl; show (ec p m v C X).pv.length <= 256; omega, fun r hr => ?_⟩; obtain ⟨t, ht, rfl⟩ := ZN hr; rw [Jb8 hs ht]; exact h3
theorem ZB (hs : shp C X) : (JG p m v C X).length <= X.length := (Jbf (p := p) (m := m) (v := v) hs).pl
theorem Jy0 {Q : Int × LL × Int -> Prop} (hb : mck P M mf C X ≠ 0 -> Q (0, [], mck P M mf C X))
  (h : ∀ p m v, FV P M mf p m v -> shp C X -> Els p m X -> mck P M mf C X = 0 -> Q (C, JQ p m v C (Q3 p m v C X), 0)) : YU P M mf C X Q := by
 refine Jd6 (fun h0 _ => hb h0) fun F p m v g K hF hs he h0 => Jbw K hs ?_; obtain ⟨h1, h2, h3⟩ := QQ hs; have hpl := ZB (p := p) (m := m) (v := v) hs; have hcl := Qz (p := p) (m := m) (v := v) hs; have hasc := QA (p := p) (m := m) (v := v) C X; have hrow := fun i (hi : i < (JQ p m v C X).length) => Jb8 (p := p) (m := m) (v := v) hs hi; have hfin := Jbw (Q := fun q => Q (q.1, q.2.1, 0)) K (QU (p := p) (m := m) (v := v) hs) (h p m v hF hs he h0); unfold Q3 at hfin; generalize JQ p m v C X = R at *
 generalize JG p m v C X = pv at *
 refine ⟨fun x z => ∃ k : Nat, z = k /\ k <= C.toNat /\ x = bas p m C.toNat R pv k, fun _ z => (C - z).toNat, ⟨0, rfl, Nat.zero_le _, rfl⟩, ?_⟩; rintro _ _ ⟨k, rfl, hk, rfl⟩; have hbl := Jg1 (p := p) (m := m) C.toNat R pv k; dsimp only; refine ⟨fun hlt => ⟨fun x _ _ => x = bas p m C.toNat R pv (k + 1), Jl7 (by omega) hasc (fun i hin => ⟨fun h => absurd h (by simp), fun _ => ?_⟩) (fun i hin => ⟨fun _ => ⟨_, Joz K ⟨hs.1, hs.2.1⟩ (by omega) (by omega) (by omega) (fun i hi => by rw [hrow i hi]; omega) hasc rfl, by omega, ?_⟩, fun h => absurd h (by simp)⟩), ?_⟩, fun hge => ?_⟩
 .rw [YM, if_pos (YZ.2 hin)]
 .rw [YM, if_neg (fun hh => hin (YZ.1 hh))]
 .rintro _ _ _ rfl; exact ⟨Jz (by omega) (by omega), ⟨k + 1, by push_cast; rfl, by omega, rfl⟩, by omega⟩
 .rw [show k = C.toNat by omega]; exact hfin
end
end Go.Proofs.YtngdhnijkgjhcaaGreat
namespace Go.Proofs.YtngdhnijkgjhcaaGreat
section
variable {F : GFv} {p m v g : Nat} {P M : Int} {mf : LI} {X Y : LL} {C : Int}
open Classical in
noncomputable def sqe (P M : Int) (mf : LI) (C : Int) (X : LL) : Int := if mck P M mf C X ≠ 0 then mck P M mf C X else if (X.length : Int) ≠ C then 3 else 0
def idm (n : Nat) : LL := (List.range n).map fun i => (List.replicate n (0 : Int)).set i 1
def cmb (p m v : Nat) (x : LI) (C : Nat) (X : LL) (k : Nat) : LI := (List.range k).foldl (fun s i => adx p m v s (vo x i) (row X i)) (List.replicate C 0)
theorem Jb7 (x : LI) (C : Nat) (k : Nat) : cmb p m v x C X (k + 1) = adx p m v (cmb p m v x C X k) (vo x k) (row X k) := by
 unfold cmb; rw [List.range_succ, List.foldl_append]; rfl
theorem Jeq (x : LI) (C : Nat) : ∀ k, (cmb p m v x C X k).length = C
 | 0 => by simp [cmb]
 | k + 1 => by rw [Jb7, Jes]; exact Jeq x C k
theorem Jut {x : LI} {Q : LI -> Prop} (K : GFk F p m v g) (hs : shp C X) (hx : x.length = X.length) (h : Q (cmb p m v x C.toNat X X.length)) : Jc4 F x C X Q := by
 obtain ⟨h1, h2, h3⟩ := QQ hs; refine ⟨⟨by omega, by omega, by omega⟩, fun y z => ∃ t : Nat, z = t /\ t <= X.length /\ y = cmb p m v x C.toNat X t, fun _ z => (X.length - z).toNat, ⟨0, rfl, Nat.zero_le _, rfl⟩, ?_⟩; rintro _ _ ⟨t, rfl, ht, rfl⟩; refine ⟨fun hlt => ?_, fun hge => by rw [show t = X.length by omega]; exact h⟩; have hr := Qe hs (t := t) (by omega); have hc := Jeq (p := p) (m := m) (v := v) (X := X) x C.toNat t; refine ⟨⟨by omega, by omega⟩, ⟨by omega, by omega⟩, ZW K (by show (row X t).length <= _; omega) (by omega) ⟨Jz (by omega) (by omega), ⟨t + 1, by push_cast; rfl, by omega, ?_⟩, ?_⟩⟩
 .rw [Jb7]; rfl
 .show ((X.length : Int) - ((t : Int) + 1)).toNat < ((X.length : Int) - (t : Int)).toNat; omega
open Classical in
noncomputable def vce (p m : Nat) (x : LI) (n : Nat) : Int := if x.length ≠ n then 3 else if ¬ Elr p m x then 2 else 0
theorem Jy9 {x : LI} {n : Nat} (h : vce p m x n = 0) : x.length = n /\ Elr p m x := by
 unfold vce at h; split at h
 .exact absurd h (by decide)
 .rename_i h1
  split at h
  .exact absurd h (by decide)
  .rename_i h2; exact ⟨Classical.not_not.1 h1, Classical.not_not.1 h2⟩
def rgt (b : LI) : LL := b.map fun y => [y]
def eb (p m v : Nat) (C : Int) (X : LL) (b : LI) : ES := elim p m v C.toNat ⟨X, rgt b, [], 1⟩
end
theorem islf2 : IsLf 2 2 := ⟨by decide, by decide, fun e h _ => h⟩
theorem fv2 : FV 2 1 [] 2 1 0 := Jfb islf2 (by decide)
def A3 : LL := [[1, 1, 0], [0, 1, 1], [1, 0, 1]]
def A2 : LL := [[1, 2], [3, 4]]
instance (p m : Nat) (x : Int) : Decidable (El p m x) := inferInstanceAs (Decidable (_ /\ _))
theorem vce_ok {p m : Nat} {x : LI} {n : Nat} (h : x.length = n) (he : Elr p m x) : vce p m x n = 0 := by
 unfold vce; rw [if_neg (fun hh => hh h), if_neg (fun hh => hh he)]
end Go.Proofs.YtngdhnijkgjhcaaGreat
namespace Go.Proofs.YtngdhnijkgjhcaaGreat
end Go.Proofs.YtngdhnijkgjhcaaGreat
namespace Go.Proofs.YtngdhnijkgjhcaaGreat
section
variable {F : GFv} {p m v g : Nat} {P M : Int} {mf : LI} {X : LL} {C : Int} {set y : LI}
def pkr (y set : LI) : LI := (List.range set.length).map fun i => vo y (vo set i).toNat
def pks (X : LL) (set : LI) : LL := (List.range X.length).map fun t => pkr (row X t) set
theorem Ja3 : (pkr y set).length = set.length := by simp [pkr]
theorem ZL : (pks X set).length = X.length := by simp [pks]
theorem Jbx {i : Nat} (h : i < set.length) : vo (pkr y set) i = vo y (vo set i).toNat := Jdo h
theorem Jee {t : Nat} (h : t < X.length) : row (pks X set) t = pkr (row X t) set := Jck h
theorem Qcw {Q : LI -> Prop} (hl : set.length <= 1000000) (hin : ∀ i, i < set.length -> 0 <= vo set i /\ vo set i < (y.length : Int)) (h : Q (pkr y set)) : Jg5 y set Q := by
 refine ⟨⟨by omega, by omega, by omega⟩, fun x z => ∃ t : Nat, z = t /\ t <= set.length /\ x.length = set.length /\ ∀ k, k < t -> vo x k = vo (pkr y set) k, fun _ z => (set.length - z).toNat, ⟨0, rfl, Nat.zero_le _, by simp, fun k hk => by omega⟩, ?_⟩; rintro x _ ⟨t, rfl, ht, hx, hk⟩; dsimp only; refine ⟨fun hlt => ?_, fun hge => ?_⟩
 .have htl : t < set.length := by omega
  have hc := hin t htl; refine ⟨⟨by omega, by omega⟩, hc, ⟨by omega, by omega⟩, Jz (by omega) (by omega), ⟨t + 1, by push_cast; rfl, by omega, by rw [Qk, List.length_set]; exact hx, fun k hk' => ?_⟩, by omega⟩; rw [Qk, J5]; by_cases e : t = k
  .subst e; rw [if_pos ⟨rfl, by omega⟩, Jbx htl]; rfl
  .rw [if_neg (fun h => e h.1)]; exact hk k (by omega)
 .rw [show x = pkr y set from QY (by rw [Ja3]; exact hx) fun i hi => hk i (by omega)]; exact h
def bad (C : Int) (set : LI) : Bool := set.any fun c => if c < 0 then true else decide (C <= c)
theorem bad_no (h : bad C set = false) : ∀ i, i < set.length -> 0 <= vo set i /\ vo set i < C := fun i hi => by
 have := List.any_eq_false.1 h (vo set i) (Jav hi); split at this
 .exact absurd rfl this
 .rw [decide_eq_true_eq] at this; omega
noncomputable def colR (P M : Int) (mf : LI) (C : Int) (X : LL) (set : LI) : Int × LL × Int := if mck P M mf C X ≠ 0 then (0, [], mck P M mf C X) else if 256 < set.length then (0, [], 8) else if bad C set = true then (0, [], 6) else ((set.length : Int), pks X set, 0)
theorem Juu {Q : Int × LL × Int -> Prop} (h : ∀ c Z e, colR P M mf C X set = (c, Z, e) -> Q (c, Z, e)) : Jc5 P M mf C X set Q := by
 refine Jd6 (fun h0 _ => h _ _ _ (if_pos h0)) fun F p m v g K hF hs he h0 => ?_; have e0 : colR P M mf C X set = if 256 < set.length then (0, [], 8) else if bad C set = true then (0, [], 6) else ((set.length : Int), pks X set, 0) := if_neg (fun hh => hh h0)
 refine ⟨fun h1 => h _ _ _ (by rw [e0, if_pos (by omega)]), fun h1 => Jdq (f := fun x => if x < 0 then true else decide (C <= x)) (by omega) (fun x R hR => ⟨fun hx => by simpa [hx] using hR, fun hx => by simpa [hx] using hR⟩) ⟨fun hb6 => h _ _ _ (by rw [e0, if_neg (by omega), if_pos (show bad C set = true from hb6)]), fun hb6 => ?_⟩⟩; have hin := bad_no hb6; have hfin := h _ _ _ (by rw [e0, if_neg (by omega), if_neg (by rw [show bad C set = false from hb6]; decide)]); obtain ⟨hX, hC, hC'⟩ := QQ hs; refine ⟨⟨by omega, by omega, by omega⟩, fun x z => ∃ t : Nat, z = t /\ t <= X.length /\ x.length = X.length /\ ∀ k, k < t -> row x k = row (pks X set) k, fun _ z => (X.length - z).toNat, ⟨0, rfl, Nat.zero_le _, by simp, fun k hk => by omega⟩, ?_⟩; rintro x _ ⟨t, rfl, ht, hx, hk⟩; dsimp only; refine ⟨fun hlt => ?_, fun hge => ?_⟩
 .have htl : t < X.length := by omega
  have hr := Qe hs htl; refine ⟨⟨by omega, by omega⟩, ⟨by omega, by omega, by omega⟩, ⟨by omega, by omega⟩, fun y z => ∃ s : Nat, z = s /\ s <= set.length /\ y.length = X.length /\ (∀ k, k < t -> row y k = row (pks X set) k) /\ (row y t).length = set.length /\ ∀ k, k < s -> vo (row y t) k = vo (pkr (row X t) set) k, fun _ z => (set.length - z).toNat, ⟨0, rfl, Nat.zero_le _, by rw [ZJ]; exact hx, fun k hk' => ?_, ?_, fun k hk' => by omega⟩, ?_⟩
  .show row (x.set t _) k = _; rw [Qn, if_neg (fun h => by omega)]; exact hk k hk'
  .show (row (x.set t _) t).length = _; rw [Qn, if_pos ⟨rfl, by omega⟩]; simp
  rintro y _ ⟨s, rfl, hs1, hy, hk1, hyl, hk2⟩; dsimp only; refine ⟨fun hlt2 => ?_, fun hge2 => ⟨Jz (by omega) (by omega), ⟨t + 1, by push_cast; rfl, by omega, hy, fun k hk' => ?_⟩, by omega⟩⟩
  .have hsl : s < set.length := by omega
   have hc := hin s hsl; refine ⟨⟨by omega, by omega⟩, ⟨by omega, by omega⟩, ⟨hc.1, by show vo set s < ((row X t).length : Int); omega⟩, ⟨by omega, by show (s : Int) < ((row y t).length : Int); omega⟩, Jz (by omega) (by omega), ⟨s + 1, by push_cast; rfl, by omega, by rw [ZJ]; exact hy, fun k hk' => ?_, ?_, fun k hk' => ?_⟩, by omega⟩
   .show row (y.set t _) k = _; rw [Qn, if_neg (fun h => by omega)]; exact hk1 k hk'
   .show (row (y.set t ((row y t).set s _)) t).length = _; rw [Qn, if_pos ⟨rfl, by omega⟩, List.length_set]; exact hyl
   .show vo (row (y.set t ((row y t).set s (vo (row X t) (vo set s).toNat))) t) k = _; rw [Qn, if_pos ⟨rfl, by omega⟩, J5]; by_cases e : s = k
    .subst e; rw [if_pos ⟨rfl, by omega⟩, Jbx hsl]
    .rw [if_neg (fun h => e h.1)]; exact hk2 k (by omega)
  .rcases Nat.lt_or_ge k t with h | h
   .exact hk1 k h
   .rw [show k = t by omega, Jee htl]; exact QY (by rw [Ja3]; exact hyl) fun i hi => hk2 i (by omega)
 .rw [show x = pks X set from QL (by rw [ZL]; exact hx) fun i hi => hk i (by omega)]; exact hfin
theorem Qcv {n : Int} {Q : LL -> Prop} (hn : 0 <= n /\ n <= 256) (h : Q (idm n.toNat)) : Jg4 n Q := by
 refine ⟨fun x z => ∃ t : Nat, z = t /\ t <= n.toNat /\ x = (List.range t).map fun i => (List.replicate n.toNat (0 : Int)).set i 1, fun _ z => (n - z).toNat, ⟨0, rfl, Nat.zero_le _, rfl⟩, ?_⟩; rintro _ _ ⟨t, rfl, ht, rfl⟩; dsimp only; refine ⟨fun hlt => ⟨⟨by omega, by omega, by omega⟩, ⟨by omega, by omega⟩, by simp; omega, Jz (by omega) (by omega), ⟨t + 1, by push_cast; rfl, by omega, ?_⟩, by omega⟩, fun hge => ?_⟩
 .rw [List.range_succ, List.map_append]; rfl
 .rw [show t = n.toNat by omega]; exact h
theorem Jur {x : LI} {n : Nat} {Q : Int -> Prop} (hF : FV P M mf p m v) (hn : n <= 1000000) (h : Q (vce p m x n)) : Jc0 P M mf x (n : Int) Q := by
  refine ⟨fun hne => ?_, fun he => ?_⟩
  . have hne' : x.length ≠ n := by omega
    unfold vce at h; rw [if_pos hne'] at h; exact h
  . have he' : x.length = n := by have := Classical.not_not.1 he; omega
    unfold vce at h; rw [if_neg (fun hh => hh he')] at h
    refine Jdm hF (by omega) (fun h1 => ?_) (fun h1 => ?_)
    . rw [if_neg (fun hh => hh h1)] at h; exact h
    . rw [if_pos h1] at h; exact h
end
end Go.Proofs.YtngdhnijkgjhcaaGreat
namespace Go.Proofs.YtngdhnijkgjhcaaGreat
section
variable {p m v : Nat} {P M : Int} {mf : LI} {X Y : LL} {C : Int} {w : Nat}
def en (p m : Nat) (l : LI) : Nat -> Nat := fun c => inE (p ^ m) (vo l c)
structure Lin (p m v w : Nat) (f : (Nat -> Nat) -> Nat) : Prop where
  lt : ∀ a, f a < p ^ m
  cg : ∀ {a b : Nat -> Nat}, (∀ c, c < w -> a c = b c) -> f a = f b
  ad : ∀ {a b : Nat -> Nat} {x : Nat}, (∀ c, a c < p ^ m) -> (∀ c, b c < p ^ m) -> x < p ^ m -> f (fun c => J0 p m (a c) (Jv p m (dv p v) x (b c))) = J0 p m (f a) (Jv p m (dv p v) x (f b))
  ml : ∀ {a : Nat -> Nat} {x : Nat}, (∀ c, a c < p ^ m) -> x < p ^ m -> f (fun c => Jv p m (dv p v) x (a c)) = Jv p m (dv p v) x (f a)
def Ann (p m : Nat) (f : (Nat -> Nat) -> Nat) (X : LL) : Prop := ∀ t, t < X.length -> f (en p m (row X t)) = 0
theorem JX (hF : FV P M mf p m v) (l : LI) (c : Nat) : en p m l c < p ^ m := J6 (by have := hF.ring.q2; omega) _
theorem Jli (hF : FV P M mf p m v) {a o : LI} {x : Int} {c : Nat} (hc : c < a.length) : en p m (adx p m v a x o) c = J0 p m (en p m a c) (Jv p m (dv p v) (inE (p ^ m) x) (en p m o c)) := by
 have R := hF.ring; have hq : 0 < p ^ m := by have := R.q2; omega
 have e0 : inE (p ^ m) 0 = 0 := Qt (x := 0) hq; have hz : ∀ y, y < p ^ m -> Jv p m (dv p v) 0 y = 0 := fun y hy => by rw [R.Mc hq hy]; exact R.M0 hy
 unfold en adx; split
 .rename_i h; subst h
  rw [e0, hz _ (J6 hq _), R.Az (J6 hq _)]
 .rw [Jaw hc]; split
  .rename_i h; rw [h, e0, R.M0 (J6 hq _), R.Az (J6 hq _)]
  .unfold Ad Ml; rw [Qt (R.Al _ _), Qt (R.Ml _ _)]
theorem en_sc (hF : FV P M mf p m v) {l : LI} {x : Int} {c : Nat} (hc : c < l.length) : en p m (sc p m v x l) c = Jv p m (dv p v) (inE (p ^ m) x) (en p m l c) := by
 unfold en; rw [Jhi hc]; unfold Ml; rw [Qt (hF.ring.Ml _ _)]
theorem Lin.adx {f : (Nat -> Nat) -> Nat} (L : Lin p m v w f) (hF : FV P M mf p m v) {a o : LI} {x : Int} (ha : a.length = w) : f (en p m (adx p m v a x o)) = J0 p m (f (en p m a)) (Jv p m (dv p v) (inE (p ^ m) x) (f (en p m o))) := by
 rw [<- L.ad (JX hF a) (JX hF o) (J6 (by have := hF.ring.q2; omega) x)]; exact L.cg fun c hc => Jli hF (by omega)
theorem Lin.sc {f : (Nat -> Nat) -> Nat} (L : Lin p m v w f) (hF : FV P M mf p m v) {l : LI} {x : Int} (hl : l.length = w) : f (en p m (sc p m v x l)) = Jv p m (dv p v) (inE (p ^ m) x) (f (en p m l)) := by
 rw [<- L.ml (JX hF l) (J6 (by have := hF.ring.q2; omega) x)]; exact L.cg fun c hc => en_sc hF (by omega)
theorem Jaz {r cur t : Nat} (hr : r < X.length) (hc : cur < X.length) : row (swq X r cur) t = if t = cur then row X r else if t = r then row X cur else row X t := by
  unfold swq
  split
  . rename_i h; subst h
    split
    . rename_i h; rw [h]
    . rfl
  . exact Ja0 hr hc
theorem Jkp {cur t : Nat} {e : Int} (hc : cur < X.length) : row (scq p m v X cur e) t = if t = cur then sc p m v (Iv p m v e) (row X cur) else row X t := by
 unfold scq; rw [Qn]; by_cases h : cur = t
 .rw [if_pos ⟨h, hc⟩, if_pos h.symm]
 .rw [if_neg (fun hh => h hh.1), if_neg (fun hh => h hh.symm)]
theorem Qeg {f : (Nat -> Nat) -> Nat} {r cur : Nat} (hr : r < X.length) (hc : cur < X.length) (h : Ann p m f (swq X r cur)) : Ann p m f X := fun t ht => by
 rw [Ann, J9] at h; by_cases h1 : t = r
 .have := h cur hc; rw [Jaz hr hc, if_pos rfl] at this; rw [h1]; exact this
 .by_cases h2 : t = cur
  .have := h r hr; rw [Jaz hr hc] at this; rw [if_neg (fun e => h1 (h2.trans e.symm)), if_pos rfl] at this; rw [h2]; exact this
  .have := h t ht; rw [Jaz hr hc, if_neg h2, if_neg h1] at this; exact this
theorem Qeh {f : (Nat -> Nat) -> Nat} (L : Lin p m v w f) (hF : FV P M mf p m v) {cur : Nat} {e : Int} {z : Nat} (hz : z < p ^ m) (he : Jv p m (dv p v) z (inE (p ^ m) (Iv p m v e)) = 1) (hc : cur < X.length) (hw : (row X cur).length = w) (h : Ann p m f (scq p m v X cur e)) : Ann p m f X := fun t ht => by
 have R := hF.ring; have q1 : 1 < p ^ m := R.q2; rw [Ann, QK] at h; have h3 := h t ht; rw [Jkp hc] at h3; split at h3
 .rename_i h1; subst h1
  rw [L.sc hF hw] at h3; have hi := J6 (q := p ^ m) (by omega) (Iv p m v e); have h4 := R.Ma hz hi (L.lt (en p m (row X t))); rw [he, h3, R.M0 hz, R.Mc q1 (L.lt _), R.M1 (L.lt _)] at h4; exact h4
 .exact h3
theorem Qei {f : (Nat -> Nat) -> Nat} (L : Lin p m v w f) (hF : FV P M mf p m v) {cur : Nat} {g : Nat -> Int} (hc : cur < X.length) (hw : ∀ t, t < X.length -> (row X t).length = w) (h : Ann p m f (clr p m v g cur X)) : Ann p m f X := fun t ht => by
 have R := hF.ring; have hq : 0 < p ^ m := by have := R.q2; omega
 rw [Ann, Zj] at h; have hcur := h cur hc; rw [ZK hc, if_pos rfl] at hcur; have h3 := h t ht; rw [ZK ht] at h3; split at h3
 .exact h3
 .rw [L.adx hF (hw t ht), hcur, R.M0 (J6 hq _), R.Az (L.lt _)] at h3; exact h3
theorem iv_ex {g : Nat} (K : Gn (p ^ m) (Jv p m (dv p v)) g) (hF : FV P M mf p m v) {x : Int} (h0 : x ≠ 0) (hx : El p m x) : inE (p ^ m) x < p ^ m /\ Jv p m (dv p v) (inE (p ^ m) x) (inE (p ^ m) (Iv p m v x)) = 1 := by
 have R := hF.ring; have q1 : 1 < p ^ m := R.q2; have hx1 := J6 (q := p ^ m) (by omega) x; have hne : 0 < inE (p ^ m) x := by
  have := Z2 hx; omega
 have h1 := K.xone R hne hx1; refine ⟨hx1, ?_⟩; have hz : pw (Jv p m (dv p v)) (inE (p ^ m) x) (p ^ m - 1 - 1) < p ^ m := by
  cases p ^ m - 1 - 1 with
  | zero => exact q1
  | succ n => exact R.Ml _ _
 have h2 : Jv p m (dv p v) (pw (Jv p m (dv p v)) (inE (p ^ m) x) (p ^ m - 1 - 1)) (inE (p ^ m) x) = 1 := by
  rw [show p ^ m - 1 = (p ^ m - 1 - 1) + 1 by omega] at h1; exact h1
 rw [Jup R hx1 hz h2, Qt hz, R.Mc hx1 hz]; exact h2
theorem Qbr {g : Nat} (K : Gn (p ^ m) (Jv p m (dv p v)) g) (hF : FV P M mf p m v) {f : (Nat -> Nat) -> Nat} (L : Lin p m v w f) {S : ES} {c : Nat} (he : Els p m S.X) (hw : ∀ t, t < S.X.length -> (row S.X t).length = w) (h : Ann p m f (Yo p m v S c).X) : Ann p m f S.X := by
  unfold Yo at h
  split at h
  . rename_i h1
    obtain ⟨hc, hr⟩ := h1
    rw [Jdi] at h
    have hw1 : ∀ t, t < (swq S.X (nz S.X c S.pv.length) S.pv.length).length -> (row (swq S.X (nz S.X c S.pv.length) S.pv.length) t).length = w := fun t ht => by
      rw [J9] at ht; exact Yd hr hc hw ht
    have hrow : row (swq S.X (nz S.X c S.pv.length) S.pv.length) S.pv.length = row S.X (nz S.X c S.pv.length) := by rw [Jaz hr hc, if_pos rfl]
    have hne := (Ja8 S.X c S.pv.length (by omega)).2.2 hr
    have hcl : c < (row S.X (nz S.X c S.pv.length)).length := by
      rcases Nat.lt_or_ge c (row S.X (nz S.X c S.pv.length)).length with h | h
      . exact h
      . exact absurd (Jdc h) hne
    have hel : El p m (vo (row S.X (nz S.X c S.pv.length)) c) := Qb he _ _ (Jav hcl)
    obtain ⟨h4, h5⟩ := iv_ex K hF hne hel
    have h2 := Qei L hF (by rw [QK, J9]; exact hc) (fun t ht => by rw [QK] at ht; exact Yf (by rw [J9]; exact hc) hw1 ht) h
    rw [hrow] at h2
    have h3 := Qeh L hF h4 h5 (by rw [J9]; exact hc) (hw1 _ (by rw [J9]; exact hc)) h2
    exact Qeg hr hc h3
  . exact h
theorem Jiq {g : Nat} (K : Gn (p ^ m) (Jv p m (dv p v)) g) (hF : FV P M mf p m v) {f : (Nat -> Nat) -> Nat} (L : Lin p m v w f) {n wy : Nat} {S : ES} (hS : Shp n w wy S) (he : Els p m S.X) : ∀ k, Ann p m f (elim p m v k S).X -> Ann p m f S.X
 | 0, h => h
 | k + 1, h => by
  rw [Q7] at h; have hk := ZA (p := p) (m := m) (v := v) hS k; refine Jiq K hF L hS he k (Qbr K hF L (Jb6 (by have := hF.p2; omega) he k) (fun t ht => hk.xr t (by have := hk.xl; omega)) h)
end
end Go.Proofs.YtngdhnijkgjhcaaGreat
namespace Go.Proofs.YtngdhnijkgjhcaaGreat
section
variable {p m v g : Nat} {P M : Int} {mf : LI} {X Y : LL} {C : Int} {w : Nat}
structure Red (k : Nat) (S : ES) : Prop where
  one : ∀ i, i < S.pv.length -> ∀ t, t < S.X.length -> vo (row S.X t) (vo S.pv i).toNat = if t = i then 1 else 0
  lo : ∀ t, S.pv.length <= t -> t < S.X.length -> ∀ c, c < k -> vo (row S.X t) c = 0
  lf : ∀ i, i < S.pv.length -> ∀ c : Nat, (c : Int) < vo S.pv i -> vo (row S.X i) c = 0
theorem Qc1 {a o : LI} {x : Int} {c : Nat} (h : vo o c = 0) : vo (adx p m v a x o) c = vo a c := by
 unfold adx; split
 .rfl
 .rcases Nat.lt_or_ge c a.length with hc | hc
  .rw [Jaw hc, if_pos h]
  .rw [Jdc hc, Jdc (by rw [Jcv]; exact hc)]
theorem Jy2 (hF : FV P M mf p m v) {l : LI} {x : Int} {c : Nat} (h : vo l c = 0) : vo (sc p m v x l) c = 0 := by
 have hq : 0 < p ^ m := by have := hF.ring.q2; omega
 rcases Nat.lt_or_ge c l.length with hc | hc
 .rw [Jhi hc, h]; unfold Ml; rw [show inE (p ^ m) 0 = 0 from Qt (x := 0) hq, hF.ring.M0 (J6 hq _)]; rfl
 .exact Jdc (by unfold sc; rw [List.length_map]; exact hc)
theorem Jz5 (K : Gn (p ^ m) (Jv p m (dv p v)) g) (hF : FV P M mf p m v) {S : ES} {k : Nat} (hA : Asc k S.pv) (hl : S.pv.length <= S.X.length) (he : Els p m S.X) (h : Red k S) : Red (k + 1) (Yo p m v S k) := by
 have R := hF.ring; have q1 : 1 < p ^ m := R.q2; have hp : 0 < p := by have := hF.p2; omega
 unfold Yo; split
 case isFalse h1 =>
  refine ⟨h.one, fun t ht1 ht2 c hc => ?_, h.lf⟩; rcases Nat.lt_or_ge c k with hck | hck
  .exact h.lo t ht1 ht2 c hck
  .have e : c = k := by omega
   subst e; have hs := Ja8 S.X c S.pv.length hl; exact hs.2.1 t ht1 (by
    rcases Nat.lt_or_ge t (nz S.X c S.pv.length) with h | h
    .exact h
    .exact absurd ⟨by omega, by omega⟩ h1)
 case isTrue h1 =>
  obtain ⟨hc, hr⟩ := h1; have hrs := Jtk S.X k S.pv.length; have hne := (Ja8 S.X k S.pv.length hl).2.2 hr; have hkl : k < (row S.X (nz S.X k S.pv.length)).length := by
   rcases Nat.lt_or_ge k (row S.X (nz S.X k S.pv.length)).length with h | h
   .exact h
   .exact absurd (Jdc h) hne
  have hel : El p m (vo (row S.X (nz S.X k S.pv.length)) k) := Qb he _ _ (Jav hkl); obtain ⟨h4, h5⟩ := iv_ex K hF hne hel; have hE3 : Els p m (es1 p m v k (nz S.X k S.pv.length) S.pv.length S).X := Jlh hp he hr hc; have hn : (es1 p m v k (nz S.X k S.pv.length) S.pv.length S).X.length = S.X.length := by rw [Jdi, Zj, QK, J9]
  generalize hrr : nz S.X k S.pv.length = r at *
  have hx2 : ∀ t, row (scq p m v (swq S.X r S.pv.length) S.pv.length (vo (row (swq S.X r S.pv.length) S.pv.length) k)) t = if t = S.pv.length then sc p m v (Iv p m v (vo (row S.X r) k)) (row S.X r) else if t = r then row S.X S.pv.length else row S.X t := fun t => by
   rw [Jkp (by rw [J9]; exact hc), Jaz hr hc, Jaz hr hc, if_pos rfl]; split <;> rfl
  have hx3 : ∀ t, t < S.X.length -> row (es1 p m v k r S.pv.length S).X t = if t = S.pv.length then sc p m v (Iv p m v (vo (row S.X r) k)) (row S.X r) else adx p m v (if t = r then row S.X S.pv.length else row S.X t) (Ng p m (vo (if t = r then row S.X S.pv.length else row S.X t) k)) (sc p m v (Iv p m v (vo (row S.X r) k)) (row S.X r)) := fun t ht => by
   rw [Jdi, ZK (by rw [QK, J9]; exact ht), hx2, hx2, if_pos rfl]; split
   .rfl
   .rfl
  -- the columns before stay
  have hold : ∀ t, t < S.X.length -> ∀ c, c < k -> vo (row (es1 p m v k r S.pv.length S).X t) c = vo (row S.X t) c := fun t ht c hck => by
   have z1 : vo (row S.X r) c = 0 := h.lo r hrs hr c hck; have z2 : vo (row S.X S.pv.length) c = 0 := h.lo _ (Nat.le_refl _) hc c hck; rw [hx3 t ht]; split
   .rename_i e; rw [Jy2 hF z1, e, z2]
   .rw [Qc1 (Jy2 hF z1)]; split
    .rename_i e; rw [z2, e, z1]
    .rfl
  have hone : vo (sc p m v (Iv p m v (vo (row S.X r) k)) (row S.X r)) k = 1 := by
   rw [Jhi hkl]; unfold Ml; rw [R.Mc (J6 (by omega) _) h4, h5]; rfl
  have hnew : ∀ t, t < S.X.length -> vo (row (es1 p m v k r S.pv.length S).X t) k = if t = S.pv.length then 1 else 0 := fun t ht => by
   have hEt := Qb hE3 t; have hx := hx3 t ht; by_cases e : t = S.pv.length
   .rw [if_pos e] at hx ⊢; rw [hx]; exact hone
   .rw [if_neg e] at hx ⊢; rcases Nat.lt_or_ge k (if t = r then row S.X S.pv.length else row S.X t).length with hkt | hkt
    .have h6 := Jli hF (x := Ng p m (vo (if t = r then row S.X S.pv.length else row S.X t) k)) (o := sc p m v (Iv p m v (vo (row S.X r) k)) (row S.X r)) hkt; rw [<- hx] at h6; have h7 : en p m (sc p m v (Iv p m v (vo (row S.X r) k)) (row S.X r)) k = 1 := by unfold en; rw [hone]; exact Qt (x := 1) q1
     rw [h7] at h6; unfold Ng at h6; have h8 : QH p m (inE (p ^ m) (vo (if t = r then row S.X S.pv.length else row S.X t) k)) < p ^ m := Yb hp _; rw [Qt h8, R.M1 h8] at h6; have h9 : en p m (row (es1 p m v k r S.pv.length S).X t) k = 0 := by rw [h6]; exact Q2 hp (J6 (by omega) _)
     have h10 : El p m (vo (row (es1 p m v k r S.pv.length S).X t) k) := hEt _ (Jav (by rw [hx, Jes]; exact hkt)); rw [<- Z2 h10]; show ((en p m (row (es1 p m v k r S.pv.length S).X t) k : Nat) : Int) = 0; rw [h9]; rfl
    .rw [hx]; exact Jdc (by rw [Jes]; exact hkt)
  have hpv : (es1 p m v k r S.pv.length S).pv = S.pv ++ [(k : Int)] := rfl; refine ⟨fun i hi t ht => ?_, fun t ht1 ht2 c hck => ?_, fun i hi c hci => ?_⟩
  .rw [hn] at ht; rw [hpv, List.length_append, List.length_singleton] at hi; rw [hpv, Jd7]; by_cases e : i < S.pv.length
   .rw [if_pos e, hold t ht _ (by have := hA.1 i e; omega)]; exact h.one i e t ht
   .have e2 : i = S.pv.length := by omega
    rw [if_neg e, if_pos e2, e2]; exact hnew t ht
  .rw [hn] at ht2; rw [hpv, List.length_append, List.length_singleton] at ht1; rcases Nat.lt_or_ge c k with h6 | h6
   .rw [hold t ht2 c h6]; exact h.lo t (by omega) ht2 c h6
   .rw [show c = k by omega, hnew t ht2, if_neg (by omega)]
  .rw [hpv, List.length_append, List.length_singleton] at hi; rw [hpv, Jd7] at hci; by_cases e : i < S.pv.length
   .rw [if_pos e] at hci; rw [hold i (by omega) c (by have := hA.1 i e; omega)]; exact h.lf i e c hci
   .have e2 : i = S.pv.length := by omega
    rw [if_neg e, if_pos e2] at hci; rw [hold i (by omega) c (by omega), e2]; exact h.lo _ (Nat.le_refl _) hc c (by omega)
theorem Jmy (K : Gn (p ^ m) (Jv p m (dv p v)) g) (hF : FV P M mf p m v) {n wy : Nat} {S : ES} (hS : Shp n w wy S) (he : Els p m S.X) (h0 : S.pv = []) : ∀ k, Red k (elim p m v k S)
 | 0 => ⟨fun i hi => by
   have : (elim p m v 0 S).pv = [] := h0; rw [this] at hi; exact absurd hi (Nat.not_lt_zero _), fun t _ _ c hc => absurd hc (Nat.not_lt_zero _), fun i hi => by
   have : (elim p m v 0 S).pv = [] := h0; rw [this] at hi; exact absurd hi (Nat.not_lt_zero _)⟩
 | k + 1 => by
  rw [Q7]; have hk := ZA (p := p) (m := m) (v := v) hS k; exact Jz5 K hF (Jil h0 k) (by have := hk.pl; have := hk.xl; omega) (Jb6 (by have := hF.p2; omega) he k) (Jmy K hF hS he h0 k)
end
end Go.Proofs.YtngdhnijkgjhcaaGreat
namespace Go.Proofs.YtngdhnijkgjhcaaGreat
section
variable {p m v g : Nat} {P M : Int} {mf : LI} {X Y : LL} {C : Int} {w : Nat}
def fs (p m : Nat) (f : Nat -> Nat) : Nat -> Nat
  | 0 => 0
  | n + 1 => J0 p m (fs p m f n) (f n)
theorem Zx (hF : FV P M mf p m v) (f : Nat -> Nat) : ∀ n, fs p m f n < p ^ m
 | 0 => by have := hF.ring.q2; show 0 < _; omega
 | n + 1 => hF.ring.Al _ _
theorem Zy {f h : Nat -> Nat} : ∀ n, (∀ i, i < n -> f i = h i) -> fs p m f n = fs p m h n
 | 0, _ => rfl
 | n + 1, e => by show J0 p m _ _ = J0 p m _ _; rw [Zy n fun i hi => e i (by omega), e n (by omega)]
theorem mix (hF : FV P M mf p m v) {a b c d : Nat} (ha : a < p ^ m) (hb : b < p ^ m) (hc : c < p ^ m) (hd : d < p ^ m) : J0 p m (J0 p m a b) (J0 p m c d) = J0 p m (J0 p m a c) (J0 p m b d) := by
 have R := hF.ring; rw [R.Aa ha hb (R.Al _ _), <- R.Aa hb hc hd, R.Ac b c, R.Aa hc hb hd, <- R.Aa ha hc (R.Al _ _)]
theorem Jfu (hF : FV P M mf p m v) {f h : Nat -> Nat} {x : Nat} (hf : ∀ i, f i < p ^ m) (hh : ∀ i, h i < p ^ m) (hx : x < p ^ m) : ∀ n, fs p m (fun i => J0 p m (f i) (Jv p m (dv p v) x (h i))) n = J0 p m (fs p m f n) (Jv p m (dv p v) x (fs p m h n))
 | 0 => by
  have R := hF.ring; show 0 = J0 p m 0 (Jv p m (dv p v) x 0); rw [R.M0 hx, R.Az (by have := R.q2; omega)]
 | n + 1 => by
  have R := hF.ring; show J0 p m (fs p m _ n) _ = J0 p m (J0 p m _ _) (Jv p m (dv p v) x (J0 p m _ _)); rw [Jfu hF hf hh hx n, R.Md hx (Zx hF h n) (hh n), mix hF (Zx hF f n) (R.Ml _ _) (hf n) (R.Ml _ _)]
theorem Qay (hF : FV P M mf p m v) {f : Nat -> Nat} {x : Nat} (hf : ∀ i, f i < p ^ m) (hx : x < p ^ m) : ∀ n, fs p m (fun i => Jv p m (dv p v) x (f i)) n = Jv p m (dv p v) x (fs p m f n)
 | 0 => by show 0 = Jv p m (dv p v) x 0; rw [hF.ring.M0 hx]
 | n + 1 => by
  show J0 p m (fs p m _ n) _ = Jv p m (dv p v) x (J0 p m _ _); rw [Qay hF hf hx n, hF.ring.Md hx (Zx hF f n) (hf n)]
theorem YH (hF : FV P M mf p m v) {f : Nat -> Nat} : ∀ n, (∀ i, i < n -> f i = 0) -> fs p m f n = 0
 | 0, _ => rfl
 | n + 1, h => by
  show J0 p m (fs p m f n) (f n) = 0; rw [YH hF n fun i hi => h i (by omega), h n (by omega), hF.ring.Az (by have := hF.ring.q2; omega)]
theorem Zw (hF : FV P M mf p m v) {f : Nat -> Nat} {j : Nat} (hj : f j < p ^ m) : ∀ n, j < n -> (∀ i, i < n -> i ≠ j -> f i = 0) -> fs p m f n = f j
 | 0, h, _ => absurd h (Nat.not_lt_zero _)
 | n + 1, h, e => by
  have R := hF.ring; show J0 p m (fs p m f n) (f n) = f j; by_cases en : n = j
  .subst en; rw [YH hF n fun i hi => e i (by omega) (by omega), R.Ac, R.Az hj]
  .rw [Zw hF hj n (by omega) fun i hi => e i (by omega), e n (by omega) en, R.Az hj]
def cof (p m v c r : Nat) (pv : Nat -> Nat) (nR : Nat -> Nat) (a : Nat -> Nat) : Nat := J0 p m (a c) (fs p m (fun i => Jv p m (dv p v) (nR i) (a (pv i))) r)
theorem Jtv (hF : FV P M mf p m v) {c r : Nat} {pv nR : Nat -> Nat} (hc : c < w) (hpv : ∀ i, i < r -> pv i < w) (hn : ∀ i, nR i < p ^ m) : Lin p m v w (cof p m v c r pv nR) where
 lt a := hF.ring.Al _ _
 cg h := by
  unfold cof; rw [h c hc, Zy r fun i hi => by rw [h _ (hpv i hi)]]
 ad {a b x} ha hb hx := by
  have R := hF.ring; unfold cof; have e : (fun i => Jv p m (dv p v) (nR i) (J0 p m (a (pv i)) (Jv p m (dv p v) x (b (pv i))))) = fun i => J0 p m (Jv p m (dv p v) (nR i) (a (pv i))) (Jv p m (dv p v) x (Jv p m (dv p v) (nR i) (b (pv i)))) := funext fun i => by
   rw [R.Md (hn i) (ha _) (R.Ml _ _), <- R.Ma (hn i) hx (hb _), R.Mc (hn i) hx, R.Ma hx (hn i) (hb _)]
  rw [e, Jfu hF (fun i => R.Ml _ _) (fun i => R.Ml _ _) hx, mix hF (ha c) (R.Ml _ _) (Zx hF _ _) (R.Ml _ _), <- R.Md hx (hb c) (Zx hF _ _)]
 ml {a x} ha hx := by
  have R := hF.ring; unfold cof; have e : (fun i => Jv p m (dv p v) (nR i) (Jv p m (dv p v) x (a (pv i)))) = fun i => Jv p m (dv p v) x (Jv p m (dv p v) (nR i) (a (pv i))) := funext fun i => by
   rw [<- R.Ma (hn i) hx (ha _), R.Mc (hn i) hx, R.Ma hx (hn i) (ha _)]
  rw [e, Qay hF (fun i => R.Ml _ _) hx, <- R.Md hx (ha c) (Zx hF _ _)]
theorem Jqc (hF : FV P M mf p m v) : ∃ g, Gn (p ^ m) (Jv p m (dv p v)) g := hF.gen
end
end Go.Proofs.YtngdhnijkgjhcaaGreat
namespace Go.Proofs.YtngdhnijkgjhcaaGreat
section
variable {p m v g : Nat} {P M : Int} {mf : LI} {X Y : LL} {C : Int} {w : Nat}
theorem Za (hF : FV P M mf p m v) {l : LI} {c : Nat} {z : Nat} (hz : z < p ^ m) (h : vo l c = (z : Int)) : en p m l c = z := by unfold en; rw [h]; exact Qt hz
theorem Jgz (hF : FV P M mf p m v) (hs : shp C X) (he : Els p m X) : Red C.toNat (ec p m v C X) := by
 obtain ⟨g, G⟩ := Jqc hF; exact Jmy G hF (Jay hs) he rfl _
theorem Qbf (hF : FV P M mf p m v) (hs : shp C X) (he : Els p m X) {t c : Nat} (ht : t < X.length) (hc : c < C.toNat) :
    en p m (row X t) c = fs p m (fun i => Jv p m (dv p v) (en p m (row X t) (vo (JG p m v C X) i).toNat) (en p m (row (JQ p m v C X) i) c)) (JG p m v C X).length := by
  have R := hF.ring
  have q1 : 1 < p ^ m := R.q2
  have hp : 0 < p := by have := hF.p2; omega
  obtain ⟨g, G⟩ := Jqc hF
  have hS := Jbf (p := p) (m := m) (v := v) hs
  have red := Jgz hF hs he
  have hasc := QA (p := p) (m := m) (v := v) C X
  have hr : (JG p m v C X).length <= X.length := ZB hs
  have hrow : ∀ i, i < (JG p m v C X).length -> row (JQ p m v C X) i = row (ec p m v C X).X i := fun i hi => Zr hi
  have hneg : ∀ y, y < p ^ m -> QH p m y < p ^ m := fun y _ => Yb hp y
  have L := Jtv (w := C.toNat) hF (c := c) (r := (JG p m v C X).length) (pv := fun i => (vo (JG p m v C X) i).toNat) (nR := fun i => QH p m (en p m (row (ec p m v C X).X i) c)) hc (fun i hi => by have := hasc.1 i hi; show (vo (JG p m v C X) i).toNat < _; omega) (fun i => hneg _ (JX hF _ _))
  have hann := Jiq G hF L (Jay hs) he C.toNat (fun s hsl => by
    have hsl' : s < X.length := by have := hS.xl; exact Nat.lt_of_lt_of_eq hsl this
    show cof _ _ _ _ _ _ _ (en p m (row (ec p m v C X).X s)) = 0
    unfold cof
    by_cases hsr : s < (JG p m v C X).length
    . have hd : ∀ i, i < (JG p m v C X).length -> en p m (row (ec p m v C X).X s) (vo (JG p m v C X) i).toNat = if s = i then 1 else 0 := fun i hi => by
        have := red.one i hi s hsl
        by_cases e : s = i
        . rw [if_pos e] at this ⊢; exact Za hF q1 this
        . rw [if_neg e] at this ⊢; exact Za hF (by omega) this
      have h9 := Zw hF (f := fun i => Jv p m (dv p v) (QH p m (en p m (row (ec p m v C X).X i) c)) (en p m (row (ec p m v C X).X s) (vo (JG p m v C X) i).toNat)) (j := s) (R.Ml _ _) _ hsr fun i hi hne => by
        show Jv p m (dv p v) _ _ = 0
        rw [hd i hi, if_neg (fun e => hne e.symm), R.M0 (hneg _ (JX hF _ _))]
      show J0 p m _ (fs p m (fun i => Jv p m (dv p v) (QH p m (en p m (row (ec p m v C X).X i) c)) (en p m (row (ec p m v C X).X s) (vo (JG p m v C X) i).toNat)) (JG p m v C X).length) = 0
      rw [h9]
      show J0 p m _ (Jv p m (dv p v) _ _) = 0
      rw [hd s hsr, if_pos rfl, R.M1 (hneg _ (JX hF _ _))]
      exact Q2 hp (JX hF _ _)
    . have hz : ∀ d, d < C.toNat -> en p m (row (ec p m v C X).X s) d = 0 := fun d hd => Za hF (by omega) (red.lo s (by show (JG p m v C X).length <= s; omega) hsl d hd)
      rw [hz c hc, YH hF _ fun i hi => by
        show Jv p m (dv p v) _ _ = 0
        rw [hz (vo (JG p m v C X) i).toNat (by have := hasc.1 i hi; omega), R.M0 (hneg _ (JX hF _ _))], R.Az (by omega)]) t ht
  unfold cof at hann
  have hG := Zx hF (fun i => Jv p m (dv p v) (en p m (row X t) (vo (JG p m v C X) i).toNat) (en p m (row (JQ p m v C X) i) c)) (JG p m v C X).length
  have hN := Zx hF (fun i => Jv p m (dv p v) (QH p m (en p m (row (ec p m v C X).X i) c)) (en p m (row X t) (vo (JG p m v C X) i).toNat)) (JG p m v C X).length
  have hGN : J0 p m (fs p m (fun i => Jv p m (dv p v) (en p m (row X t) (vo (JG p m v C X) i).toNat) (en p m (row (JQ p m v C X) i) c)) (JG p m v C X).length) (fs p m (fun i => Jv p m (dv p v) (QH p m (en p m (row (ec p m v C X).X i) c)) (en p m (row X t) (vo (JG p m v C X) i).toNat)) (JG p m v C X).length) = 0 := by
    have h1 := Jfu hF (f := fun i => Jv p m (dv p v) (en p m (row X t) (vo (JG p m v C X) i).toNat) (en p m (row (JQ p m v C X) i) c)) (h := fun i => Jv p m (dv p v) (QH p m (en p m (row (ec p m v C X).X i) c)) (en p m (row X t) (vo (JG p m v C X) i).toNat)) (x := 1) (fun i => R.Ml _ _) (fun i => R.Ml _ _) q1 (JG p m v C X).length
    rw [R.Mc q1 hN, R.M1 hN] at h1
    rw [<- h1]
    refine YH hF _ fun i hi => ?_
    show J0 p m (Jv p m (dv p v) _ _) (Jv p m (dv p v) 1 (Jv p m (dv p v) _ _)) = 0
    have ha := JX hF (row X t) (vo (JG p m v C X) i).toNat
    have hb := JX hF (row (ec p m v C X).X i) c
    rw [R.Mc q1 (R.Ml _ _), R.M1 (R.Ml _ _), hrow i hi, R.Mc (hneg _ hb) ha, <- R.Md ha hb (hneg _ hb), Q2 hp hb, R.M0 ha]
  have hx := JX hF (row X t) c
  generalize fs p m (fun i => Jv p m (dv p v) (en p m (row X t) (vo (JG p m v C X) i).toNat) (en p m (row (JQ p m v C X) i) c)) (JG p m v C X).length = G1 at *
  generalize fs p m (fun i => Jv p m (dv p v) (QH p m (en p m (row (ec p m v C X).X i) c)) (en p m (row X t) (vo (JG p m v C X) i).toNat)) (JG p m v C X).length = N1 at *
  generalize en p m (row X t) c = a at *
  calc a = J0 p m a (J0 p m G1 N1) := by rw [hGN, R.Az hx]
    _ = J0 p m G1 (J0 p m a N1) := by rw [<- R.Aa hx hG hN, R.Ac a G1, R.Aa hG hx hN]
    _ = G1 := by rw [hann, R.Az hG]
theorem Jqh (hF : FV P M mf p m v) {x : LI} {n c : Nat} {Z : LL} (hc : c < n) : ∀ k, en p m (cmb p m v x n Z k) c = fs p m (fun i => Jv p m (dv p v) (inE (p ^ m) (vo x i)) (en p m (row Z i) c)) k
 | 0 => by
  show en p m (List.replicate n 0) c = 0; exact Za hF (by have := hF.ring.q2; omega) (ZY n c)
 | k + 1 => by
  rw [Jb7, Jli hF (by rw [Jeq]; exact hc), Jqh hF hc k]; rfl
theorem Jtx (hF : FV P M mf p m v) {x : LI} {n : Nat} {Z : LL} : ∀ k, Elr p m (cmb p m v x n Z k)
 | 0 => Jdu fun t ht => by
  have : vo (cmb p m v x n Z 0) t = 0 := ZY n t; rw [this]; exact Jf0 (q := 0) (by have := hF.ring.q2; omega)
 | k + 1 => by rw [Jb7]; exact Jls (by have := hF.p2; omega) (Jtx hF k)
theorem YL (hF : FV P M mf p m v) (he : Els p m X) : Els p m (JQ p m v C X) := fun r hr => Jb6 (S := ⟨X, List.replicate X.length [], [], 1⟩) (by have := hF.p2; omega) he C.toNat r (List.mem_of_mem_take hr)
theorem YK (hF : FV P M mf p m v) (hs : shp C X) (he : Els p m X) {i t : Nat} (hi : i < (JG p m v C X).length) (ht : t < (JG p m v C X).length) : vo (row (JQ p m v C X) t) (vo (JG p m v C X) i).toNat = if t = i then 1 else 0 := by
 have hS := Jbf (p := p) (m := m) (v := v) hs; have := ZB (p := p) (m := m) (v := v) hs; rw [show row (JQ p m v C X) t = row (ec p m v C X).X t from Zr ht]; exact (Jgz hF hs he).one i hi t (by have := hS.xl; omega)
theorem Jio (hF : FV P M mf p m v) (hs : shp C X) (he : Els p m X) {i c : Nat} (hi : i < (JG p m v C X).length) (hc : (c : Int) < vo (JG p m v C X) i) : vo (row (JQ p m v C X) i) c = 0 := by
 rw [show row (JQ p m v C X) i = row (ec p m v C X).X i from Zr hi]; exact (Jgz hF hs he).lf i hi c hc
end
end Go.Proofs.YtngdhnijkgjhcaaGreat
namespace Go.Proofs.YtngdhnijkgjhcaaGreat
end Go.Proofs.YtngdhnijkgjhcaaGreat
namespace Go.Proofs.YtngdhnijkgjhcaaGreat
section
variable {p m v : Nat} {P M : Int} {mf : LI} {X Y : LL} {C : Int} {w : Nat}
theorem Qbq {f : (Nat -> Nat) -> Nat} {r cur : Nat} (hr : r < X.length) (hc : cur < X.length) (h : Ann p m f X) : Ann p m f (swq X r cur) := fun t ht => by
  rw [J9] at ht
  rw [Jaz hr hc]
  split
  . exact h r hr
  . split
    . exact h cur hc
    . exact h t ht
theorem Qbs {f : (Nat -> Nat) -> Nat} (L : Lin p m v w f) (hF : FV P M mf p m v) {cur : Nat} {e : Int} (hc : cur < X.length) (hw : (row X cur).length = w) (h : Ann p m f X) : Ann p m f (scq p m v X cur e) := fun t ht => by
 rw [QK] at ht; rw [Jkp hc]; split
 .rw [L.sc hF hw, h cur hc, hF.ring.M0 (J6 (by have := hF.ring.q2; omega) _)]
 .exact h t ht
theorem Qbt {f : (Nat -> Nat) -> Nat} (L : Lin p m v w f) (hF : FV P M mf p m v) {cur : Nat} {g : Nat -> Int} (hc : cur < X.length) (hw : ∀ t, t < X.length -> (row X t).length = w) (h : Ann p m f X) : Ann p m f (clr p m v g cur X) := fun t ht => by
 have R := hF.ring; have hq : 0 < p ^ m := by have := R.q2; omega
 rw [Zj] at ht; rw [ZK ht]; split
 .exact h t ht
 .rw [L.adx hF (hw t ht), h cur hc, h t ht, R.M0 (J6 hq _), R.Az hq]
theorem Jv2 (hF : FV P M mf p m v) {f : (Nat -> Nat) -> Nat} (L : Lin p m v w f) {S : ES} {c : Nat} (hw : ∀ t, t < S.X.length -> (row S.X t).length = w) (h : Ann p m f S.X) : Ann p m f (Yo p m v S c).X := by
 unfold Yo; split
 .rename_i h1
  obtain ⟨hc, hr⟩ := h1; rw [Jdi]; have hw1 : ∀ t, t < (swq S.X (nz S.X c S.pv.length) S.pv.length).length -> (row (swq S.X (nz S.X c S.pv.length) S.pv.length) t).length = w := fun t ht => by
   rw [J9] at ht; exact Yd hr hc hw ht
  exact Qbt L hF (by rw [QK, J9]; exact hc) (fun t ht => by rw [QK] at ht; exact Yf (by rw [J9]; exact hc) hw1 ht) (Qbs L hF (by rw [J9]; exact hc) (hw1 _ (by rw [J9]; exact hc)) (Qbq hr hc h))
 .exact h
theorem Jj5 (hF : FV P M mf p m v) {f : (Nat -> Nat) -> Nat} (L : Lin p m v w f) {n wy : Nat} {S : ES} (hS : Shp n w wy S) (h : Ann p m f S.X) : ∀ k, Ann p m f (elim p m v k S).X
 | 0 => h
 | k + 1 => by
  rw [Q7]; have hk := ZA (p := p) (m := m) (v := v) hS k; exact Jv2 hF L (fun t ht => hk.xr t (by have := hk.xl; omega)) (Jj5 hF L hS h k)
theorem Q0 (hF : FV P M mf p m v) (hs : shp C X) (he : Els p m X) {f : (Nat -> Nat) -> Nat} (L : Lin p m v C.toNat f) : Ann p m f (JQ p m v C X) ↔ Ann p m f X := by
  have R := hF.ring
  have hq : 0 < p ^ m := by have := R.q2; omega
  obtain ⟨g, G⟩ := Jqc hF
  have hS := Jbf (p := p) (m := m) (v := v) hs
  have red := Jgz hF hs he
  have hl := Qz (p := p) (m := m) (v := v) hs
  have hpl := ZB (p := p) (m := m) (v := v) hs
  have f0 : ∀ a : Nat -> Nat, (∀ c, c < C.toNat -> a c = 0) -> f a = 0 := fun a ha => by
    have h1 := L.ml (a := fun _ => 0) (x := 0) (fun _ => hq) hq
    rw [R.Mc hq (L.lt _), R.M0 (L.lt _)] at h1
    rw [<- h1]
    exact L.cg fun c hc => by rw [ha c hc, R.M0 hq]
  refine ⟨fun h => Jiq G hF L (Jay hs) he C.toNat fun t ht => ?_, fun h t ht => ?_⟩
  . by_cases hr : t < (JG p m v C X).length
    . have := h t (by omega)
      rwa [show row (JQ p m v C X) t = row (ec p m v C X).X t from Zr hr] at this
    . exact f0 _ fun c hc => Za hF hq (red.lo t (by show (JG p m v C X).length <= t; omega) ht c hc)
  . rw [show row (JQ p m v C X) t = row (ec p m v C X).X t from Zr (by show t < (JG p m v C X).length; omega)]
    exact Jj5 hF L (Jay hs) h C.toNat t (by have := hS.xl; show t < (ec p m v C X).X.length; omega)
end
end Go.Proofs.YtngdhnijkgjhcaaGreat
namespace Go.Proofs.YtngdhnijkgjhcaaGreat
section
variable {p m v : Nat} {P M : Int} {mf : LI} {X Y : LL} {C : Int} {w : Nat}
def dt (p m v w : Nat) (u a : Nat -> Nat) : Nat := fs p m (fun c => Jv p m (dv p v) (u c) (a c)) w
theorem Jf1 (hF : FV P M mf p m v) {u : Nat -> Nat} (hu : ∀ c, u c < p ^ m) : Lin p m v w (dt p m v w u) where
 lt a := Zx hF _ _
 cg h := Zy _ fun c hc => by rw [h c hc]
 ad {a b x} ha hb hx := by
  have R := hF.ring; unfold dt; have e : (fun c => Jv p m (dv p v) (u c) (J0 p m (a c) (Jv p m (dv p v) x (b c)))) = fun c => J0 p m (Jv p m (dv p v) (u c) (a c)) (Jv p m (dv p v) x (Jv p m (dv p v) (u c) (b c))) := funext fun c => by
   rw [R.Md (hu c) (ha _) (R.Ml _ _), <- R.Ma (hu c) hx (hb _), R.Mc (hu c) hx, R.Ma hx (hu c) (hb _)]
  rw [e, Jfu hF (fun c => R.Ml _ _) (fun c => R.Ml _ _) hx]
 ml {a x} ha hx := by
  have R := hF.ring; unfold dt; have e : (fun c => Jv p m (dv p v) (u c) (Jv p m (dv p v) x (a c))) = fun c => Jv p m (dv p v) x (Jv p m (dv p v) (u c) (a c)) := funext fun c => by
   rw [<- R.Ma (hu c) hx (ha _), R.Mc (hu c) hx, R.Ma hx (hu c) (ha _)]
  rw [e, Qay hF (fun c => R.Ml _ _) hx]
theorem Jqg (hF : FV P M mf p m v) {u u' a : Nat -> Nat} {d y : Nat} (ha : ∀ c, a c < p ^ m) (hy : y < p ^ m) (h0 : u d = 0) (h : ∀ c, u' c = if c = d then y else u c) : ∀ w, d < w -> dt p m v w u' a = J0 p m (dt p m v w u a) (Jv p m (dv p v) y (a d))
 | 0, hd => absurd hd (Nat.not_lt_zero _)
 | k + 1, hd => by
  have R := hF.ring; have hq : 0 < p ^ m := by have := R.q2; omega
  show J0 p m (dt p m v k u' a) (Jv p m (dv p v) (u' k) (a k)) = J0 p m (J0 p m (dt p m v k u a) (Jv p m (dv p v) (u k) (a k))) (Jv p m (dv p v) y (a d)); have hD : dt p m v k u a < p ^ m := Zx hF (fun c => Jv p m (dv p v) (u c) (a c)) k; by_cases e : k = d
  .subst e; have e1 : dt p m v k u' a = dt p m v k u a := Zy _ fun c hc => by rw [h c, if_neg (by omega)]
   rw [e1, h k, if_pos rfl, h0, R.Mc hq (ha k), R.M0 (ha k), R.Az hD]
  .rw [Jqg hF ha hy h0 h k (by omega), h k, if_neg e, R.Aa hD (R.Ml _ _) (R.Ml _ _), R.Aa hD (R.Ml _ _) (R.Ml _ _), R.Ac (Jv p m (dv p v) y (a d))]
theorem Jby {n t d : Nat} {R : LL} {pv : LI} (hd : d ≠ t) : ∀ k, (∀ i, i < k -> (vo pv i).toNat ≠ d) -> vo (YX p m n R pv t k) d = 0
 | 0, _ => by
  show vo ((List.replicate n (0 : Int)).set t 1) d = 0; rw [J5, if_neg (fun h => hd h.1.symm)]; exact ZY n d
 | k + 1, h => by
  rw [YW, J5, if_neg (fun e => h k (by omega) e.1)]; exact Jby hd k fun i hi => h i (by omega)
theorem Qa8 (hF : FV P M mf p m v) {n t : Nat} {R : LL} {pv : LI} (ht : t < n) (hp : Asc n pv) (hf : ∀ i, i < pv.length -> (vo pv i).toNat ≠ t) {a : Nat -> Nat} (ha : ∀ c, a c < p ^ m) : ∀ k, k <= pv.length ->
  dt p m v n (en p m (YX p m n R pv t k)) a = cof p m v t k (fun i => (vo pv i).toNat) (fun i => QH p m (en p m (row R i) t)) a
 | 0, _ => by
  have R' := hF.ring; have q1 : 1 < p ^ m := R'.q2; have h1 := Jqg (w := n) hF (u := fun _ => 0) (u' := en p m (YX p m n R pv t 0)) (a := a) (d := t) (y := 1) ha q1 rfl (fun c => by
   show inE (p ^ m) (vo ((List.replicate n (0 : Int)).set t 1) c) = _; rw [J5]; by_cases e : t = c
   .rw [if_pos ⟨e, by rw [List.length_replicate]; exact ht⟩, if_pos e.symm]; exact Qt (x := 1) q1
   .rw [if_neg (fun h => e h.1), if_neg (fun h => e h.symm), ZY]; exact Qt (x := 0) (by omega)) ht
  rw [h1]; have h2 : dt p m v n (fun _ => 0) a = 0 := YH hF _ fun c _ => by
   show Jv p m (dv p v) 0 (a c) = 0; rw [R'.Mc (by omega) (ha c), R'.M0 (ha c)]
  rw [h2, R'.Ac, R'.Az (R'.Ml _ _), R'.Mc q1 (ha t), R'.M1 (ha t)]; show a t = J0 p m (a t) 0; rw [R'.Az (ha t)]
 | k + 1, hk => by
  have R' := hF.ring; have hpos : 0 < p := by have := hF.p2; omega
  have hpk := hp.1 k (by omega); have hne : ∀ i, i < k -> (vo pv i).toNat ≠ (vo pv k).toNat := fun i hi => by
   have h1 := hp.2 i k hi (by omega); have h2 := hp.1 i (by omega); omega
  have hn := Yb (m := m) hpos (en p m (row R k) t); have h1 := Jqg (w := n) hF (u := en p m (YX p m n R pv t k)) (u' := en p m (YX p m n R pv t (k + 1))) (a := a) (d := (vo pv k).toNat) (y := QH p m (en p m (row R k) t)) ha hn (by
    unfold en; rw [Jby (hf k (by omega)) k hne]; exact Qt (x := 0) (by have := R'.q2; omega)) (fun c => by
   unfold en; rw [YW, J5]; by_cases e : (vo pv k).toNat = c
   .rw [if_pos ⟨e, by rw [Jhu]; omega⟩, if_pos e.symm]; exact Qt hn
   .rw [if_neg (fun h => e h.1), if_neg (fun h => e h.symm)]) (by omega)
  rw [h1, Qa8 hF ht hp hf ha k (by omega)]; show J0 p m (J0 p m (a t) _) _ = J0 p m (a t) (J0 p m _ _); rw [R'.Aa (ha t) (Zx hF _ _) (R'.Ml _ _)]
theorem Js3 (hF : FV P M mf p m v) (hs : shp C X) (he : Els p m X) {t : Nat} (ht : t < C.toNat) (hf : ∀ i, i < (JG p m v C X).length -> (vo (JG p m v C X) i).toNat ≠ t) : Ann p m (dt p m v C.toNat (en p m (YX p m C.toNat (JQ p m v C X) (JG p m v C X) t (JG p m v C X).length))) X := by
  have R := hF.ring
  have q1 : 1 < p ^ m := R.q2
  have hp : 0 < p := by have := hF.p2; omega
  have hasc := QA (p := p) (m := m) (v := v) C X
  have hl := Qz (p := p) (m := m) (v := v) hs
  refine (Q0 hF hs he (Jf1 hF fun c => JX hF _ c)).1 fun s hs' => ?_
  rw [Qa8 hF ht hasc hf (fun c => JX hF _ c) _ (Nat.le_refl _)]
  unfold cof
  have hsr : s < (JG p m v C X).length := by omega
  have hd : ∀ i, i < (JG p m v C X).length -> en p m (row (JQ p m v C X) s) (vo (JG p m v C X) i).toNat = if s = i then 1 else 0 := fun i hi => by
    have := YK hF hs he hi hsr
    by_cases e : s = i
    . rw [if_pos e] at this ⊢; exact Za hF q1 this
    . rw [if_neg e] at this ⊢; exact Za hF (by omega) this
  have hneg : ∀ i, QH p m (en p m (row (JQ p m v C X) i) t) < p ^ m := fun i => Yb hp _
  rw [Zw hF (f := fun i => Jv p m (dv p v) (QH p m (en p m (row (JQ p m v C X) i) t)) (en p m (row (JQ p m v C X) s) (vo (JG p m v C X) i).toNat)) (j := s) (R.Ml _ _) _ hsr fun i hi hne => by
    show Jv p m (dv p v) _ _ = 0
    rw [hd i hi, if_neg (fun e => hne e.symm), R.M0 (hneg i)]]
  show J0 p m _ (Jv p m (dv p v) _ _) = 0
  rw [hd s hsr, if_pos rfl, R.M1 (hneg s)]
  exact Q2 hp (JX hF _ _)
end
end Go.Proofs.YtngdhnijkgjhcaaGreat
namespace Go.Proofs.YtngdhnijkgjhcaaGreat
section
variable {p m v : Nat} {P M : Int} {mf : LI} {X Y : LL} {C : Int} {w : Nat}
theorem Jig {pv : LI} {c : Nat} (h : ¬ inP pv c = true) : ∀ i, i < pv.length -> vo pv i ≠ (c : Int) := fun i hi e => h (YZ.2 ⟨i, hi, e⟩)
theorem Jtz {n : Nat} (R : LL) {pv : LI} (hp : Asc n pv) : ∀ k, k <= n -> ∃ c, c <= pv.length /\ (∀ i, i < pv.length -> (vo pv i < (k : Int) ↔ i < c)) /\ (bas p m n R pv k).length + c = k
 | 0, _ => ⟨0, Nat.zero_le _, fun i hi => ⟨fun h => by have := hp.1 i hi; omega, fun h => absurd h (Nat.not_lt_zero _)⟩, rfl⟩
 | k + 1, hk => by
  obtain ⟨c, h1, h2, h3⟩ := Jtz R hp k (by omega); rw [YM]; by_cases hin : inP pv k = true
  .rw [if_pos hin]; obtain ⟨j, hj, e⟩ := YZ.1 hin; have hcj : c <= j := by
    rcases Nat.lt_or_ge j c with h | h
    .have := (h2 j hj).2 h; omega
    .exact h
   have hc : c < pv.length := by omega
   have e2 : c = j := by
    rcases Nat.lt_or_ge c j with h | h
    .have h5 := hp.2 c j h hj; have h6 := (h2 c hc).1 (by omega); omega
    .omega
   subst e2; refine ⟨c + 1, by omega, fun i hi => ⟨fun h => ?_, fun h => ?_⟩, by omega⟩
   .rcases Nat.lt_or_ge i (c + 1) with h' | h'
    .exact h'
    .have := hp.2 c i (by omega) hi; omega
   .rcases Nat.lt_or_ge i c with h' | h'
    .have := (h2 i hi).2 h'; omega
    .rw [show i = c by omega]; omega
  .rw [if_neg hin]; refine ⟨c, h1, fun i hi => ?_, by rw [List.length_append, List.length_singleton]; omega⟩; have := Jig hin i hi; rw [<- h2 i hi]; omega
theorem Joa {n : Nat} (R : LL) {pv : LI} (hp : Asc n pv) : (bas p m n R pv n).length + pv.length = n := by
 obtain ⟨c, h1, h2, h3⟩ := Jtz (p := p) (m := m) R hp n (Nat.le_refl _); have : c = pv.length := by
  rcases Nat.lt_or_ge c pv.length with h | h
  .have := (h2 c h).1 (hp.1 c h).2; omega
  .omega
 omega
theorem Jkr {Z : LL} {l : LI} {t : Nat} : row (Z ++ [l]) t = if t < Z.length then row Z t else if t = Z.length then l else [] := by
 unfold row; rw [List.getD_eq_getElem?_getD, List.getElem?_append]; split
 .rw [<- List.getD_eq_getElem?_getD]
 .rename_i h
  split
  .rename_i e; rw [e, Nat.sub_self]; rfl
  .rw [List.getElem?_eq_none (by simp; omega)]; rfl
theorem Jca {n : Nat} (R : LL) (pv : LI) : ∀ k, ∃ fc : Nat -> Nat, (∀ j, j < (bas p m n R pv k).length -> fc j < k /\ ¬ inP pv (fc j) = true /\ row (bas p m n R pv k) j = YX p m n R pv (fc j) pv.length) /\ ∀ i j, i < j -> j < (bas p m n R pv k).length -> fc i < fc j
 | 0 => ⟨fun _ => 0, fun j hj => absurd hj (Nat.not_lt_zero _), fun i j _ hj => absurd hj (Nat.not_lt_zero _)⟩
 | k + 1 => by
  obtain ⟨fc, h1, h2⟩ := Jca (n := n) R pv k; rw [YM]; by_cases hin : inP pv k = true
  .rw [if_pos hin]; exact ⟨fc, fun j hj => ⟨by have := (h1 j hj).1; omega, (h1 j hj).2⟩, h2⟩
  .rw [if_neg hin]; refine ⟨fun j => if j < (bas p m n R pv k).length then fc j else k, fun j hj => ?_, fun i j hij hj => ?_⟩
   .rw [List.length_append, List.length_singleton] at hj; dsimp only; rw [Jkr]; by_cases e : j < (bas p m n R pv k).length
    .rw [if_pos e, if_pos e]; exact ⟨by have := (h1 j e).1; omega, (h1 j e).2⟩
    .rw [if_neg e, if_neg e, if_pos (by omega)]; exact ⟨by omega, hin, rfl⟩
   .rw [List.length_append, List.length_singleton] at hj; dsimp only; rw [if_pos (by omega : i < (bas p m n R pv k).length)]; by_cases e : j < (bas p m n R pv k).length
    .rw [if_pos e]; exact h2 i j hij e
    .rw [if_neg e]; exact (h1 i (by omega)).1
theorem Jmt {n t : Nat} {R : LL} {pv : LI} (ht : t < n) : ∀ k, (∀ i, i < k -> (vo pv i).toNat ≠ t) -> vo (YX p m n R pv t k) t = 1
 | 0, _ => by
  show vo ((List.replicate n (0 : Int)).set t 1) t = 1; rw [J5, if_pos ⟨rfl, by rw [List.length_replicate]; exact ht⟩]
 | k + 1, h => by
  rw [YW, J5, if_neg (fun e => h k (by omega) e.1)]; exact Jmt ht k fun i hi => h i (by omega)
theorem Jts (hF : FV P M mf p m v) {u : Nat -> Nat} {A : Nat -> Nat -> Nat} {R' : Nat -> Nat} (hu : ∀ j, u j < p ^ m) (hA : ∀ i j, A i j < p ^ m) (hR : ∀ i, R' i < p ^ m) (n : Nat) : ∀ r,
  fs p m (fun j => Jv p m (dv p v) (u j) (fs p m (fun i => Jv p m (dv p v) (A i j) (R' i)) r)) n = fs p m (fun i => Jv p m (dv p v) (R' i) (fs p m (fun j => Jv p m (dv p v) (u j) (A i j)) n)) r
 | 0 => YH hF _ fun j _ => hF.ring.M0 (hu j)
 | r + 1 => by
  have R := hF.ring; show _ = J0 p m (fs p m _ r) (Jv p m (dv p v) (R' r) (fs p m _ n)); rw [<- Jts hF hu hA hR n r, <- Jfu hF (fun j => R.Ml _ _) (fun j => R.Ml _ _) (hR r)]; refine Zy _ fun j _ => ?_; show Jv p m (dv p v) (u j) (J0 p m _ _) = _; rw [R.Md (hu j) (Zx hF _ _) (R.Ml _ _), R.Mc (hA r j) (hR r), <- R.Ma (hu j) (hR r) (hA r j), R.Mc (hu j) (hR r), R.Ma (hR r) (hu j) (hA r j)]
theorem Qbe (hF : FV P M mf p m v) {B : LL} (hs : shp C B) (he : Els p m B) (fc : Nat -> Nat) (hf : ∀ j, j < B.length -> fc j < C.toNat) (hu : ∀ i j, i < B.length -> j < B.length -> vo (row B i) (fc j) = if i = j then 1 else 0) : (JG p m v C B).length = B.length := by
  have R := hF.ring
  have q1 : 1 < p ^ m := R.q2
  have hle := ZB (p := p) (m := m) (v := v) hs
  rcases Nat.lt_or_ge (JG p m v C B).length B.length with hlt | h
  . exfalso
    have hB := QZ hs
    -- the entries at the pivots, as a matrix of fewer rows than columns
    have hA : ∃ A : LL, A = (List.range (JG p m v C B).length).map fun i => (List.range B.length).map fun j => vo (row B j) (vo (JG p m v C B) i).toNat := ⟨_, rfl⟩
    obtain ⟨A, hA⟩ := hA
    have hAl : A.length = (JG p m v C B).length := by rw [hA]; simp
    have hAr : ∀ i, i < A.length -> row A i = (List.range B.length).map fun j => vo (row B j) (vo (JG p m v C B) i).toNat := fun i hi => by rw [hA]; exact Jck (by omega)
    have hAe : ∀ i, i < A.length -> ∀ j, j < B.length -> vo (row A i) j = vo (row B j) (vo (JG p m v C B) i).toNat := fun i hi j hj => by rw [hAr i hi]; exact Jdo hj
    have hAs : shp (B.length : Int) A := ⟨by omega, by omega, by omega, fun r hr => by
      obtain ⟨i, hi, rfl⟩ := ZN hr
      rw [hAr i hi]; simp⟩
    have hasc := QA (p := p) (m := m) (v := v) C B
    have hAE : Els p m A := Zz fun i hi => Jdu fun j hj => by
      rw [hAr i hi, List.length_map, List.length_range] at hj
      rw [hAe i hi j hj]
      have h5 := hasc.1 i (by omega)
      exact Qb he j _ (Jav (by rw [Qe hs hj]; omega))
    have hal := ZB (p := p) (m := m) (v := v) hAs
    have hascA := QA (p := p) (m := m) (v := v) (B.length : Int) A
    have e0 : ((B.length : Nat) : Int).toNat = B.length := by omega
    have hbl := Joa (p := p) (m := m) (JQ p m v (B.length : Int) A) hascA
    obtain ⟨fa, h1, _⟩ := Jca (p := p) (m := m) (n := ((B.length : Nat) : Int).toNat) (JQ p m v (B.length : Int) A) (JG p m v (B.length : Int) A) ((B.length : Nat) : Int).toNat
    obtain ⟨ht, hnp, _⟩ := h1 0 (by omega)
    generalize fa 0 = t at *
    have hnp' : ∀ i, i < (JG p m v (B.length : Int) A).length -> (vo (JG p m v (B.length : Int) A) i).toNat ≠ t := fun i hi => by
      have h5 := Jig hnp i hi
      have h6 := hascA.1 i hi
      omega
    have hann := Js3 hF hAs hAE ht hnp'
    have hut : en p m (YX p m ((B.length : Nat) : Int).toNat (JQ p m v (B.length : Int) A) (JG p m v (B.length : Int) A) t (JG p m v (B.length : Int) A).length) t = 1 := Za hF q1 (Jmt ht _ hnp')
    have hul := JX hF (YX p m ((B.length : Nat) : Int).toNat (JQ p m v (B.length : Int) A) (JG p m v (B.length : Int) A) t (JG p m v (B.length : Int) A).length)
    generalize en p m (YX p m ((B.length : Nat) : Int).toNat (JQ p m v (B.length : Int) A) (JG p m v (B.length : Int) A) t (JG p m v (B.length : Int) A).length) = u at *
    rw [e0] at hann ht
    have hl := hf t ht
    -- the sum of the rows by u, at t's own column, in two ways
    have s1 : fs p m (fun j => Jv p m (dv p v) (u j) (en p m (row B j) (fc t))) B.length = 1 := by
      have h5 : ∀ j, j < B.length -> en p m (row B j) (fc t) = if j = t then 1 else 0 := fun j hj => by
        have := hu j t hj ht
        by_cases e : j = t
        . rw [if_pos e] at this ⊢; exact Za hF q1 this
        . rw [if_neg e] at this ⊢; exact Za hF (by omega) this
      rw [Zw hF (f := fun j => Jv p m (dv p v) (u j) (en p m (row B j) (fc t))) (j := t) (R.Ml _ _) _ ht fun j hj hne => by
        show Jv p m (dv p v) _ _ = 0
        rw [h5 j hj, if_neg hne, R.M0 (hul j)]]
      show Jv p m (dv p v) _ _ = 1
      rw [h5 t ht, if_pos rfl, hut, R.M1 q1]
    have s2 : fs p m (fun j => Jv p m (dv p v) (u j) (en p m (row B j) (fc t))) B.length = 0 := by
      rw [Zy (h := fun j => Jv p m (dv p v) (u j) (fs p m (fun i => Jv p m (dv p v) (en p m (row B j) (vo (JG p m v C B) i).toNat) (en p m (row (JQ p m v C B) i) (fc t))) (JG p m v C B).length)) B.length fun j hj => by rw [Qbf hF hs he hj hl]]
      rw [Jts hF (A := fun i j => en p m (row B j) (vo (JG p m v C B) i).toNat) (R' := fun i => en p m (row (JQ p m v C B) i) (fc t)) hul (fun i j => JX hF _ _) (fun i => JX hF _ _)]
      refine YH hF _ fun i hi => ?_
      show Jv p m (dv p v) _ _ = 0
      have h5 : fs p m (fun j => Jv p m (dv p v) (u j) (en p m (row B j) (vo (JG p m v C B) i).toNat)) B.length = 0 := by
        have h6 := hann i (by omega)
        unfold dt at h6
        rw [<- h6]
        refine Zy _ fun j hj => ?_
        show Jv p m (dv p v) _ _ = Jv p m (dv p v) _ _
        congr 1
        unfold en
        rw [hAe i (by omega) j hj]
      rw [h5, R.M0 (JX hF _ _)]
    rw [s1] at s2; exact absurd s2 (by decide)
  . omega
theorem Qbm (hF : FV P M mf p m v) (hs : shp C X) (he : Els p m X) : (JQ p m v C (Q3 p m v C X)).length + (JG p m v C X).length = C.toNat := by
  have hasc := QA (p := p) (m := m) (v := v) C X
  obtain ⟨fc, h1, h2⟩ := Jca (p := p) (m := m) (n := C.toNat) (JQ p m v C X) (JG p m v C X) C.toNat
  have hb := Joa (p := p) (m := m) (JQ p m v C X) hasc
  have hnp : ∀ j, j < (Q3 p m v C X).length -> ∀ i, i < (JG p m v C X).length -> (vo (JG p m v C X) i).toNat ≠ fc j := fun j hj i hi => by
    have h5 := Jig (h1 j hj).2.1 i hi
    have h6 := hasc.1 i hi
    omega
  have h5 := Qbe hF (B := Q3 p m v C X) (QU hs) (QV hF) fc (fun j hj => (h1 j hj).1) fun i j hi hj => by
    have e : row (Q3 p m v C X) i = YX p m C.toNat (JQ p m v C X) (JG p m v C X) (fc i) (JG p m v C X).length := (h1 i hi).2.2
    rw [e]
    by_cases e2 : i = j
    . subst e2; rw [if_pos rfl]; exact Jmt (h1 i hi).1 _ (hnp i hi)
    . rw [if_neg e2]
      refine Jby ?_ _ (hnp j hj)
      rcases Nat.lt_or_ge i j with h | h
      . have := h2 i j h hj; omega
      . have := h2 j i (by omega) hi; omega
  rw [Qz (QU hs), h5]
  exact hb
theorem Jcb (hF : FV P M mf p m v) (hs : shp C X) (he : Els p m X) {t : Nat} (ht : t < X.length) : Ann p m (dt p m v C.toNat (en p m (row X t))) (JQ p m v C (Q3 p m v C X)) := by
  have R := hF.ring
  have hasc := QA (p := p) (m := m) (v := v) C X
  refine (Q0 hF (QU hs) (QV hF) (Jf1 hF fun c => JX hF _ c)).2 fun j hj => ?_
  obtain ⟨fc, h1, h2⟩ := Jca (p := p) (m := m) (n := C.toNat) (JQ p m v C X) (JG p m v C X) C.toNat
  have e : row (Q3 p m v C X) j = YX p m C.toNat (JQ p m v C X) (JG p m v C X) (fc j) (JG p m v C X).length := (h1 j hj).2.2
  rw [e]
  have := Js3 hF hs he (h1 j hj).1 (fun i hi => by
    have h5 := Jig (h1 j hj).2.1 i hi
    have h6 := hasc.1 i hi
    omega) t ht
  rw [<- this]
  refine Zy _ fun c _ => ?_
  exact R.Mc (JX hF _ _) (JX hF _ _)
end
end Go.Proofs.YtngdhnijkgjhcaaGreat
namespace Go.Proofs.YtngdhnijkgjhcaaGreat
section
variable {p m v : Nat} {P M : Int} {mf : LI} {X Y : LL} {C : Int} {w : Nat}
theorem Jsp {Q : LL -> Prop} (hF : FV P M mf p m v) (hs : shp C X) (he : Els p m X) (h : Q (JQ p m v C (Q3 p m v C X))) : Je1 P M mf X C Q := by
 obtain ⟨h1, h2, h3⟩ := QQ hs; have hpl := ZB (p := p) (m := m) (v := v) hs; have hcl := Qz (p := p) (m := m) (v := v) hs; have hasc := QA (p := p) (m := m) (v := v) C X; have hrow := fun i (hi : i < (JQ p m v C X).length) => Jb8 (p := p) (m := m) (v := v) hs hi; have hfin := Jhe (Q := fun q => Q q.1) hF (QU (p := p) (m := m) (v := v) hs) (QV hF) h; refine Jhe hF hs he ⟨⟨by omega, by omega, by omega⟩, fun x z => ∃ k : Nat, z = k /\ k <= C.toNat /\ x.length = C.toNat /\ ∀ j, j < k -> vo x j = -1, fun _ z => (C - z).toNat, ⟨0, rfl, Nat.zero_le _, by simp, fun j hj => by omega⟩, ?_⟩; unfold Q3 at hfin; generalize JQ p m v C X = R at *
 generalize JG p m v C X = pv at *
 rintro x _ ⟨k, rfl, hk, hx, hk1⟩; refine ⟨fun hlt => ⟨⟨by omega, by omega⟩, Jz (by omega) (by omega), ⟨k + 1, by push_cast; rfl, by omega, by rw [Qk, List.length_set]; exact hx, fun j hj => ?_⟩, by dsimp only; omega⟩, fun hge => ?_⟩
 .rw [Qk, J5]; by_cases e : k = j
  .rw [if_pos ⟨e, by omega⟩]
  .rw [if_neg (fun hh => e hh.1)]; exact hk1 j (by omega)
 have hk1' : ∀ j, j < C.toNat -> vo x j = -1 := fun j hj => hk1 j (by omega); refine ⟨fun y z => ∃ i : Nat, z = i /\ i <= pv.length /\ y.length = C.toNat /\ ∀ d, d < C.toNat -> (0 <= vo y d ↔ ∃ j, j < i /\ vo pv j = (d : Int)), fun _ z => (pv.length - z).toNat, ⟨0, rfl, Nat.zero_le _, hx, fun d hd => ⟨fun hh => by rw [hk1' d hd] at hh; exact absurd hh (by decide), fun ⟨j, hj, _⟩ => absurd hj (Nat.not_lt_zero _)⟩⟩, ?_⟩; rintro y _ ⟨i, rfl, hi, hy, hy1⟩; refine ⟨fun hlt => ?_, fun hge => ?_⟩
 .have hpi := hasc.1 i (by omega); have hpi' : 0 <= gi pv (i : Int) /\ gi pv (i : Int) < ((C.toNat : Nat) : Int) := hpi; refine ⟨⟨by omega, by omega⟩, hpi', Jz (by omega) (by omega), ⟨i + 1, by push_cast; rfl, by omega, ?_, fun d hd => ?_⟩, by dsimp only; omega⟩
  .show (y.set _ _).length = _; rw [List.length_set]; exact hy
  .show 0 <= vo (y.set (vo pv i).toNat (i : Int)) d ↔ _; rw [J5]; by_cases e : (vo pv i).toNat = d
   .rw [if_pos ⟨e, by omega⟩]; exact ⟨fun _ => ⟨i, by omega, by omega⟩, fun _ => by omega⟩
   .rw [if_neg (fun hh => e hh.1), hy1 d hd]; refine ⟨fun ⟨j, hj, hj'⟩ => ⟨j, by omega, hj'⟩, fun ⟨j, hj, hj'⟩ => ⟨j, ?_, hj'⟩⟩; rcases Nat.lt_or_ge j i with h5 | h5
    .exact h5
    .rw [show j = i by omega] at hj'; omega
 have hy2 : ∀ d, d < C.toNat -> (0 <= vo y d ↔ inP pv d = true) := fun d hd => by
  rw [hy1 d hd, YZ, show i = pv.length by omega]
 refine ⟨fun x z => ∃ k : Nat, z = k /\ k <= C.toNat /\ x = bas p m C.toNat R pv k, fun _ z => (C - z).toNat, ⟨0, rfl, Nat.zero_le _, rfl⟩, ?_⟩; rintro _ _ ⟨k, rfl, hk, rfl⟩; have hbl := Jg1 (p := p) (m := m) C.toNat R pv k; refine ⟨fun hlt => ⟨fun x => x = bas p m C.toNat R pv (k + 1), ⟨⟨by omega, by omega⟩, fun hin => ?_, fun hin => ?_⟩, ?_⟩, fun hge => ?_⟩
 .rw [YM, if_pos ((hy2 k (by omega)).1 hin)]
 .refine ⟨⟨by omega, by omega, by omega⟩, ⟨by omega, by omega⟩, fun x z => ∃ i : Nat, z = i /\ i <= pv.length /\ x = YX p m C.toNat R pv k i, fun _ z => (pv.length - z).toNat, ⟨0, rfl, Nat.zero_le _, rfl⟩, ?_⟩; rintro _ _ ⟨i, rfl, hi', rfl⟩; refine ⟨fun hlt2 => ?_, fun hge2 => ⟨by omega, ?_⟩⟩
  .have hpi := hasc.1 i (by omega); have hpi' : 0 <= gi pv (i : Int) /\ gi pv (i : Int) < ((C.toNat : Nat) : Int) := hpi; refine ⟨⟨by omega, by omega⟩, ⟨by omega, by omega⟩, ⟨by omega, by show (k : Int) < ((row R i).length : Int); rw [hrow i (by omega)]; omega⟩, _, Jpa hF rfl, hpi', Jz (by omega) (by omega), ⟨i + 1, by push_cast; rfl, by omega, ?_⟩, by dsimp only; omega⟩; rw [YW]; rfl
  .rw [YM, if_neg (fun hh => hin ((hy2 k (by omega)).2 hh)), show i = pv.length by omega]
 .rintro _ rfl; exact ⟨Jz (by omega) (by omega), ⟨k + 1, by push_cast; rfl, by omega, rfl⟩, by dsimp only; omega⟩
 .rw [show k = C.toNat by omega]; exact hfin
end
end Go.Proofs.YtngdhnijkgjhcaaGreat
namespace Go.Proofs.YtngdhnijkgjhcaaGreat
section
variable {p m v : Nat} {P M : Int} {mf : LI} {X Y : LL} {C : Int} {w wy : Nat}
def e2 (p m w : Nat) (a b : LI) : Nat -> Nat := fun c => if c < w then en p m a c else en p m b (c - w)
end
end Go.Proofs.YtngdhnijkgjhcaaGreat
namespace Go.Proofs.YtngdhnijkgjhcaaGreat
section
variable {p m v : Nat} {P M : Int} {mf : LI} {X Y : LL} {C : Int} {w wy : Nat}
def u1 (p m w : Nat) (u : Nat -> Nat) : Nat -> Nat := fun c => if c < w then u c else QH p m 1
end
end Go.Proofs.YtngdhnijkgjhcaaGreat
namespace Go.Proofs.YtngdhnijkgjhcaaGreat
end Go.Proofs.YtngdhnijkgjhcaaGreat
