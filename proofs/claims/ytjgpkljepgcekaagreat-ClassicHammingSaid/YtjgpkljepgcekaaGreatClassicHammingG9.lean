/- Contracts of functions of the program, and what they lean on: V6, M1, M2, M3, M4, M5, M6, M7, M8, M9, M10, M11, M12, M13, M14, M15, M16, M17, M18, M19, M20, M21, M22, M23, M24, S1, S2. -/
import Derived.Test.YtjgpkljepgcekaaGreatClassicHammingG8
set_option linter.unusedVariables false
set_option linter.unusedSimpArgs false
namespace Go.Proofs.YtjgpkljepgcekaaGreat
section
variable {F : GFv} {p m v g : Nat}
theorem v_Is {x : Int} {Q : Bool -> Prop} (K : GFk F p m v g) (h : Q (decide (0 <= x /\ x < ((p ^ m : Nat) : Int)))) : V_Is F x Q := by
 refine ⟨fun h0 => ?_, fun h0 => ?_⟩
 .rw [K.q]; simpa [h0] using h
 .simpa [h0] using h
theorem Je8 {x : Int} {Q : Bool -> Prop} (K : GFk F p m v g) (h : Q (decide (inE (p ^ m) x ≠ 0))) : Zu F x Q := by
 unfold inE at h; refine ⟨fun h0 => ?_, fun h0 => ?_⟩
 .rw [K.q]; by_cases hx : x < ((p ^ m : Nat) : Int)
  .rw [if_pos ⟨by omega, hx⟩] at h; rw [decide_eq_true hx]; rw [decide_eq_true (by omega)] at h; exact h
  .rw [if_neg (by omega)] at h; rw [decide_eq_false hx]; exact h
 .by_cases hx : 0 <= x /\ x < ((p ^ m : Nat) : Int)
  .rw [if_pos hx] at h; rw [decide_eq_false (by omega)] at h; exact h
  .rw [if_neg hx] at h; exact h
theorem Jg0 {x : Int} {Q : Int -> Prop} (K : GFk F p m v g) (h : Q ((inE (p ^ m) x : Nat) : Int)) : Zv F x Q := by
 refine v_Is K ⟨fun hb => ?_, fun hb => ?_⟩
 .have hb := of_decide_eq_true hb; unfold inE at h; rw [if_pos hb, Int.toNat_of_nonneg hb.1] at h; exact h
 .have hb := of_decide_eq_false hb; unfold inE at h; rw [if_neg hb] at h; exact h
theorem Jws {q : Nat} {x : Int} (h : inE q x ≠ 0) : x = ((inE q x : Nat) : Int) := by
 unfold inE at h ⊢; split
 .rename_i hc; exact (Int.toNat_of_nonneg hc.1).symm
 .rename_i hc; rw [if_neg hc] at h; exact absurd rfl h
theorem GFk.lg (K : GFk F p m v g) {x : Int} (h : inE (p ^ m) x ≠ 0) : ∃ a : Nat, a < p ^ m - 1 /\ inE (p ^ m) x = pw (Ju p m (dv p v)) g a /\ gi F.log x = (a : Int) /\ (0 <= x /\ x < (F.log.length : Nat)) := by
  have R := K.fv.ring
  have hlt := Qi R.pos x
  obtain ⟨a, ha, he⟩ := K.G.surj R (Nat.pos_of_ne_zero h) hlt
  have hx := Jws h
  refine ⟨a, ha, he.symm, ?_, ?_⟩
  . rw [hx, <- he, JR, K.lv a ha]
  . rw [K.ll]; omega
theorem Jpi {x y : Int} {Q : Int -> Prop} (K : GFk F p m v g) (h : Q ((Ju p m (dv p v) (inE (p ^ m) x) (inE (p ^ m) y) : Nat) : Int)) : Jgh F x y Q := by
 have R := K.fv.ring; have hq := K.fv.q; have hx := Qi R.pos x; have hy := Qi R.pos y; refine Je8 K ⟨fun hb => ?_, fun hb => Je8 K ⟨fun hb2 => ?_, fun hb2 => ?_⟩⟩
 .have h0 : inE (p ^ m) x = 0 := by simpa using hb
  rw [h0, R.Z0 hy] at h; exact h
 .have h0 : inE (p ^ m) y = 0 := by simpa using hb2
  rw [h0, R.M0 hx] at h; exact h
 .obtain ⟨a, ha, ea, la, bx⟩ := K.lg (x := x) (by simpa using hb); obtain ⟨b, hb', eb, lb, by_⟩ := K.lg (x := y) (by simpa using hb2); rw [la, lb]; have hel := K.el; refine ⟨bx, by_, Jt (by omega) (by omega), ⟨by omega, by omega⟩, ?_⟩; rw [show (a : Int) + (b : Int) = ((a + b : Nat) : Int) by push_cast; rfl, JR, K.ev _ (by omega), R.pw_add K.G.lt, <- ea, <- eb]; exact h
theorem Jzj {p m : Nat} {c : Vec} {x : Nat} (hp : 2 <= p) (hm : 0 < m) (hx : x < p ^ m) : Ju p m c (p - 1) x = Yf p m x := by
 unfold Ju Yf; have hd : vcg p (dv p (p - 1)) (vsm (-1) e0) := fun i => by
  cases i with
  | zero =>
   rw [Y3, Nat.mod_eq_of_lt (by omega)]; show ((p - 1 : Nat) : Int) % p = (-1 * 1) % p; rw [show ((p - 1 : Nat) : Int) = -1 * 1 + p * 1 by omega, Int.add_mul_emod_self_left]
  | succ i =>
   rw [ZW, Nat.div_eq_of_lt (by omega), Jf2]; simp [vz, vsm, e0]
 rw [Zd (vcg.mul (vcg.refl c) hd (vcg.refl _))]; have : Yp m c (vsm (-1) e0) (dv p x) = vsm (-1) (dv p x) := by
  show opr m c (dv p x) m (vsm (-1) e0) = _; rw [Jmi, Zn (Yh hx)]
 rw [this]
theorem Jvo {x : Int} {Q : Int -> Prop} (K : GFk F p m v g) (h : Q ((Yf p m (inE (p ^ m) x) : Nat) : Int)) : ZA F x Q := by
 have hp := K.fv.p2; have hpq := K.fv.pq; have h256 := K.fv.p256; have R := K.fv.ring; unfold ZA; rw [K.fv.eP]; refine ⟨Jt (by omega) (by omega), Jpi K ?_⟩; rw [show (p : Int) - 1 = ((p - 1 : Nat) : Int) by omega, Qv (by omega), Jzj hp K.fv.m0 (Qi R.pos x)]; exact h
theorem Juy {m x y : Nat} (hx : x < 2 ^ m) (hy : y < 2 ^ m) : x ^^^ y = JW 2 m x y := by
 refine (nm_eq (by decide) (Nat.xor_lt_two_pow hx hy) fun i hi => ?_).symm; have h := Nat.testBit_xor x y i; rw [Nat.testBit_eq_decide_div_mod_eq, Nat.testBit_eq_decide_div_mod_eq, Nat.testBit_eq_decide_div_mod_eq] at h; simp only [dv, J4]; have h1 := Nat.mod_two_eq_zero_or_one (x / 2 ^ i); have h2 := Nat.mod_two_eq_zero_or_one (y / 2 ^ i); have h3 := Nat.mod_two_eq_zero_or_one ((x ^^^ y) / 2 ^ i); rcases h1 with h1 | h1 <;> rcases h2 with h2 | h2 <;> rcases h3 with h3 | h3 <;> rw [h1, h2, h3] at h <;> rw [h1, h2, h3] <;> first | rfl | exact absurd h (by decide)
theorem v_Add {x y : Int} {Q : Int -> Prop} (K : GFk F p m v g) (h : Q ((JW p m (inE (p ^ m) x) (inE (p ^ m) y) : Nat) : Int)) : Jqx F x y Q := by
 have R := K.fv.ring; have hq := K.fv.q; have hx := Qi R.pos x; have hy := Qi R.pos y; have hq2 := R.q2; refine Jg0 K (Jg0 K ⟨fun h2 => ⟨⟨by omega, by omega, by omega, by omega⟩, ?_⟩, fun h2 => ⟨fun h0 => ?_, fun h0 => ⟨fun h1 => ?_, fun h1 => ?_⟩⟩⟩)
 .have hp2 : p = 2 := by have := K.fv.eP; omega
  subst hp2; rw [<- Juy hx hy] at h; exact h
 .rw [show inE (p ^ m) x = 0 by omega, R.zA hy] at h; exact h
 .rw [show inE (p ^ m) y = 0 by omega, R.Az hx] at h; exact h
 .have hi : ∀ z : Nat, z < p ^ m -> inE (p ^ m) (z : Int) = z := fun z hz => Qv hz; obtain ⟨a, ha, ea, la, bx⟩ := K.lg (x := ((inE (p ^ m) x : Nat) : Int)) (by rw [hi _ hx]; omega); obtain ⟨b, hb, eb, lb, by_⟩ := K.lg (x := ((inE (p ^ m) y : Nat) : Int)) (by rw [hi _ hy]; omega); rw [hi _ hx] at ea; rw [hi _ hy] at eb; rw [la, lb]; have hal := K.al; have hel := K.el; refine ⟨by_, bx, Jt (by omega) (by omega), fun z => ∃ d : Nat, z = d /\ d < p ^ m - 1 /\ pw (Ju p m (dv p v)) g (a + d) = pw (Ju p m (dv p v)) g b, ⟨fun hn => ?_, fun hn => ?_⟩, ?_⟩
  .rw [K.q]; refine ⟨Jt (by omega) (by omega), Jt (by omega) (by omega), b + (p ^ m - 1) - a, by omega, by omega, ?_⟩; have := K.G.per R b 1; rw [Nat.mul_one] at this; rw [show a + (b + (p ^ m - 1) - a) = b + (p ^ m - 1) by omega]; exact this
  .exact ⟨b - a, by omega, by omega, by rw [show a + (b - a) = b by omega]⟩
  .rintro _ ⟨d, rfl, hd, hpd⟩; rw [JR, K.av d hd]; have hgd := R.pw_lt g d; have hga := R.pw_lt g a
   -- x + y = x (g^d + 1)
   have hsum : JW p m (inE (p ^ m) x) (inE (p ^ m) y) = Ju p m (dv p v) (pw (Ju p m (dv p v)) g a) (JW p m (pw (Ju p m (dv p v)) g d) 1) := by
    rw [R.Md hga hgd R.one_lt, R.M1 hga, <- R.pw_add K.G.lt, hpd, <- ea, <- eb, R.Ac]
   rw [hsum] at h; have hsl := R.Al (pw (Ju p m (dv p v)) g d) 1; refine ⟨⟨by omega, by omega⟩, fun hm1 => ?_, fun hm1 => ?_⟩
   .have hz : JW p m (pw (Ju p m (dv p v)) g d) 1 = 0 := by
     rcases Nat.eq_zero_or_pos (JW p m (pw (Ju p m (dv p v)) g d) 1) with h3 | h3
     .exact h3
     .obtain ⟨s, hs, hse⟩ := K.G.surj R h3 hsl; rw [<- hse, K.lv s hs] at hm1; omega
    rw [hz, R.M0 hga] at h; exact h
   .have hnz : 0 < JW p m (pw (Ju p m (dv p v)) g d) 1 := by
     rcases Nat.eq_zero_or_pos (JW p m (pw (Ju p m (dv p v)) g d) 1) with h3 | h3
     .rw [h3, K.l0] at hm1; exact absurd rfl hm1
     .exact h3
    obtain ⟨s, hs, hse⟩ := K.G.surj R hnz hsl; rw [<- hse] at h ⊢; rw [K.lv s hs]; refine ⟨bx, Jt (by omega) (by omega), ⟨by omega, by omega⟩, ?_⟩; rw [show (a : Int) + (s : Int) = ((a + s : Nat) : Int) by push_cast; rfl, JR, K.ev _ (by omega), R.pw_add K.G.lt]; exact h
theorem v_Inv {x : Int} {Q : Int × Int -> Prop} (K : GFk F p m v g) (h0 : inE (p ^ m) x = 0 -> Q (0, 7)) (h1 : ∀ z : Nat, inE (p ^ m) x ≠ 0 -> z < p ^ m -> Ju p m (dv p v) z (inE (p ^ m) x) = 1 -> Q ((z : Int), 0)) : Jqw F x Q := by
 have R := K.fv.ring; have hq := K.fv.q; refine Je8 K ⟨fun hb => h0 (by simpa using hb), fun hb => ?_⟩; have hne : inE (p ^ m) x ≠ 0 := by simpa using hb
 obtain ⟨a, ha, ea, la, bx⟩ := K.lg hne; have hel := K.el; rw [la, K.q]; refine ⟨Jt (by omega) (by omega), bx, Jt (by omega) (by omega), ⟨by omega, by omega⟩, ?_⟩; rw [show ((p ^ m : Nat) : Int) - 1 - (a : Int) = ((p ^ m - 1 - a : Nat) : Int) by omega, JR, K.ev _ (by omega)]; refine h1 _ hne (R.pw_lt g _) ?_; rw [ea, <- R.pw_add K.G.lt, show p ^ m - 1 - a + a = p ^ m - 1 by omega, K.G.one]
theorem Od.uniq {M : Nat -> Nat -> Nat} {x n k : Nat} (h : Od M x n) (h' : Od M x k) : n = k := by
 rcases Nat.lt_trichotomy n k with h1 | h1 | h1
 .exact absurd h.one (h'.least n h.pos h1)
 .exact h1
 .exact absurd h'.one (h.least k h'.pos h1)
theorem Jyw {x : Int} {l : LI} {Q : LI -> Prop} (K : GFk F p m v g) (hl : l.length <= 1000) (h : ∀ r : LI, r.length = l.length -> (∀ i, i < l.length -> vo r i = ((Ju p m (dv p v) (inE (p ^ m) x) (inE (p ^ m) (vo l i)) : Nat) : Int)) -> Q r) : Z3 F x l Q := by
 refine ⟨⟨by omega, by omega, by omega⟩, fun r i => ∃ k : Nat, i = k /\ k <= l.length /\ r.length = l.length /\ ∀ j, j < k -> vo r j = ((Ju p m (dv p v) (inE (p ^ m) x) (inE (p ^ m) (vo l j)) : Nat) : Int), fun r i => (l.length - i).toNat, ⟨0, rfl, Nat.zero_le _, by simp, fun j hj => by omega⟩, ?_⟩; rintro r _ ⟨k, rfl, hk, hr, hv⟩; dsimp only; rw [JR]; refine ⟨fun hlt => ⟨⟨by omega, by omega⟩, Jpi K ⟨⟨by omega, by omega⟩, Jt (by omega) (by omega), ⟨k + 1, by push_cast; rfl, by omega, ?_, fun j hj => ?_⟩, by omega⟩⟩, fun hge => h r hr fun i hi => hv i (by omega)⟩
 .rw [Qn, List.length_set, hr]
 .rw [Qn, J5]; by_cases hkj : k = j
  .subst hkj; rw [if_pos ⟨rfl, by omega⟩]
  .rw [if_neg (fun h => hkj h.1)]; exact hv j (by omega)
end
end Go.Proofs.YtjgpkljepgcekaaGreat
namespace Go.Proofs.YtjgpkljepgcekaaGreat
section
variable (p m v : Nat)
def Ad (x y : Int) : Int := ((JW p m (inE (p ^ m) x) (inE (p ^ m) y) : Nat) : Int)
def Ml (x y : Int) : Int := ((Ju p m (dv p v) (inE (p ^ m) x) (inE (p ^ m) y) : Nat) : Int)
def Ng (x : Int) : Int := ((Yf p m (inE (p ^ m) x) : Nat) : Int)
def Iv (x : Int) : Int := ((((List.range (p ^ m)).find? fun z => Ju p m (dv p v) z (inE (p ^ m) x) == 1).getD 0 : Nat) : Int)
def El (x : Int) : Prop := 0 <= x /\ x < ((p ^ m : Nat) : Int)
def Elr (l : LI) : Prop := ∀ x ∈ l, El p m x
def Els (X : LL) : Prop := ∀ r ∈ X, Elr p m r
def sc (x : Int) (l : LI) : LI := l.map (Ml p m v x)
def adm (a : LI) (x : Int) (o : LI) : LI := (List.range a.length).map fun i => if vo o i = 0 then vo a i else Ad p m (vo a i) (Ml p m v x (vo o i))
def adx (a : LI) (x : Int) (o : LI) : LI := if x = 0 then a else adm p m v a x o
def row (X : LL) (t : Nat) : LI := X.getD t []
def nz (X : LL) (c s : Nat) : Nat := s + ((X.drop s).takeWhile fun r => vo r c == 0).length
def swp (X : LL) (i j : Nat) : LL := (X.set i (row X j)).set j (row X i)
def clr (f : Nat -> Int) (cur : Nat) (X : LL) : LL := (List.range X.length).map fun t => if t = cur then row X t else adx p m v (row X t) (f t) (row X cur)
structure ES where
  X : LL
  Y : LL
  pv : LI
  d : Int
def es1 (c r cur : Nat) (S : ES) : ES :=
  let X1 := if r = cur then S.X else swp S.X r cur
  let Y1 := if r = cur then S.Y else swp S.Y r cur
  let e := vo (row X1 cur) c
  let X2 := X1.set cur (sc p m v (Iv p m v e) (row X1 cur))
  let Y2 := Y1.set cur (sc p m v (Iv p m v e) (row Y1 cur))
  { X := clr p m v (fun t => Ng p m (vo (row X2 t) c)) cur X2, Y := clr p m v (fun t => Ng p m (vo (row X2 t) c)) cur Y2, pv := S.pv ++ [(c : Int)], d := Ml p m v (if r = cur then S.d else Ng p m S.d) e }
def Q2 (S : ES) (c : Nat) : ES :=
  if S.pv.length < S.X.length /\ nz S.X c S.pv.length < S.X.length then es1 p m v c (nz S.X c S.pv.length) S.pv.length S else S
def elim (cols : Nat) (S : ES) : ES := (List.range cols).foldl (Q2 p m v) S
end
theorem QV {X Y : LL} (h : X.length = Y.length) (hv : ∀ i, i < X.length -> row X i = row Y i) : X = Y := by
 apply List.ext_getElem?; intro i; rcases Nat.lt_or_ge i X.length with hi | hi
 .rw [ZS (d := []) hi, ZS (d := []) (ls := Y) (by omega)]; exact congrArg some (hv i hi)
 .rw [List.getElem?_eq_none hi, List.getElem?_eq_none (by omega)]
theorem Q4 (X : LL) (i j : Nat) (l : LI) : row (X.set i l) j = if i = j /\ i < X.length then l else row X j := by
 unfold row; rw [List.getD_eq_getElem?_getD, List.getD_eq_getElem?_getD, List.getElem?_set]; by_cases h : i = j
 .subst h; by_cases hi : i < X.length <;> simp [hi]
 .simp [h]
theorem Jeo {n : Nat} {f : Nat -> LI} {t : Nat} (h : t < n) : row ((List.range n).map f) t = f t := by
 unfold row; rw [List.getD_eq_getElem?_getD]; simp [h]
theorem Jvc {n : Nat} {f : Nat -> Int} {t : Nat} (h : t < n) : vo ((List.range n).map f) t = f t := by
 unfold vo; rw [List.getD_eq_getElem?_getD]; simp [h]
theorem row_hi {X : LL} {t : Nat} (h : X.length <= t) : row X t = [] := by
 unfold row; rw [List.getD_eq_getElem?_getD, List.getElem?_eq_none h]; rfl
theorem Jau {X : LL} {t : Nat} (h : t < X.length) : row X t ∈ X := List.mem_of_getElem? (ZS h)
theorem ZO {X : LL} {r : LI} (h : r ∈ X) : ∃ t, t < X.length /\ row X t = r := by
 obtain ⟨t, ht, e⟩ := List.mem_iff_getElem.1 h; refine ⟨t, ht, ?_⟩; unfold row; rw [List.getD_eq_getElem?_getD, List.getElem?_eq_getElem ht]; exact e
theorem Jmz {l : LI} {x : Int} (h : x ∈ l) : ∃ t, t < l.length /\ vo l t = x := by
 obtain ⟨t, ht, e⟩ := List.mem_iff_getElem.1 h; refine ⟨t, ht, ?_⟩; unfold vo; rw [List.getD_eq_getElem?_getD, List.getElem?_eq_getElem ht]; exact e
theorem Jbs {l : LI} {t : Nat} (h : t < l.length) : vo l t ∈ l := List.mem_of_getElem? (ZS h)
theorem Jem (X : LL) (i j : Nat) : (swp X i j).length = X.length := by simp [swp]
theorem ZK {X : LL} {i j t : Nat} (hi : i < X.length) (hj : j < X.length) : row (swp X i j) t = if t = j then row X i else if t = i then row X j else row X t := by
 unfold swp; rw [Q4, Q4, List.length_set]; by_cases h1 : t = j
 .subst h1; simp [hj]
 .by_cases h2 : t = i
  .subst h2; simp [hi, Ne.symm h1, h1]
  .simp [Ne.symm h1, Ne.symm h2, h1, h2]
theorem Jvu {X : LL} {i j : Nat} (hi : i < X.length) (hj : j < X.length) : swp X i j = swp X j i := by
 refine QV (by rw [Jem, Jem]) fun t ht => ?_; rw [ZK hi hj, ZK hj hi]; by_cases h1 : t = j <;> by_cases h2 : t = i <;> simp_all
theorem Jvt {X : LL} {i : Nat} (hi : i < X.length) : swp X i i = X := by
 refine QV (Jem _ _ _) fun t ht => ?_; rw [ZK hi hi]; by_cases h1 : t = i <;> simp_all
theorem ZN (X : LL) (c : Nat) : ∀ s, s <= X.length -> nz X c s <= X.length /\ (∀ t, s <= t -> t < nz X c s -> vo (row X t) c = 0) /\ (nz X c s < X.length -> vo (row X (nz X c s)) c ≠ 0) := by
 have key : ∀ (n s : Nat), n + s = X.length -> nz X c s <= X.length /\ (∀ t, s <= t -> t < nz X c s -> vo (row X t) c = 0) /\ (nz X c s < X.length -> vo (row X (nz X c s)) c ≠ 0) := by
  intro n
  induction n with
  | zero =>
   intro s hs; have hd : X.drop s = [] := List.drop_eq_nil_of_le (by omega); have e : nz X c s = s := by unfold nz; rw [hd]; rfl
   rw [e]; exact ⟨by omega, fun t h1 h2 => by omega, fun h => by omega⟩
  | succ n ih =>
   intro s hs; have hlt : s < X.length := by omega
   have hd : X.drop s = row X s :: X.drop (s + 1) := by
    rw [List.drop_eq_getElem_cons hlt]
    congr 1
    unfold row; rw [List.getD_eq_getElem?_getD, List.getElem?_eq_getElem hlt]; rfl
   by_cases h0 : vo (row X s) c = 0
   .have e : nz X c s = nz X c (s + 1) := by
     unfold nz; rw [hd, List.takeWhile_cons, if_pos (by simp [h0]), List.length_cons]; omega
    obtain ⟨h1, h2, h3⟩ := ih (s + 1) (by omega); rw [e]; refine ⟨h1, fun t ht1 ht2 => ?_, h3⟩; rcases Nat.eq_or_lt_of_le ht1 with rfl | h
    .exact h0
    .exact h2 t h ht2
   .have e : nz X c s = s := by
     unfold nz; rw [hd, List.takeWhile_cons, if_neg (by simpa using h0)]; rfl
    rw [e]; exact ⟨by omega, fun t h1 h2 => by omega, fun _ => h0⟩
 exact fun s hs => key (X.length - s) s (by omega)
theorem Jp1 (X : LL) (c s : Nat) : s <= nz X c s := Nat.le_add_right _ _
theorem Jkm {X : LL} {c s r : Nat} (hs : s <= r) (hr : r <= X.length) (h1 : ∀ t, s <= t -> t < r -> vo (row X t) c = 0) (h2 : r < X.length -> vo (row X r) c ≠ 0) : r = nz X c s := by
 obtain ⟨a, b, d⟩ := ZN X c s (by omega); have := Jp1 X c s; rcases Nat.lt_trichotomy r (nz X c s) with h | h | h
 .exact absurd (b r hs h) (h2 (by omega))
 .exact h
 .exact absurd (h1 _ this h) (d (by omega))
section
variable {p m v : Nat}
theorem Jcx (a : LI) (x : Int) (o : LI) : (adm p m v a x o).length = a.length := by simp [adm]
theorem Jiz (a : LI) (x : Int) (o : LI) : (adx p m v a x o).length = a.length := by
 unfold adx; split
 .rfl
 .exact Jcx ..
theorem Jdj (x : Int) (l : LI) : (sc p m v x l).length = l.length := by simp [sc]
theorem YG (f : Nat -> Int) (cur : Nat) (X : LL) : (clr p m v f cur X).length = X.length := by simp [clr]
theorem YZ {f : Nat -> Int} {cur t : Nat} {X : LL} (h : t < X.length) : row (clr p m v f cur X) t = if t = cur then row X t else adx p m v (row X t) (f t) (row X cur) := Jeo h
theorem Jaa {a o : LI} {x : Int} {t : Nat} (h : t < a.length) : vo (adm p m v a x o) t = if vo o t = 0 then vo a t else Ad p m (vo a t) (Ml p m v x (vo o t)) := Jvc h
theorem Je2 {x : Int} {l : LI} {t : Nat} (h : t < l.length) : vo (sc p m v x l) t = Ml p m v x (vo l t) := by
 unfold vo sc; rw [List.getD_eq_getElem?_getD, List.getElem?_map, List.getD_eq_getElem?_getD, List.getElem?_eq_getElem h]; rfl
end
section
variable {F : GFv} {p m v g : Nat} {P M : Int} {mf : LI} {X : LL}
theorem Jgl {l : LI} {Q : Bool -> Prop} (K : GFk F p m v g) (hl : l.length <= 1000000) (h1 : Elr p m l -> Q true) (h2 : ¬ Elr p m l -> Q false) : Yu F l Q := by
 refine ⟨fun z => ∃ t : Nat, z = t /\ t <= l.length /\ ∀ k, k < t -> El p m (vo l k), fun z => (l.length - z).toNat, ⟨0, rfl, Nat.zero_le _, fun k h => by omega⟩, ?_⟩; rintro _ ⟨t, rfl, ht, hk⟩; dsimp only; rw [JR]; refine ⟨fun hlt => ⟨⟨by omega, by omega⟩, v_Is K ?_⟩, fun hge => h1 fun x hx => ?_⟩
 .by_cases he : El p m (vo l t)
  .rw [decide_eq_true (show 0 <= vo l t /\ vo l t < ((p ^ m : Nat) : Int) from he)]; refine ⟨fun h => absurd h (by decide), fun _ => ⟨Jt (by omega) (by omega), ⟨t + 1, by push_cast; rfl, by omega, fun k hk' => ?_⟩, by omega⟩⟩; rcases Nat.lt_or_ge k t with h | h
   .exact hk k h
   .rw [show k = t by omega]; exact he
  .rw [decide_eq_false (show ¬ (0 <= vo l t /\ vo l t < ((p ^ m : Nat) : Int)) from he)]; exact ⟨fun _ => h2 fun h => he (h _ (Jbs (by omega))), fun h => absurd h (by decide)⟩
 .obtain ⟨t', h3, rfl⟩ := Jmz hx; exact hk t' (by omega)
theorem Je0 {l : LI} {Q : Int -> Prop} (hF : FV P M mf p m v) (hl : l.length <= 1000000) (h1 : Elr p m l -> Q 0) (h2 : ¬ Elr p m l -> Q 2) : ZZ P M mf l Q := by
 refine ⟨fun z => ∃ t : Nat, z = t /\ t <= l.length /\ ∀ k, k < t -> El p m (vo l k), fun z => (l.length - z).toNat, ⟨0, rfl, Nat.zero_le _, fun k h => by omega⟩, ?_⟩; rintro _ ⟨t, rfl, ht, hk⟩; dsimp only; rw [JR]; refine ⟨fun hlt => ⟨⟨by omega, by omega⟩, _, v_rIs hF rfl, ?_⟩, fun hge => h1 fun x hx => ?_⟩
 .by_cases he : El p m (vo l t)
  .rw [decide_eq_true (show 0 <= vo l t /\ vo l t < ((p ^ m : Nat) : Int) from he)]; refine ⟨fun h => absurd h (by decide), fun _ => ⟨Jt (by omega) (by omega), ⟨t + 1, by push_cast; rfl, by omega, fun k hk' => ?_⟩, by omega⟩⟩; rcases Nat.lt_or_ge k t with h | h
   .exact hk k h
   .rw [show k = t by omega]; exact he
  .rw [decide_eq_false (show ¬ (0 <= vo l t /\ vo l t < ((p ^ m : Nat) : Int)) from he)]; exact ⟨fun _ => h2 fun h => he (h _ (Jbs (by omega))), fun h => absurd h (by decide)⟩
 .obtain ⟨t', h3, rfl⟩ := Jmz hx; exact hk t' (by omega)
def shp (C : Int) (X : LL) : Prop := 0 <= C /\ C <= 256 /\ X.length <= 256 /\ ∀ r ∈ X, (r.length : Int) = C
theorem Jl0 {C : Int} {Q : Bool -> Prop} (h1 : shp C X -> Q true) (h2 : ¬ shp C X -> Q false) : YW C X Q := by
 refine ⟨fun h => h2 fun s => by have := s.1; omega, fun h0 => ⟨fun h => h2 fun s => by have := s.2.1; omega, fun h3 => ⟨fun h => h2 fun s => by have := s.2.2.1; omega, fun h4 => ?_⟩⟩⟩; refine ⟨fun z => ∃ t : Nat, z = t /\ t <= X.length /\ ∀ k, k < t -> ((row X k).length : Int) = C, fun z => (X.length - z).toNat, ⟨0, rfl, Nat.zero_le _, fun k h => by omega⟩, ?_⟩; rintro _ ⟨t, rfl, ht, hk⟩; dsimp only; refine ⟨fun hlt => ⟨⟨by omega, by omega⟩, fun hne => h2 fun s => hne (s.2.2.2 _ (Jau (by omega))), fun he => ⟨Jt (by omega) (by omega), ⟨t + 1, by push_cast; rfl, by omega, fun k hk' => ?_⟩, by omega⟩⟩, fun hge => h1 ⟨by omega, by omega, by omega, fun r hr => ?_⟩⟩
 .rcases Nat.lt_or_ge k t with h | h
  .exact hk k h
  .rw [show k = t by omega]; exact Classical.not_not.1 he
 .obtain ⟨t', h3, rfl⟩ := ZO hr; exact hk t' (by omega)
theorem Ju6 {Q : LL -> Prop} (hX : X.length <= 1000000) (hr : ∀ r ∈ X, r.length <= 1000000) (h : Q X) : Jdb X Q := by
 refine ⟨⟨by omega, by omega, by omega⟩, fun x z => ∃ t : Nat, z = t /\ t <= X.length /\ x.length = X.length /\ ∀ k, k < t -> row x k = row X k, fun x z => (X.length - z).toNat, ⟨0, rfl, Nat.zero_le _, by simp, fun k h => by omega⟩, ?_⟩; rintro x _ ⟨t, rfl, ht, hx, hk⟩; dsimp only; refine ⟨fun hlt => ⟨⟨by omega, by omega⟩, Jch (hr _ (Jau (t := t) (by omega))) ⟨⟨by omega, by omega⟩, Jt (by omega) (by omega), ⟨t + 1, by push_cast; rfl, by omega, ?_, fun k hk' => ?_⟩, ?_⟩⟩, fun hge => ?_⟩
 .rw [Jy0]; exact hx
 .show row (x.set t (row X t)) k = row X k; rw [Q4]; by_cases e : t = k
  .rw [if_pos ⟨e, by omega⟩, e]
  .rw [if_neg (fun h => e h.1)]; exact hk k (by omega)
 .omega
 .rw [show x = X from QV hx fun i hi => hk i (by omega)]; exact h
theorem Jys {c s : Nat} {Q : Int -> Prop} (hs : s <= X.length) (hX : X.length <= 1000000) (hc : ∀ t, t < X.length -> c < (row X t).length) (h : Q ((nz X c s : Nat) : Int)) : Yn X s c Q := by
 refine ⟨fun r => r = ((nz X c s : Nat) : Int), ⟨fun z => ∃ t : Nat, z = t /\ s <= t /\ t <= X.length /\ ∀ k, s <= k -> k < t -> vo (row X k) c = 0, fun z => (X.length - z).toNat, ⟨s, rfl, Nat.le_refl _, hs, fun k h1 h2 => by omega⟩, ?_⟩, ?_⟩
 .rintro _ ⟨t, rfl, h1, h2, h3⟩; dsimp only; refine ⟨fun hlt => ⟨⟨by omega, by omega⟩, ⟨by omega, by have := hc t (by omega); show (c : Int) < ((row X t).length : Nat); omega⟩, fun he => ⟨Jt (by omega) (by omega), ⟨t + 1, by push_cast; rfl, by omega, by omega, fun k hk1 hk2 => ?_⟩, by omega⟩, fun hne => ?_⟩, fun hge => ?_⟩
  .rcases Nat.lt_or_ge k t with h | h
   .exact h3 k hk1 h
   .rw [show k = t by omega]; exact he
  .exact congrArg _ (Jkm h1 h2 h3 fun _ => hne)
  .exact congrArg _ (Jkm h1 h2 h3 fun h => by omega)
 .rintro _ rfl; exact h
theorem Jbl {a o : LI} {x : Int} {Q : LI -> Prop} (K : GFk F p m v g) (hl : o.length <= a.length) (ha : a.length <= 1000000) (h : Q (adx p m v a x o)) : Qa F a x o Q := by
 refine ⟨fun h0 => by unfold adx at h; rwa [if_pos h0] at h, fun h0 => ?_⟩; unfold adx at h; rw [if_neg h0] at h; refine ⟨fun y z => ∃ t : Nat, z = t /\ t <= o.length /\ y.length = a.length /\ ∀ k, k < a.length -> vo y k = if k < t then vo (adm p m v a x o) k else vo a k, fun y z => (o.length - z).toNat, ⟨0, rfl, Nat.zero_le _, rfl, fun k hk => by simp⟩, ?_⟩; rintro y _ ⟨t, rfl, ht, hy, hk⟩; dsimp only; rw [JR, JR]; refine ⟨fun hlt => ⟨fun y' => y'.length = a.length /\ ∀ k, k < a.length -> vo y' k = if k < t + 1 then vo (adm p m v a x o) k else vo a k, ⟨⟨by omega, by omega⟩, fun hne => ⟨⟨by omega, by omega⟩, _, Jpi K rfl, _, v_Add K rfl, ⟨by omega, by omega⟩, ?_⟩, fun he => ?_⟩, ?_⟩, fun hge => ?_⟩
 .rw [Qn]; refine ⟨by rw [List.length_set]; exact hy, fun k hk' => ?_⟩; rw [J5]; by_cases e : t = k
  .subst e; rw [if_pos ⟨rfl, by omega⟩, if_pos (by omega), Jaa hk', if_neg hne, hk t hk', if_neg (by omega)]; rfl
  .rw [if_neg (fun h => e h.1), hk k hk']; by_cases hkt : k < t
   .rw [if_pos hkt, if_pos (by omega)]
   .rw [if_neg hkt, if_neg (by omega)]
 .have he' : vo o t = 0 := Classical.not_not.1 he; refine ⟨hy, fun k hk' => ?_⟩; rw [hk k hk']; by_cases e : k = t
  .subst e; rw [if_neg (by omega), if_pos (by omega), Jaa hk', if_pos he']
  .by_cases hkt : k < t
   .rw [if_pos hkt, if_pos (by omega)]
   .rw [if_neg hkt, if_neg (by omega)]
 .rintro y' ⟨h1, h2⟩; exact ⟨Jt (by omega) (by omega), ⟨t + 1, by push_cast; rfl, by omega, h1, h2⟩, by omega⟩
 .have : y = adm p m v a x o := Zc (by rw [Jcx]; exact hy) fun i hi => by
   rw [hk i (by omega)]; by_cases hit : i < t
   .rw [if_pos hit]
   .rw [if_neg hit, Jaa (by omega), if_pos (Jd3 (by omega))]
  rw [this]; exact h
theorem Jpe {x : Int} {l : LI} {Q : LI -> Prop} (K : GFk F p m v g) (hl : l.length <= 1000) (h : Q (sc p m v x l)) : Z3 F x l Q := Jyw K hl fun r h1 h2 => by
 have : r = sc p m v x l := Zc (by rw [Jdj]; exact h1) fun i hi => by rw [h2 i (by omega), Je2 (by omega)]; rfl
 rw [this]; exact h
theorem Ju1 {x : Int} {l : LI} {Q : LI -> Prop} (hF : FV P M mf p m v) (hl : l.length <= 1000) (h : Q (sc p m v x l)) : Jc3 P M mf x l Q := by
 refine ⟨⟨by omega, by omega, by omega⟩, fun y z => ∃ t : Nat, z = t /\ t <= l.length /\ y.length = l.length /\ ∀ k, k < t -> vo y k = vo (sc p m v x l) k, fun y z => (l.length - z).toNat, ⟨0, rfl, Nat.zero_le _, by simp, fun k h => by omega⟩, ?_⟩; rintro y _ ⟨t, rfl, ht, hy, hk⟩; dsimp only; rw [JR]; refine ⟨fun hlt => ⟨⟨by omega, by omega⟩, _, Jl5 hF rfl, ⟨by omega, by omega⟩, Jt (by omega) (by omega), ⟨t + 1, by push_cast; rfl, by omega, ?_, fun k hk' => ?_⟩, by omega⟩, fun hge => ?_⟩
 .rw [Qn, List.length_set]; exact hy
 .rw [Qn, J5]; by_cases e : t = k
  .subst e; rw [if_pos ⟨rfl, by omega⟩, Je2 (by omega)]; rfl
  .rw [if_neg (fun h => e h.1)]; exact hk k (by omega)
 .rw [show y = sc p m v x l from Zc (by rw [Jdj]; exact hy) fun i hi => hk i (by omega)]; exact h
theorem Ju4 {a u : LI} {x : Int} {Q : LI -> Prop} (hF : FV P M mf p m v) (hl : a.length <= u.length) (ha : a.length <= 1000000) (h : Q (adm p m v a x u)) : Jc7 P M mf a x u Q := by
 refine ⟨⟨by omega, by omega, by omega⟩, fun y z => ∃ t : Nat, z = t /\ t <= a.length /\ y.length = a.length /\ ∀ k, k < t -> vo y k = vo (adm p m v a x u) k, fun y z => (a.length - z).toNat, ⟨0, rfl, Nat.zero_le _, by simp, fun k h => by omega⟩, ?_⟩; rintro y _ ⟨t, rfl, ht, hy, hk⟩; dsimp only; rw [JR, JR]; refine ⟨fun hlt => ⟨fun y' => y'.length = a.length /\ ∀ k, k < t + 1 -> vo y' k = vo (adm p m v a x u) k, ⟨⟨by omega, by omega⟩, ⟨by omega, by omega⟩, ⟨by omega, by omega⟩, fun hne => ⟨⟨by omega, by omega⟩, ⟨by omega, by omega⟩, _, Jl5 hF rfl, _, v_rAdd hF rfl, ⟨by omega, by omega⟩, ?_⟩, fun he => ?_⟩, ?_⟩, fun hge => ?_⟩
 .rw [Qn, Qn]; refine ⟨by rw [List.length_set, List.length_set]; exact hy, fun k hk' => ?_⟩; rw [J5, List.length_set]; by_cases e : t = k
  .subst e; rw [if_pos ⟨rfl, by omega⟩, Jaa (by omega), if_neg hne]; rfl
  .rw [if_neg (fun h => e h.1), J5, if_neg (fun h => e h.1)]; exact hk k (by omega)
 .have he' : vo u t = 0 := Classical.not_not.1 he; rw [Qn]; refine ⟨by rw [List.length_set]; exact hy, fun k hk' => ?_⟩; rw [J5]; by_cases e : t = k
  .subst e; rw [if_pos ⟨rfl, by omega⟩, Jaa (by omega), if_pos he']
  .rw [if_neg (fun h => e h.1)]; exact hk k (by omega)
 .rintro y' ⟨h1, h2⟩; exact ⟨Jt (by omega) (by omega), ⟨t + 1, by push_cast; rfl, by omega, h1, h2⟩, by omega⟩
 .rw [show y = adm p m v a x u from Zc (by rw [Jcx]; exact hy) fun i hi => hk i (by omega)]; exact h
theorem Jyq {Q : LL -> Prop} (hX : X.length <= 1000000) (hr : ∀ r ∈ X, r.length <= 1000000) (h : Q X) : Jey X Q := by
 refine ⟨fun x z => ∃ t : Nat, z = t /\ t <= X.length /\ x = X.take t, fun x z => (X.length - z).toNat, ⟨0, rfl, Nat.zero_le _, rfl⟩, ?_⟩; rintro _ _ ⟨t, rfl, ht, rfl⟩; dsimp only; refine ⟨fun hlt => ?_, fun hge => by rw [List.take_of_length_le (by omega)]; exact h⟩; have h1 := hr _ (Jau (t := t) (X := X) (by omega)); refine ⟨⟨by omega, by omega⟩, ?_, ?_, Jt (by omega) (by omega), ⟨t + 1, by push_cast; rfl, by omega, ?_⟩, by omega⟩
 .show ((0 : Nat) + ((row X t).length : Nat) : Int) * 8 <= _; omega
 .rw [List.length_take]; omega
 .show X.take t ++ [[] ++ row X t] = _; rw [List.take_add_one, ZS (d := []) (by omega)]; rfl
end
end Go.Proofs.YtjgpkljepgcekaaGreat
namespace Go.Proofs.YtjgpkljepgcekaaGreat
structure Shp (n w wy : Nat) (S : ES) : Prop where
  xl : S.X.length = n
  xr : ∀ t, t < n -> (row S.X t).length = w
  yl : S.Y.length = n
  yr : ∀ t, t < n -> (row S.Y t).length = wy
  pl : S.pv.length <= n
section
variable {p m v n w wy : Nat}
theorem Jjt {X : LL} {i j t w : Nat} (hi : i < X.length) (hj : j < X.length) (h : ∀ t, t < X.length -> (row X t).length = w) (ht : t < X.length) : (row (swp X i j) t).length = w := by
 rw [ZK hi hj]; split
 .exact h _ hi
 .split
  .exact h _ hj
  .exact h _ ht
def swq (X : LL) (r cur : Nat) : LL := if r = cur then X else swp X r cur
theorem JZ (X : LL) (r cur : Nat) : (swq X r cur).length = X.length := by
 unfold swq; split
 .rfl
 .exact Jem ..
theorem QN {X : LL} {i j t w : Nat} (hi : i < X.length) (hj : j < X.length) (h : ∀ t, t < X.length -> (row X t).length = w) (ht : t < X.length) : (row (swq X i j) t).length = w := by
 unfold swq; split
 .exact h _ ht
 .exact Jjt hi hj h ht
def scq (p m v : Nat) (X : LL) (cur : Nat) (e : Int) : LL := X.set cur (sc p m v (Iv p m v e) (row X cur))
theorem Qz (X : LL) (cur : Nat) (e : Int) : (scq p m v X cur e).length = X.length := by simp [scq]
theorem QP {X : LL} {cur t w : Nat} {e : Int} (hc : cur < X.length) (h : ∀ t, t < X.length -> (row X t).length = w) (ht : t < X.length) : (row (scq p m v X cur e) t).length = w := by
 unfold scq; rw [Q4]; split
 .rw [Jdj]; exact h _ hc
 .exact h _ ht
theorem Jeb {X : LL} {f : Nat -> Int} {cur t w : Nat} (h : ∀ t, t < X.length -> (row X t).length = w) (ht : t < X.length) : (row (clr p m v f cur X) t).length = w := by
 rw [YZ ht]; split
 .exact h _ ht
 .rw [Jiz]; exact h _ ht
theorem Jbq (c r cur : Nat) (S : ES) : (es1 p m v c r cur S).X = clr p m v (fun t => Ng p m (vo (row (scq p m v (swq S.X r cur) cur (vo (row (swq S.X r cur) cur) c)) t) c)) cur (scq p m v (swq S.X r cur) cur (vo (row (swq S.X r cur) cur) c)) := rfl
theorem Jw0 (c r cur : Nat) (S : ES) : (es1 p m v c r cur S).Y = clr p m v (fun t => Ng p m (vo (row (scq p m v (swq S.X r cur) cur (vo (row (swq S.X r cur) cur) c)) t) c)) cur (scq p m v (swq S.Y r cur) cur (vo (row (swq S.X r cur) cur) c)) := rfl
theorem Jzy {c r cur : Nat} {S : ES} (h : Shp n w wy S) (hr : r < n) (hc : cur < n) (hp : S.pv.length < n) : Shp n w wy (es1 p m v c r cur S) := by
 have hx := h.xl; have hy := h.yl; have ax : ∀ t, t < S.X.length -> (row S.X t).length = w := fun t ht => h.xr t (by omega); have ay : ∀ t, t < S.Y.length -> (row S.Y t).length = wy := fun t ht => h.yr t (by omega); refine ⟨?_, fun t ht => ?_, ?_, fun t ht => ?_, ?_⟩
 .rw [Jbq, YG, Qz, JZ]; exact hx
 .rw [Jbq]; refine Jeb (fun t ht => ?_) (by rw [Qz, JZ]; omega); rw [Qz, JZ] at ht; refine QP (by rw [JZ]; omega) (fun t ht => ?_) (by rw [JZ]; omega); rw [JZ] at ht; exact QN (by omega) (by omega) ax ht
 .rw [Jw0, YG, Qz, JZ]; exact hy
 .rw [Jw0]; refine Jeb (fun t ht => ?_) (by rw [Qz, JZ]; omega); rw [Qz, JZ] at ht; refine QP (by rw [JZ]; omega) (fun t ht => ?_) (by rw [JZ]; omega); rw [JZ] at ht; exact QN (by omega) (by omega) ay ht
 .show (S.pv ++ [(c : Int)]).length <= n; rw [List.length_append]; simp; omega
theorem Jr5 {c : Nat} {S : ES} (h : Shp n w wy S) : Shp n w wy (Q2 p m v S c) := by
 unfold Q2; split
 .rename_i hc
  exact Jzy h (by have := h.xl; omega) (by have := h.xl; omega) (by have := h.xl; omega)
 .exact h
theorem QK (k : Nat) (S : ES) : elim p m v (k + 1) S = Q2 p m v (elim p m v k S) k := by
 unfold elim; rw [List.range_succ, List.foldl_append]; rfl
theorem YN {S : ES} (h : Shp n w wy S) : ∀ k, Shp n w wy (elim p m v k S)
 | 0 => h
 | k + 1 => by rw [QK]; exact Jr5 (YN h k)
theorem Jdv {S : ES} {k : Nat} (h : ¬ (elim p m v k S).pv.length < (elim p m v k S).X.length) : ∀ j, elim p m v (k + j) S = elim p m v k S
 | 0 => rfl
 | j + 1 => by
  rw [<- Nat.add_assoc, QK, Jdv h j]; unfold Q2; rw [if_neg (fun hc => h hc.1)]
end
section
variable {F : GFv} {p m v g : Nat} {P M : Int} {mf : LI} {X Y : LL}
theorem Jqz (R : CR (p ^ m) (JW p m) (Ju p m (dv p v))) {x : Int} {z : Nat} (hx : inE (p ^ m) x < p ^ m) (hz : z < p ^ m) (h : Ju p m (dv p v) z (inE (p ^ m) x) = 1) : Iv p m v x = (z : Int) := by
 unfold Iv; cases hf : (List.range (p ^ m)).find? fun z => Ju p m (dv p v) z (inE (p ^ m) x) == 1 with
 | none =>
  have := List.find?_eq_none.1 hf z (List.mem_range.2 hz); simp [h] at this
 | some y =>
  have h1 := List.find?_some hf; have h2 := List.mem_range.1 (List.mem_of_find?_eq_some hf); have h1' : Ju p m (dv p v) y (inE (p ^ m) x) = 1 := by simpa using h1
  show (y : Int) = z; have e : y = z := by
   have q1 : 1 < p ^ m := R.q2
   calc y = Ju p m (dv p v) y 1 := (R.M1 h2).symm
    _ = Ju p m (dv p v) y (Ju p m (dv p v) z (inE (p ^ m) x)) := by rw [h]
    _ = Ju p m (dv p v) y (Ju p m (dv p v) (inE (p ^ m) x) z) := by rw [R.Mc hz hx]
    _ = Ju p m (dv p v) (Ju p m (dv p v) y (inE (p ^ m) x)) z := (R.Ma h2 hx hz).symm
    _ = Ju p m (dv p v) 1 z := by rw [h1']
    _ = Ju p m (dv p v) z 1 := R.Mc q1 hz
    _ = z := R.M1 hz
  rw [e]
theorem Qaw (R : CR (p ^ m) (JW p m) (Ju p m (dv p v))) {x : Int} (hx : inE (p ^ m) x = 0) : Iv p m v x = 0 := by
 unfold Iv; cases hf : (List.range (p ^ m)).find? fun z => Ju p m (dv p v) z (inE (p ^ m) x) == 1 with
 | none => rfl
 | some y =>
  have h1 := List.find?_some hf; have h2 := List.mem_range.1 (List.mem_of_find?_eq_some hf); rw [hx, R.M0 h2] at h1; simp at h1
def prt (p m v : Nat) (f : Nat -> Int) (cur t : Nat) (X : LL) : LL := (List.range X.length).map fun s => if s < t /\ s ≠ cur then adx p m v (row X s) (f s) (row X cur) else row X s
theorem Yc (f : Nat -> Int) (cur t : Nat) (X : LL) : (prt p m v f cur t X).length = X.length := by simp [prt]
theorem QU {f : Nat -> Int} {cur t s : Nat} (h : s < X.length) : row (prt p m v f cur t X) s = if s < t /\ s ≠ cur then adx p m v (row X s) (f s) (row X cur) else row X s := Jeo h
theorem Jfj (f : Nat -> Int) (cur : Nat) : prt p m v f cur 0 X = X := QV (Yc ..) fun i hi => by
 rw [Yc] at hi; rw [QU hi, if_neg (by omega)]
theorem Jhv (f : Nat -> Int) (cur : Nat) : prt p m v f cur X.length X = clr p m v f cur X := QV (by rw [Yc, YG]) fun i hi => by
 rw [Yc] at hi; rw [QU hi, YZ hi]; by_cases h : i = cur
 .rw [if_neg (fun hh => hh.2 h), if_pos h]
 .rw [if_pos ⟨hi, h⟩, if_neg h]
theorem prt_same {f : Nat -> Int} {cur : Nat} : prt p m v f cur (cur + 1) X = prt p m v f cur cur X := QV (by rw [Yc, Yc]) fun i hi => by
 rw [Yc] at hi; rw [QU hi, QU hi]; by_cases h : i = cur
 .rw [if_neg (fun hh => hh.2 h), if_neg (fun hh => hh.2 h)]
 .by_cases h1 : i < cur
  .rw [if_pos ⟨by omega, h⟩, if_pos ⟨h1, h⟩]
  .rw [if_neg (fun hh => h1 (by omega)), if_neg (fun hh => h1 hh.1)]
theorem Jcm {f : Nat -> Int} {cur t : Nat} (ht : t < X.length) (hc : t ≠ cur) : (prt p m v f cur t X).set t (adx p m v (row X t) (f t) (row X cur)) = prt p m v f cur (t + 1) X := QV (by rw [List.length_set, Yc, Yc]) fun i hi => by
 rw [List.length_set, Yc] at hi; rw [Q4, Yc, QU (t := t + 1) hi]; by_cases h : t = i
 .subst h; rw [if_pos ⟨rfl, ht⟩, if_pos ⟨by omega, hc⟩]
 .rw [if_neg (fun hh => h hh.1), QU hi]; by_cases h1 : i < t
  .by_cases h2 : i = cur
   .rw [if_neg (fun hh => hh.2 h2), if_neg (fun hh => hh.2 h2)]
   .rw [if_pos ⟨h1, h2⟩, if_pos ⟨by omega, h2⟩]
  .rw [if_neg (fun hh => h1 hh.1), if_neg (fun hh => h1 (by omega))]
theorem Jjn {cols wy : Nat} {Q : LI × Int × LL × LL -> Prop} (K : GFk F p m v g) (hX : X.length <= 300) (hc : cols <= 300) (hw : wy <= 300) (hS : Shp X.length cols wy ⟨X, Y, [], 1⟩)
  (h : Q ((elim p m v cols ⟨X, Y, [], 1⟩).pv, (elim p m v cols ⟨X, Y, [], 1⟩).d, (elim p m v cols ⟨X, Y, [], 1⟩).X, (elim p m v cols ⟨X, Y, [], 1⟩).Y)) : YD F cols X Y Q := by
 have hYl : Y.length = X.length := hS.yl; generalize hS0 : (⟨X, Y, [], 1⟩ : ES) = S0 at h hS; refine ⟨fun a b c d => (⟨a, b, c, d⟩ : ES) = elim p m v cols S0, ⟨fun a b c d z => ∃ k : Nat, z = k /\ k <= cols /\ (⟨a, b, c, d⟩ : ES) = elim p m v k S0, fun _ _ _ _ z => (cols - z).toNat, ⟨0, rfl, Nat.zero_le _, hS0⟩, ?_⟩, ?_⟩
 .rintro a b c d _ ⟨k, rfl, hk, he⟩; have hs := YN (p := p) (m := m) (v := v) hS k; have hstop := Jdv (p := p) (m := m) (v := v) (S := S0) (k := k); have hsucc := QK (p := p) (m := m) (v := v) k S0; rw [<- he] at hs hstop hsucc; have hal : a.length = X.length := hs.xl; have hbl : b.length = X.length := hs.yl; have har := hs.xr; have hbr := hs.yr; have hpl : c.length <= X.length := hs.pl; simp only at har hbr; refine ⟨fun hlt => ⟨fun hlc => ?_, fun hge => ?_⟩, fun hge => ?_⟩
  .have hcur : c.length < X.length := by omega
   have hkc : k < cols := by omega
   refine ⟨fun pv x y d' _ _ => (⟨x, y, pv, d'⟩ : ES) = elim p m v (k + 1) S0, Jys (by omega) (by omega) (fun t ht => by rw [har t (by omega)]; exact hkc) ?_, ?_⟩
   .refine ⟨fun heq => ?_, fun hne => ?_⟩
    .rw [hsucc]; unfold Q2; rw [if_neg (fun hh => by have := hh.2; simp only at this; omega)]
    .have hnz := (ZN a k c.length (by omega)).1; have hr : nz a k c.length < X.length := by omega
     generalize hrr : nz a k c.length = r at hr hne; rw [show Q2 p m v ⟨a, b, c, d⟩ k = es1 p m v k r c.length ⟨a, b, c, d⟩ by unfold Q2; rw [if_pos ⟨by simp only; omega, by simp only; omega⟩, <- hrr]] at hsucc; refine ⟨fun x y d' => x = swq a r c.length /\ y = swq b r c.length /\ d' = (if r = c.length then d else Ng p m d), ⟨fun hrc => ⟨⟨by omega, by omega⟩, ⟨by omega, by omega⟩, ⟨by omega, by omega⟩, ⟨by omega, by omega⟩, ⟨by omega, by omega⟩, ⟨by omega, by omega⟩, ⟨by omega, by omega⟩, ⟨by omega, by omega⟩, Jvo K ?_⟩, fun hrc => ?_⟩, ?_⟩
     .have hrc' : r ≠ c.length := fun e => hrc (by rw [e]); refine ⟨?_, ?_, by rw [if_neg hrc']; rfl⟩
      .unfold swq; rw [if_neg hrc']; rfl
      .unfold swq; rw [if_neg hrc']; rfl
     .have hrc' : r = c.length := by have := Classical.not_not.1 hrc; omega
      refine ⟨?_, ?_, by rw [if_pos hrc']⟩
      .unfold swq; rw [if_pos hrc']
      .unfold swq; rw [if_pos hrc']
     .rintro _ _ _ ⟨rfl, rfl, rfl⟩; have hx1 : ∀ t, t < X.length -> (row (swq a r c.length) t).length = cols := fun t ht => QN (by omega) (by omega) (fun t ht => har t (by omega)) (by omega); have hy1 : ∀ t, t < X.length -> (row (swq b r c.length) t).length = wy := fun t ht => QN (by omega) (by omega) (fun t ht => hbr t (by omega)) (by omega); have hl1 := JZ a r c.length; have hl2 := JZ b r c.length; have hxs := Jbq (p := p) (m := m) (v := v) k r c.length ⟨a, b, c, d⟩; have hys := Jw0 (p := p) (m := m) (v := v) k r c.length ⟨a, b, c, d⟩; have hds : (es1 p m v k r c.length ⟨a, b, c, d⟩).d = Ml p m v (if r = c.length then d else Ng p m d) (vo (row (swq a r c.length) c.length) k) := rfl; have hps : (es1 p m v k r c.length ⟨a, b, c, d⟩).pv = c ++ [(k : Int)] := rfl; simp only at hxs hys; generalize swq a r c.length = x1 at *
      generalize swq b r c.length = y1 at *
      have he1 : gi (gl x1 (c.length : Nat)) (k : Int) = vo (row x1 c.length) k := rfl; refine ⟨⟨by omega, by omega⟩, ⟨by omega, ?_⟩, _, Jpi K rfl, fun z => z = Iv p m v (vo (row x1 c.length) k), ⟨⟨by omega, by omega⟩, ⟨by omega, ?_⟩, Iv p m v (vo (row x1 c.length) k), ?_⟩, ?_⟩
      .show (k : Int) < ((row x1 c.length).length : Nat); rw [hx1 _ hcur]; omega
      .show (k : Int) < ((row x1 c.length).length : Nat); rw [hx1 _ hcur]; omega
      .by_cases h0 : inE (p ^ m) (vo (row x1 c.length) k) = 0
       .exact ⟨7, v_Inv K (fun _ => by rw [Qaw K.fv.ring h0]) (fun z h1 => absurd h0 h1), rfl⟩
       .exact ⟨0, v_Inv K (fun h1 => absurd h1 h0) (fun z h1 h2 h3 => by have e := Jqz (x := vo (row x1 c.length) k) K.fv.ring (Qi (by have := K.fv.ring.q2; omega) _) h2 h3; rw [e]), rfl⟩
      .rintro _ rfl; have hsx : sll x1 (c.length : Int) (sc p m v (Iv p m v (vo (row x1 c.length) k)) (row x1 c.length)) = scq p m v x1 c.length (vo (row x1 c.length) k) := rfl; have hsy : sll y1 (c.length : Int) (sc p m v (Iv p m v (vo (row x1 c.length) k)) (row y1 c.length)) = scq p m v y1 c.length (vo (row x1 c.length) k) := rfl; refine ⟨⟨by omega, by omega⟩, _, Jpe K (by show (row x1 c.length).length <= 1000; rw [hx1 _ hcur]; omega) rfl, ⟨by omega, by omega⟩, ⟨by omega, by omega⟩, _, Jpe K (by show (row y1 c.length).length <= 1000; rw [hy1 _ hcur]; omega) rfl, ⟨by omega, by omega⟩, ?_⟩; have hx2 : ∀ t, t < X.length -> (row (scq p m v x1 c.length (vo (row x1 c.length) k)) t).length = cols := fun t ht => QP (by omega) (fun t ht => hx1 t (by omega)) (by omega); have hy2 : ∀ t, t < X.length -> (row (scq p m v y1 c.length (vo (row x1 c.length) k)) t).length = wy := fun t ht => QP (by omega) (fun t ht => hy1 t (by omega)) (by omega); have hl3 := Qz (p := p) (m := m) (v := v) x1 c.length (vo (row x1 c.length) k); have hl4 := Qz (p := p) (m := m) (v := v) y1 c.length (vo (row x1 c.length) k); generalize scq p m v x1 c.length (vo (row x1 c.length) k) = x2 at *
       generalize scq p m v y1 c.length (vo (row x1 c.length) k) = y2 at *
       have hfm : ∀ t, t < X.length -> vo (row (prt p m v (fun t => Ng p m (vo (row x2 t) k)) c.length t x2) t) k = vo (row x2 t) k := fun t ht => by
        rw [QU (by omega), if_neg (by omega)]
       generalize hf : (fun t => Ng p m (vo (row x2 t) k)) = f at *
       refine ⟨fun x y z => ∃ t : Nat, z = t /\ t <= X.length /\ x = prt p m v f c.length t x2 /\ y = prt p m v f c.length t y2, fun x y z => (X.length - z).toNat, ⟨0, rfl, Nat.zero_le _, hsx.trans (Jfj _ _).symm, hsy.trans (Jfj _ _).symm⟩, ?_⟩; rintro _ _ _ ⟨t, rfl, ht, rfl, rfl⟩; refine ⟨fun hlt2 => ?_, fun hge2 => ?_⟩
       .have htX : t < X.length := by omega
        have hg1 : gl (prt p m v f c.length t x2) (t : Int) = row x2 t := by
         show row (prt p m v f c.length t x2) t = _; rw [QU (by omega), if_neg (by omega)]
        have hg2 : gl (prt p m v f c.length t y2) (t : Int) = row y2 t := by
         show row (prt p m v f c.length t y2) t = _; rw [QU (by omega), if_neg (by omega)]
        have hg3 : gl (prt p m v f c.length t x2) (c.length : Int) = row x2 c.length := by
         show row (prt p m v f c.length t x2) c.length = _; rw [QU (by omega), if_neg (by omega)]
        have hg4 : gl (prt p m v f c.length t y2) (c.length : Int) = row y2 c.length := by
         show row (prt p m v f c.length t y2) c.length = _; rw [QU (by omega), if_neg (by omega)]
        rw [hg1, hg2, hg3, hg4]; have hft : Ng p m (gi (row x2 t) (k : Int)) = f t := by rw [<- hf]; rfl
        refine ⟨fun x y z => x = prt p m v f c.length (t + 1) x2 /\ y = prt p m v f c.length (t + 1) y2, ⟨⟨by omega, by omega⟩, ⟨by omega, by rw [hx2 t htX]; omega⟩, _, Jvo K rfl, fun hne2 => ?_, fun he2 => ?_⟩, ?_⟩
        .have hne3 : t ≠ c.length := fun e => hne2 (by rw [e]); have hne4 : (c.length : Int).toNat ≠ (t : Int).toNat := by omega
         refine ⟨⟨by omega, by omega⟩, ⟨by omega, by omega⟩, hne4, Jbl K (by rw [hx2 t htX, hx2 _ hcur]; exact Nat.le_refl _) (by rw [hx2 t htX]; omega) ⟨⟨by omega, by omega⟩, ⟨by omega, by omega⟩, hne4, Jbl K (by rw [hy2 t htX, hy2 _ hcur]; exact Nat.le_refl _) (by rw [hy2 t htX]; omega) ⟨?_, ?_⟩⟩⟩
         .show (prt p m v f c.length t x2).set t (adx p m v (row x2 t) (Ng p m (gi (row x2 t) (k : Int))) (row x2 c.length)) = _; rw [hft, Jcm (by omega) hne3]
         .show (prt p m v f c.length t y2).set t (adx p m v (row y2 t) (Ng p m (gi (row x2 t) (k : Int))) (row y2 c.length)) = _; rw [hft, Jcm (by omega) hne3]
        .have he3 : t = c.length := by have := Classical.not_not.1 he2; omega
         subst he3; exact ⟨prt_same.symm, prt_same.symm⟩
        .rintro _ _ _ ⟨rfl, rfl⟩; refine ⟨Jt (by omega) (by omega), ⟨t + 1, by push_cast; rfl, by omega, rfl, rfl⟩, ?_⟩; show ((X.length : Int) - ((t : Int) + 1)).toNat < ((X.length : Int) - (t : Int)).toNat; omega
       .have hte : t = X.length := by omega
        subst hte; refine ⟨by omega, ?_⟩; have e1 := Jhv (p := p) (m := m) (v := v) (X := x2) f c.length; have e2 := Jhv (p := p) (m := m) (v := v) (X := y2) f c.length; rw [show x2.length = X.length by omega] at e1; rw [show y2.length = X.length by omega] at e2; rw [e1, e2, hsucc]; rw [<- hxs, <- hys]; show (⟨_, _, c ++ [(k : Int)], _⟩ : ES) = _; rw [<- hps]; show (⟨(es1 p m v k r c.length ⟨a, b, c, d⟩).X, (es1 p m v k r c.length ⟨a, b, c, d⟩).Y, (es1 p m v k r c.length ⟨a, b, c, d⟩).pv, Ml p m v (if r = c.length then d else Ng p m d) (vo (row x1 c.length) k)⟩ : ES) = _; rw [<- hds]
   .rintro pv x y d' _ _ hE; refine ⟨Jt (by omega) (by omega), ⟨k + 1, by push_cast; rfl, by omega, hE⟩, ?_⟩; show ((cols : Int) - ((k : Int) + 1)).toNat < ((cols : Int) - (k : Int)).toNat; omega
  .have hst := hstop (by show ¬ c.length < a.length; omega) (cols - k); rw [show k + (cols - k) = cols by omega] at hst; exact hst.symm
  .show (⟨a, b, c, d⟩ : ES) = _; rw [he, show k = cols by omega]
 .rintro a b c d he; rw [<- he] at h; exact h
end
end Go.Proofs.YtjgpkljepgcekaaGreat
namespace Go.Proofs.YtjgpkljepgcekaaGreat
section
variable {p m v n w wy : Nat}
theorem Jf1 {q : Nat} (h : q < p ^ m) : El p m (q : Int) := ⟨by omega, by omega⟩
theorem Jne {l : LI} (h : Elr p m l) {t : Nat} (ht : t < l.length) : El p m (vo l t) := h _ (Jbs ht)
theorem Qs {X : LL} (h : Els p m X) (t : Nat) : Elr p m (row X t) := by
 rcases Nat.lt_or_ge t X.length with ht | ht
 .exact h _ (Jau ht)
 .rw [row_hi ht]; exact fun x hx => by cases hx
theorem Jai {X : LL} (h : ∀ t, t < X.length -> Elr p m (row X t)) : Els p m X := fun r hr => by
 obtain ⟨t, ht, rfl⟩ := ZO hr; exact h t ht
theorem Jnf {l : LI} (h : ∀ t, t < l.length -> El p m (vo l t)) : Elr p m l := fun x hx => by
 obtain ⟨t, ht, rfl⟩ := Jmz hx; exact h t ht
theorem Jv2 (hp : 0 < p) {x : Int} {l : LI} : Elr p m (sc p m v x l) := Jnf fun t ht => by
 rw [Jdj] at ht; rw [Je2 ht]; exact Jf1 (Jio hp _ _)
theorem Qaa (hp : 0 < p) {a o : LI} {x : Int} (ha : Elr p m a) : Elr p m (adm p m v a x o) := Jnf fun t ht => by
 rw [Jcx] at ht; rw [Jaa ht]; split
 .exact Jne ha ht
 .exact Jf1 (Jp7 hp _ _)
theorem Jz9 (hp : 0 < p) {a o : LI} {x : Int} (ha : Elr p m a) : Elr p m (adx p m v a x o) := by
 unfold adx; split
 .exact ha
 .exact Qaa hp ha
theorem Jip (hp : 0 < p) {c r cur : Nat} {S : ES} (h : Els p m S.X) (hr : r < S.X.length) (hc : cur < S.X.length) : Els p m (es1 p m v c r cur S).X := by
 rw [Jbq]; have h1 : Els p m (swq S.X r cur) := Jai fun t ht => by
  rw [JZ] at ht; unfold swq; split
  .exact Qs h t
  .rw [ZK hr hc]; split
   .exact Qs h _
   .split <;> exact Qs h _
 have h2 : ∀ e, Els p m (scq p m v (swq S.X r cur) cur e) := fun e => Jai fun t ht => by
  unfold scq; rw [Q4]; split
  .exact Jv2 hp
  .exact Qs h1 t
 refine Jai fun t ht => ?_; rw [YG] at ht; rw [YZ ht]; split
 .exact Qs (h2 _) t
 .exact Jz9 hp (Qs (h2 _) t)
theorem Jr6 (hp : 0 < p) {c : Nat} {S : ES} (h : Els p m S.X) : Els p m (Q2 p m v S c).X := by
 unfold Q2; split
 .rename_i hc; exact Jip hp h hc.2 hc.1
 .exact h
theorem Jaj (hp : 0 < p) {S : ES} (h : Els p m S.X) : ∀ k, Els p m (elim p m v k S).X
 | 0 => h
 | k + 1 => by rw [QK]; exact Jr6 hp (Jaj hp h k)
end
section
variable {F : GFv} {p m v g : Nat} {P M : Int} {mf : LI} {X Y : LL}
theorem Jik {x : Int} (h : El p m x) : ((inE (p ^ m) x : Nat) : Int) = x := by
 unfold inE; rw [if_pos (show 0 <= x /\ x < ((p ^ m : Nat) : Int) from h)]; have := h.1; omega
theorem Jp2 (hF : FV P M mf p m v) {x : Int} (h : El p m x) : Ng p m x = 0 ↔ x = 0 := by
 have R := hF.ring; have hp := hF.p2; have hx := Qi (q := p ^ m) (by have := R.q2; omega) x; have h1 := Zo (p := p) (m := m) (by omega) hx; constructor
 .intro h0; have h2 : Yf p m (inE (p ^ m) x) = 0 := Int.ofNat.inj h0; rw [h2, R.Az hx] at h1; rw [<- Jik h, h1]; rfl
 .intro h0; have h3 : inE (p ^ m) x = 0 := by rw [h0]; unfold inE; split <;> rfl
  rw [h3] at h1; show ((Yf p m (inE (p ^ m) x) : Nat) : Int) = 0; rw [h3]; have h4 : Yf p m 0 < p ^ m := ZU (by omega) 0; have h5 : JW p m 0 (Yf p m 0) = Yf p m 0 := by rw [R.Ac, R.Az h4]
  rw [h5] at h1; rw [h1]; rfl
theorem ml_one (hF : FV P M mf p m v) {x : Int} (h : El p m x) : Ml p m v 1 x = x := by
 have R := hF.ring; have hq := R.q2; have hx := Qi (q := p ^ m) (by omega) x; unfold Ml; rw [show inE (p ^ m) (1 : Int) = 1 from Qv (x := 1) (by omega), R.Mc (by omega) hx, R.M1 hx]; exact Jik h
theorem Jwo (hF : FV P M mf p m v) : Iv p m v 1 = 1 := by
 have R := hF.ring; have hq := R.q2; have e1 : inE (p ^ m) (1 : Int) = 1 := Qv (x := 1) (by omega); exact Jqz R (z := 1) (by rw [e1]; omega) (by omega) (by rw [e1]; exact R.M1 (by omega))
theorem Jv1 (hF : FV P M mf p m v) {l : LI} (h : Elr p m l) : sc p m v 1 l = l := Zc (Jdj _ _) fun i hi => by
 rw [Jdj] at hi; rw [Je2 hi, ml_one hF (Jne h hi)]
theorem w_rInv {x : Int} {Q : Int -> Prop} (hF : FV P M mf p m v) (h : Q (Iv p m v x)) : Ji8 P M mf x Q := by
 have hq := hF.q; have R := hF.ring; have hq2 := R.q2; have hxl := Qi (q := p ^ m) (by omega) x; refine ⟨fun z => ∃ n : Nat, z = n /\ 1 <= n /\ n <= p ^ m /\ ∀ k, k < n -> Ju p m (dv p v) (inE (p ^ m) x) k ≠ 1, fun z => (((p ^ m : Nat) : Int) - z).toNat, ⟨1, rfl, Nat.le_refl 1, by omega, fun k hk => by
  rw [show k = 0 by omega, R.M0 hxl]; omega⟩, ?_⟩
 rintro _ ⟨n, rfl, hn1, hn, hk⟩; refine Jcg ?_; rw [hF.ord]; dsimp only; refine ⟨fun hlt => Jl5 hF ?_, fun hge => ?_⟩
 .have hnq : n < p ^ m := Int.ofNat_lt.1 hlt; rw [Qv hnq]; refine ⟨fun he => ?_, fun hne => ⟨Jt (by omega) (by omega), ⟨n + 1, by push_cast; rfl, by omega, by omega, fun k hk' => ?_⟩, by omega⟩⟩
  .have h1 : Ju p m (dv p v) (inE (p ^ m) x) n = 1 := Int.ofNat.inj he; rw [<- Jqz R hxl hnq (by rw [R.Mc hnq hxl]; exact h1)]; exact h
  .rcases Nat.lt_or_ge k n with h | h
   .exact hk k h
   .rw [show k = n by omega]; exact fun e => hne (by rw [e]; rfl)
 .have e : Iv p m v x = 0 := by
   unfold Iv; cases hf : (List.range (p ^ m)).find? fun z => Ju p m (dv p v) z (inE (p ^ m) x) == 1 with
   | none => rfl
   | some y =>
    have h1 := List.find?_some hf; have h2 := List.mem_range.1 (List.mem_of_find?_eq_some hf); have h1' : Ju p m (dv p v) y (inE (p ^ m) x) = 1 := by simpa using h1
    exact absurd (by rw [R.Mc hxl h2]; exact h1') (hk y (by omega))
  rw [e] at h; exact h
theorem Jgj {cols W wy : Nat} {d0 : Int} {Q : LL × LI -> Prop} (hF : FV P M mf p m v) (hX : X.length <= 300) (hc : cols <= W) (hW : W <= 1000) (hS : Shp X.length W wy ⟨X, Y, [], d0⟩) (hE : Els p m X)
  (h : Q ((elim p m v cols ⟨X, Y, [], d0⟩).X, (elim p m v cols ⟨X, Y, [], d0⟩).pv)) : QY P M mf X cols Q := by
 have hp2 := hF.p2; have hE0 : ∀ k, Els p m (elim p m v k ⟨X, Y, [], d0⟩).X := Jaj (by omega) hE; have hXr : ∀ r ∈ X, r.length <= 1000000 := fun r hr => by
  obtain ⟨t, ht, rfl⟩ := ZO hr; have := hS.xr t ht; simp only at this; omega
 refine Jyq (by omega) hXr ?_; generalize hS0 : (⟨X, Y, [], d0⟩ : ES) = S0 at h hS hE0; have hX0 : X = S0.X := by rw [<- hS0]
 have hP0 : ([] : LI) = S0.pv := by rw [<- hS0]
 refine ⟨fun a c => a = (elim p m v cols S0).X /\ c = (elim p m v cols S0).pv, ⟨fun a c z y => ∃ k : Nat, y = k /\ k <= cols /\ a = (elim p m v k S0).X /\ c = (elim p m v k S0).pv /\ z = ((elim p m v k S0).pv.length : Nat), fun _ _ _ y => (cols - y).toNat, ⟨0, rfl, Nat.zero_le _, hX0, hP0, by show (0 : Int) = ((S0.pv.length : Nat) : Int); rw [<- hP0]; rfl⟩, ?_⟩, ?_⟩
 .rintro _ _ _ _ ⟨k, rfl, hk, rfl, rfl, rfl⟩; have hs := YN (p := p) (m := m) (v := v) hS k; have hstop := Jdv (p := p) (m := m) (v := v) (S := S0) (k := k); have hsucc := QK (p := p) (m := m) (v := v) k S0; have hek := hE0 k; generalize hSk : elim p m v k S0 = S at *
  have hal := hs.xl; have har := hs.xr; have hpl := hs.pl; refine ⟨fun hlt => ⟨fun hlc => ?_, fun hge => ?_⟩, fun hge => ?_⟩
  .have hcur : S.pv.length < X.length := by omega
   have hkc : k < cols := by omega
   have hsp := ZN S.X k S.pv.length (by omega); refine ⟨fun pv x z _ _ _ _ => x = (elim p m v (k + 1) S0).X /\ pv = (elim p m v (k + 1) S0).pv /\ z = ((elim p m v (k + 1) S0).pv.length : Nat), ⟨fun r _ _ => r = ((nz S.X k S.pv.length : Nat) : Int), ⟨fun z _ => ∃ t : Nat, z = t /\ S.pv.length <= t /\ t <= X.length /\ ∀ s, S.pv.length <= s -> s < t -> vo (row S.X s) k = 0, fun z _ => (X.length - z).toNat, ⟨_, rfl, Nat.le_refl _, by omega, fun s h1 h2 => by omega⟩, ?_⟩, ?_⟩, ?_⟩
   .rintro _ _ ⟨t, rfl, h1, h2, h3⟩; dsimp only; refine ⟨fun hlt2 => ⟨⟨by omega, by omega⟩, ⟨by omega, by show (k : Int) < ((row S.X t).length : Nat); rw [har t (by omega)]; omega⟩, fun he => ⟨Jt (by omega) (by omega), ⟨t + 1, by push_cast; rfl, by omega, by omega, fun s hs1 hs2 => ?_⟩, by omega⟩, fun hne => ?_⟩, fun hge2 => ?_⟩
    .rcases Nat.lt_or_ge s t with h | h
     .exact h3 s hs1 h
     .rw [show s = t by omega]; exact he
    .exact congrArg _ (Jkm h1 (by omega) h3 fun _ => hne)
    .exact congrArg _ (Jkm h1 (by omega) h3 fun h => by omega)
   .rintro _ _ _ rfl; refine ⟨fun heq => ?_, fun hne => ?_⟩
    .have e : elim p m v (k + 1) S0 = S := by
      rw [hsucc]; unfold Q2; rw [if_neg (fun hh => by have := hh.2; omega)]
     rw [e]; exact ⟨rfl, rfl, rfl⟩
    .have hr : nz S.X k S.pv.length < X.length := by have := hsp.1; omega
     have hge := Jp1 S.X k S.pv.length; generalize hrr : nz S.X k S.pv.length = r at hr hge hsp; rw [show Q2 p m v S k = es1 p m v k r S.pv.length S by unfold Q2; rw [if_pos ⟨by omega, by omega⟩, <- hrr]] at hsucc; have hsw : sll (sll S.X ((S.pv.length : Nat) : Int) (gl S.X (r : Int))) (r : Int) (gl S.X ((S.pv.length : Nat) : Int)) = swq S.X r S.pv.length := by
      show swp S.X S.pv.length r = _; unfold swq; split
      .rename_i e; rw [e]; exact Jvt (by omega)
      .exact Jvu (by omega) (by omega)
     refine ⟨True, ⟨⟨by omega, by omega⟩, ⟨by omega, by omega⟩, ⟨by omega, by omega⟩, ⟨by omega, by omega⟩, trivial⟩, fun _ => ?_⟩; rw [hsw]; have hx1 : ∀ t, t < X.length -> (row (swq S.X r S.pv.length) t).length = W := fun t ht => QN (by omega) (by omega) (fun t ht => har t (by omega)) (by omega); have hl1 := JZ S.X r S.pv.length; have hes : Els p m (es1 p m v k r S.pv.length S).X := Jip (by omega) hek (by omega) (by omega); have hxs := Jbq (p := p) (m := m) (v := v) k r S.pv.length S; have hps : (es1 p m v k r S.pv.length S).pv = S.pv ++ [(k : Int)] := rfl; have hel1 : Els p m (swq S.X r S.pv.length) := Jai fun t ht => by
      rw [JZ] at ht; unfold swq; split
      .exact Qs hek t
      .rw [ZK (by omega) (by omega)]; split
       .exact Qs hek _
       .split <;> exact Qs hek _
     generalize swq S.X r S.pv.length = x1 at *
     refine ⟨⟨by omega, by omega⟩, ⟨by omega, by show (k : Int) < ((row x1 S.pv.length).length : Nat); rw [hx1 _ hcur]; omega⟩, fun x => x = scq p m v x1 S.pv.length (vo (row x1 S.pv.length) k), ⟨fun hne1 => ⟨⟨by omega, by omega⟩, ⟨by omega, by show (k : Int) < ((row x1 S.pv.length).length : Nat); rw [hx1 _ hcur]; omega⟩, _, w_rInv hF rfl, ⟨by omega, by omega⟩, _, Ju1 hF (by show (row x1 S.pv.length).length <= 1000; rw [hx1 _ hcur]; omega) rfl, ⟨by omega, by omega⟩, rfl⟩, fun he1 => ?_⟩, ?_⟩
     .have he2 : vo (row x1 S.pv.length) k = 1 := Classical.not_not.1 he1; unfold scq; rw [he2, Jwo hF, Jv1 hF (Qs hel1 _)]; refine (QV (by rw [List.length_set]) fun i hi => ?_).symm; rw [Q4]; split
      .rename_i h; rw [h.1]
      .rfl
     .rintro _ rfl; have hx2 : ∀ t, t < X.length -> (row (scq p m v x1 S.pv.length (vo (row x1 S.pv.length) k)) t).length = W := fun t ht => QP (by omega) (fun t ht => hx1 t (by omega)) (by omega); have hl3 := Qz (p := p) (m := m) (v := v) x1 S.pv.length (vo (row x1 S.pv.length) k); have hel2 : Els p m (scq p m v x1 S.pv.length (vo (row x1 S.pv.length) k)) := Jai fun t ht => by
       unfold scq; rw [Q4]; split
       .exact Jv2 (by omega)
       .exact Qs hel1 t
      generalize scq p m v x1 S.pv.length (vo (row x1 S.pv.length) k) = x2 at *
      generalize hf : (fun t => Ng p m (vo (row x2 t) k)) = f at *
      refine ⟨fun x z => ∃ t : Nat, z = t /\ t <= X.length /\ x = prt p m v f S.pv.length t x2, fun x z => (X.length - z).toNat, ⟨0, rfl, Nat.zero_le _, (Jfj _ _).symm⟩, ?_⟩; rintro _ _ ⟨t, rfl, ht, rfl⟩; refine ⟨fun hlt2 => ?_, fun hge2 => ?_⟩
      .have htX : t < X.length := by omega
       have hg1 : gl (prt p m v f S.pv.length t x2) (t : Int) = row x2 t := by
        show row (prt p m v f S.pv.length t x2) t = _; rw [QU (by omega), if_neg (by omega)]
       have hg3 : gl (prt p m v f S.pv.length t x2) ((S.pv.length : Nat) : Int) = row x2 S.pv.length := by
        show row (prt p m v f S.pv.length t x2) S.pv.length = _; rw [QU (by omega), if_neg (by omega)]
       rw [hg1, hg3]; have hft : Ng p m (gi (row x2 t) (k : Int)) = f t := by rw [<- hf]; rfl
       have hent : El p m (vo (row x2 t) k) := Jne (Qs hel2 t) (by rw [hx2 t htX]; omega); have hz := Jp2 hF hent; refine ⟨fun x _ => x = prt p m v f S.pv.length (t + 1) x2, ⟨fun hne2 => ?_, fun he2 => ?_⟩, ?_⟩
       .have hne3 : t ≠ S.pv.length := fun e => hne2 (by rw [e]); refine ⟨⟨by omega, by omega⟩, ⟨by omega, by rw [hx2 t htX]; omega⟩, fun hnz => ?_, fun hnz => ?_⟩
        .refine ⟨⟨by omega, by omega⟩, ⟨by omega, by omega⟩, ⟨by omega, by rw [hx2 t htX]; omega⟩, _, Jvl hF rfl, ⟨by omega, by omega⟩, _, Ju4 hF (by rw [hx2 t htX, hx2 _ hcur]; exact Nat.le_refl _) (by rw [hx2 t htX]; omega) rfl, ⟨by omega, by omega⟩, ?_⟩; rw [<- Jcm (by omega) hne3, <- hft]; show _ = (prt p m v f S.pv.length t x2).set t (adx p m v (row x2 t) (Ng p m (vo (row x2 t) k)) (row x2 S.pv.length)); unfold adx; rw [if_neg (fun h0 => hnz (hz.1 h0))]; rfl
        .have hnz' : vo (row x2 t) k = 0 := Classical.not_not.1 hnz; rw [<- Jcm (by omega) hne3, <- hft]; show prt p m v f S.pv.length t x2 = (prt p m v f S.pv.length t x2).set t (adx p m v (row x2 t) (Ng p m (vo (row x2 t) k)) (row x2 S.pv.length)); unfold adx; rw [if_pos (hz.2 hnz')]; refine QV (by rw [List.length_set]) fun i hi => ?_; rw [Q4]; split
         .rename_i hh; rw [<- hh.1]; exact hg1
         .rfl
       .have he3 : t = S.pv.length := by have := Classical.not_not.1 he2; omega
        subst he3; exact prt_same.symm
       .rintro _ _ rfl; refine ⟨Jt (by omega) (by omega), ⟨t + 1, by push_cast; rfl, by omega, rfl⟩, ?_⟩; show ((X.length : Int) - ((t : Int) + 1)).toNat < ((X.length : Int) - (t : Int)).toNat; omega
      .have hte : t = X.length := by omega
       subst hte; have e1 := Jhv (p := p) (m := m) (v := v) (X := x2) f S.pv.length; rw [show x2.length = X.length by omega] at e1; refine ⟨by omega, Jt (by omega) (by omega), ?_⟩; rw [hsucc, e1, hxs, hps]; exact ⟨rfl, rfl, by rw [List.length_append]; simp⟩
   .rintro _ _ _ _ _ _ _ ⟨rfl, rfl, rfl⟩; refine ⟨Jt (by omega) (by omega), ⟨k + 1, by push_cast; rfl, by omega, rfl, rfl, rfl⟩, ?_⟩; show ((cols : Int) - ((k : Int) + 1)).toNat < ((cols : Int) - (k : Int)).toNat; omega
  .have hst := hstop (by omega) (cols - k); rw [show k + (cols - k) = cols by omega] at hst; rw [hst]; exact ⟨rfl, rfl⟩
  .have hkc : k = cols := by omega
   subst hkc; exact ⟨by rw [hSk], by rw [hSk]⟩
 .rintro _ _ ⟨rfl, rfl⟩; exact h
theorem Jhl {cols wy : Nat} {d0 : Int} {Q : LL × LI -> Prop} (hF : FV P M mf p m v) (hX : X.length <= 300) (hc : cols <= 300) (hS : Shp X.length cols wy ⟨X, Y, [], d0⟩) (hE : Els p m X)
 (h : Q ((elim p m v cols ⟨X, Y, [], d0⟩).X, (elim p m v cols ⟨X, Y, [], d0⟩).pv)) : QY P M mf X cols Q := Jgj hF hX (Nat.le_refl _) (by omega) hS hE h
end
end Go.Proofs.YtjgpkljepgcekaaGreat
namespace Go.Proofs.YtjgpkljepgcekaaGreat
section
variable {F : GFv} {p m v g : Nat} {P M : Int} {mf : LI} {X Y : LL} {C : Int}
def Jux (P M : Int) (mf : LI) (X : LL) : Prop := ∃ p m v, FV P M mf p m v /\ Els p m X
open Classical in
noncomputable def mck (P M : Int) (mf : LI) (C : Int) (X : LL) : Int := if ¬ Qt P M mf then 1 else if ¬ shp C X then 3 else if ¬ Jux P M mf X then 2 else 0
theorem FV.uniq {p' m' v' : Nat} (h : FV P M mf p m v) (h' : FV P M mf p' m' v') : p = p' /\ m = m' := ⟨by have := h.eP; have := h'.eP; omega, by have := h.eM; have := h'.eM; omega⟩
theorem Yy (h : FV P M mf p m v) : Jux P M mf X ↔ Els p m X := ⟨fun ⟨p', m', v', h1, h2⟩ => by obtain ⟨rfl, rfl⟩ := h.uniq h1; exact h2, fun h2 => ⟨p, m, v, h, h2⟩⟩
theorem Jid (h : ¬ Qt P M mf) : mck P M mf C X = 1 := if_pos h
theorem Ja0 (h : Qt P M mf) (hs : ¬ shp C X) : mck P M mf C X = 3 := by unfold mck; rw [if_neg (fun hh => hh h), if_pos hs]
theorem Jie (h : Qt P M mf) (hs : shp C X) (he : ¬ Jux P M mf X) : mck P M mf C X = 2 := by unfold mck; rw [if_neg (fun hh => hh h), if_neg (fun hh => hh hs), if_pos he]
theorem Jfr (h : Qt P M mf) (hs : shp C X) (he : Jux P M mf X) : mck P M mf C X = 0 := by unfold mck; rw [if_neg (fun hh => hh h), if_neg (fun hh => hh hs), if_neg (fun hh => hh he)]
theorem Jfq (h : mck P M mf C X = 0) : Qt P M mf /\ shp C X /\ Jux P M mf X := by
 by_cases h1 : Qt P M mf
 .by_cases h2 : shp C X
  .by_cases h3 : Jux P M mf X
   .exact ⟨h1, h2, h3⟩
   .rw [Jie h1 h2 h3] at h; exact absurd h (by decide)
  .rw [Ja0 h1 h2] at h; exact absurd h (by decide)
 .rw [Jid h1] at h; exact absurd h (by decide)
theorem Jen (h : shp C X) : X.length <= 256 := h.2.2.1
theorem ZG (h : shp C X) {t : Nat} (ht : t < X.length) : (row X t).length = C.toNat := by
 have := h.2.2.2 _ (Jau ht); have := h.1; omega
noncomputable def Jh1 (P M : Int) (mf : LI) : List Mt -> Int
  | [] => 0
  | (C, X) :: ms => if mck P M mf C X = 0 then Jh1 P M mf ms else mck P M mf C X
theorem w_open {ms : List Mt} {Q : Option GFv × Int -> Prop} (hl : ms.length <= 1000) (hno : ¬ Qt P M mf -> Q (none, 1))
  (h : ∀ (F : GFv) (p m v g : Nat), GFk F p m v g -> FV P M mf p m v -> Jh1 P M mf ms = 0 -> Q (some F, 0)) (hb : Qt P M mf -> Jh1 P M mf ms ≠ 0 -> Q (none, Jh1 P M mf ms)) : Jb5 P M mf ms Q := by
 refine v_New (fun hn => ⟨fun h0 => ⟨h0, hno hn⟩, fun h0 => absurd (show (1 : Int) ≠ 0 by decide) h0⟩) fun F p m v g K eP eM emf => ⟨fun h0 => absurd rfl h0, fun _ => ?_⟩
 have hF : FV P M mf p m v := by rw [<- eP, <- eM, <- emf]; exact K.fv
 have hV : Qt P M mf := ⟨p, m, v, hF⟩
 refine ⟨fun z => ∃ t : Nat, z = t /\ t <= ms.length /\ Jh1 P M mf (ms.drop t) = Jh1 P M mf ms, fun z => (ms.length - z).toNat, ⟨0, rfl, Nat.zero_le _, rfl⟩, ?_⟩; rintro _ ⟨t, rfl, ht, he⟩; refine ⟨fun hlt => ?_, fun hge => ?_⟩
 .have htl : t < ms.length := by omega
  have hd : ms.drop t = gm ms t :: ms.drop (t + 1) := by
   rw [List.drop_eq_getElem_cons htl]
   congr 1
   unfold gm; show _ = ms.getD t (0, []); rw [List.getD_eq_getElem?_getD, List.getElem?_eq_getElem htl]; rfl
  rw [hd] at he; generalize gm ms t = mt at *
  obtain ⟨C, X⟩ := mt; simp only [Jh1] at he; dsimp only; refine ⟨⟨by omega, by omega⟩, Jl0 (fun hs => ⟨fun h => absurd h (by decide), fun _ => ?_⟩) (fun hs => ⟨fun _ => ⟨by decide, ?_⟩, fun h => absurd h (by decide)⟩)⟩
  .refine ⟨fun z => ∃ s : Nat, z = s /\ s <= X.length /\ ∀ k, k < s -> Elr p m (row X k), fun z => (X.length - z).toNat, ⟨0, rfl, Nat.zero_le _, fun k hk => by omega⟩, ?_⟩; rintro _ ⟨s, rfl, hs1, hs2⟩; have hX : X.length <= 256 := Jen hs; dsimp only; refine ⟨fun hlt2 => ⟨⟨by omega, by omega⟩, Jgl K (by show (row X s).length <= _; rw [ZG hs (by omega)]; have := hs.2.1; omega) (fun hel => ⟨fun h => absurd h (by decide), fun _ => ⟨Jt (by omega) (by omega), ⟨s + 1, by push_cast; rfl, by omega, fun k hk => ?_⟩, by omega⟩⟩) (fun hel => ⟨fun _ => ⟨by decide, ?_⟩, fun h => absurd h (by decide)⟩)⟩, fun hge2 => ?_⟩
   .rcases Nat.lt_or_ge k s with h | h
    .exact hs2 k h
    .rw [show k = s by omega]; exact hel
   .have e : mck P M mf C X = 2 := Jie hV hs fun hv => hel (Qs ((Yy hF).1 hv) s); rw [e, if_neg (by decide)] at he; have := hb hV (by rw [<- he]; decide)
    rwa [<- he] at this
   .have e : mck P M mf C X = 0 := Jfr hV hs ((Yy hF).2 (Jai fun k hk => hs2 k (by omega))); rw [e, if_pos rfl] at he; exact ⟨Jt (by omega) (by omega), ⟨t + 1, by push_cast; rfl, by omega, he⟩, by omega⟩
  .have e : mck P M mf C X = 3 := Ja0 hV hs; rw [e, if_neg (by decide)] at he; have := hb hV (by rw [<- he]; decide)
   rwa [<- he] at this
 .rw [show t = ms.length by omega, List.drop_length] at he; exact h F p m v g K hF he.symm
theorem Jj5 : Jh1 P M mf [(C, X)] = mck P M mf C X := by
 simp only [Jh1]; split
 .rename_i h; exact h.symm
 .rfl
theorem Jhm {Q : Option GFv × Int -> Prop} (hb : mck P M mf C X ≠ 0 -> Q (none, mck P M mf C X))
    (h : ∀ (F : GFv) (p m v g : Nat), GFk F p m v g -> FV P M mf p m v -> shp C X -> Els p m X -> mck P M mf C X = 0 -> Q (some F, 0)) : Jb5 P M mf [(C, X)] Q := by
  refine w_open (by simp) (fun hn => ?_) (fun F p m v g K hF he => ?_) (fun hV he => ?_)
  . have := hb (by rw [Jid hn]; decide); rwa [Jid hn] at this
  . rw [Jj5] at he
    obtain ⟨_, h2, h3⟩ := Jfq he
    exact h F p m v g K hF h2 ((Yy hF).1 h3) he
  . rw [Jj5] at he ⊢; exact hb he
theorem Ju5 {Q : Int -> Prop} (h : Q (mck P M mf C X)) : Jc9 P M mf C X Q := Jhm (fun _ _ => h) (fun F p m v g K hF h1 h2 h3 => by show Q 0; rw [<- h3]; exact h)
theorem Jq2 {Q : Int -> Prop} (h : Q (mck P M mf C X)) : Ja5 P M mf C X Q := by
 refine Je6 ?_; by_cases hV : Qt P M mf
 .rw [Jec hV]; refine ⟨fun h0 => absurd rfl h0, fun _ => ⟨fun h0 => ?_, fun h0 => ⟨fun h1 => ?_, fun h1 => ⟨fun h2 => ?_, fun h2 => ?_⟩⟩⟩⟩
  .rw [Ja0 hV fun s => by have := s.1; omega] at h; exact h
  .rw [Ja0 hV fun s => by have := s.2.1; omega] at h; exact h
  .rw [Ja0 hV fun s => by have := s.2.2.1; omega] at h; exact h
  .refine ⟨fun z => ∃ t : Nat, z = t /\ t <= X.length /\ ∀ k, k < t -> ((row X k).length : Int) = C, fun z => (X.length - z).toNat, ⟨0, rfl, Nat.zero_le _, fun k hk => by omega⟩, ?_⟩; rintro _ ⟨t, rfl, ht, hk⟩; dsimp only; refine ⟨fun hlt => ⟨⟨by omega, by omega⟩, fun hne => ?_, fun he => ⟨Jt (by omega) (by omega), ⟨t + 1, by push_cast; rfl, by omega, fun k hk' => ?_⟩, by omega⟩⟩, fun hge => ?_⟩
   .rw [Ja0 hV fun s => hne (s.2.2.2 _ (Jau (by omega)))] at h; exact h
   .rcases Nat.lt_or_ge k t with h | h
    .exact hk k h
    .rw [show k = t by omega]; exact Classical.not_not.1 he
   .have hs : shp C X := ⟨by omega, by omega, by omega, fun r hr => by obtain ⟨s, h3, rfl⟩ := ZO hr; exact hk s (by omega)⟩
    obtain ⟨p, m, v, hF⟩ := hV; refine ⟨fun r z => r = 0 /\ ∃ s : Nat, z = s /\ s <= X.length /\ ∀ k, k < s -> Elr p m (row X k), fun _ z => (X.length - z).toNat, ⟨rfl, 0, rfl, Nat.zero_le _, fun k hk => by omega⟩, ?_⟩; rintro _ _ ⟨rfl, s, rfl, hs1, hs2⟩; dsimp only; refine ⟨fun hlt2 => ⟨⟨by omega, by omega⟩, ?_⟩, fun hge2 => ?_⟩
    .have hrl : (row X s).length <= 1000000 := by rw [ZG hs (by omega)]; have := hs.2.1; omega
     by_cases hel : Elr p m (row X s)
     .refine ⟨0, Je0 hF hrl (fun _ => rfl) (fun h => absurd hel h), fun h0 => absurd rfl h0, fun _ => ⟨Jt (by omega) (by omega), ⟨rfl, s + 1, by push_cast; rfl, by omega, fun k hk' => ?_⟩, by omega⟩⟩; rcases Nat.lt_or_ge k s with h | h
      .exact hs2 k h
      .rw [show k = s by omega]; exact hel
     .refine ⟨2, Je0 hF hrl (fun h => absurd h hel) (fun _ => rfl), fun _ => ?_, fun h0 => absurd (by decide) h0⟩; rw [Jie ⟨p, m, v, hF⟩ hs fun hv => hel (Qs ((Yy hF).1 hv) s)] at h; exact h
    .rw [Jfr ⟨p, m, v, hF⟩ hs ((Yy hF).2 (Jai fun k hk' => hs2 k (by omega)))] at h; exact h
 .rw [Yi hV]; rw [Jid hV] at h; exact ⟨fun _ => h, fun h0 => absurd (by decide) h0⟩
def ec (p m v : Nat) (C : Int) (X : LL) : ES := elim p m v C.toNat ⟨X, List.replicate X.length [], [], 1⟩
def Qg (p m v : Nat) (C : Int) (X : LL) : LL := (ec p m v C X).X.take (ec p m v C X).pv.length
def JS (p m v : Nat) (C : Int) (X : LL) : LI := (ec p m v C X).pv
theorem Jy2 {n t : Nat} {l : LI} (h : t < n) : row (List.replicate n l) t = l := by
 unfold row; rw [List.getD_eq_getElem?_getD, List.getElem?_replicate, if_pos h]; rfl
theorem shp_S0 (hs : shp C X) {Z : LL} {wz : Nat} {d : Int} (hZ : Z.length = X.length) (hz : ∀ t, t < X.length -> (row Z t).length = wz) : Shp X.length C.toNat wz ⟨X, Z, [], d⟩ := ⟨rfl, fun t ht => ZG hs ht, hZ, hz, Nat.zero_le _⟩
theorem ZI (hs : shp C X) : Shp X.length C.toNat 0 ⟨X, List.replicate X.length [], [], 1⟩ := shp_S0 hs (by simp) fun t ht => by rw [Jy2 ht]; rfl
theorem ZH (hs : shp C X) : X.length <= 256 /\ C.toNat <= 256 /\ ((C.toNat : Nat) : Int) = C := ⟨hs.2.2.1, by have := hs.2.1; omega, by have := hs.1; omega⟩
theorem Jvx (hs : shp C X) : ∀ r ∈ X, r.length <= 1000000 := fun r hr => by have := hs.2.2.2 r hr; have := hs.2.1; omega
theorem ZV (hs : shp C X) : Shp X.length C.toNat 0 (ec p m v C X) := YN (ZI hs) _
theorem Z9 {Q : Int × LL × LI -> Prop} (K : GFk F p m v g) (hs : shp C X) (h : Q (C, Qg p m v C X, JS p m v C X)) : Ya F C X Q := by
 obtain ⟨h1, h2, h3⟩ := ZH hs; refine Ju6 (by omega) (Jvx hs) ⟨⟨by omega, by omega, by omega⟩, ?_⟩; show YD F C X (List.replicate X.length ([] : LI)) _; rw [<- h3]; refine Jjn K (by omega) (by omega) (wy := 0) (by omega) (ZI hs) ?_; rw [h3]; have := (ZV (p := p) (m := m) (v := v) hs).pl; exact ⟨⟨by omega, by show ((ec p m v C X).pv.length : Int) <= _; omega⟩, h⟩
theorem Jjo {Q : Int × LL × LI × Int -> Prop} (hb : mck P M mf C X ≠ 0 -> Q (0, [], [], mck P M mf C X))
  (h : ∀ p m v, FV P M mf p m v -> shp C X -> Els p m X -> mck P M mf C X = 0 -> Q (C, Qg p m v C X, JS p m v C X, 0)) : Za P M mf C X Q :=
 Jhm (fun h0 _ => hb h0) fun F p m v g K hF hs he h0 => Z9 K hs (h p m v hF hs he h0)
theorem Jce {Q : LL × LI -> Prop} (hF : FV P M mf p m v) (hs : shp C X) (he : Els p m X) (h : Q (Qg p m v C X, JS p m v C X)) : YV P M mf X C Q := by
 obtain ⟨h1, h2, h3⟩ := ZH hs; show QY P M mf X C _; rw [<- h3]; refine Jhl hF (by omega) (by omega) (ZI hs) he ?_; have h4 := ZV (p := p) (m := m) (v := v) hs; exact ⟨⟨by omega, by have := h4.pl; have := h4.xl; show ((ec p m v C X).pv.length : Int) <= ((ec p m v C X).X.length : Nat); omega⟩, h⟩
theorem FV.uniq3 {p' m' v' : Nat} (h : FV P M mf p m v) (h' : FV P M mf p' m' v') : p = p' /\ m = m' /\ v = v' := by
 obtain ⟨e1, e2⟩ := h.uniq h'; subst e1; subst e2; refine ⟨rfl, rfl, ?_⟩; by_cases hm : m = 1
 .rw [(h.m1 hm).2, (h'.m1 hm).2]
 .have e1 := h.m2 hm; have e2 := h'.m2 hm; have hp := h.p2; have h3 : dv p v = dv p v' := by rw [<- h.vo, <- h'.vo]
  have h4 := Jbp (p := p) (m := m) (x := v) (by omega) h.vlt; have h5 := Jbp (p := p) (m := m) (x := v') (by omega) h'.vlt; rw [<- h4, <- h5, h3]
end
end Go.Proofs.YtjgpkljepgcekaaGreat
namespace Go.Proofs.YtjgpkljepgcekaaGreat
section
variable {p m v : Nat}
def Asc (k : Nat) (l : LI) : Prop := (∀ i, i < l.length -> 0 <= vo l i /\ vo l i < (k : Int)) /\ ∀ i j, i < j -> j < l.length -> vo l i < vo l j
theorem Jcf {l : LI} {x : Int} {i : Nat} : vo (l ++ [x]) i = if i < l.length then vo l i else if i = l.length then x else 0 := by
 unfold vo; rw [List.getD_eq_getElem?_getD, List.getD_eq_getElem?_getD, List.getElem?_append]; by_cases h : i < l.length
 .rw [if_pos h, if_pos h]
 .rw [if_neg h, if_neg h]; by_cases h2 : i = l.length
  .subst h2; simp
  .rw [if_neg h2]; have : i - l.length ≠ 0 := by omega
   cases hh : i - l.length with
   | zero => omega
   | succ n => simp
theorem Asc.snoc {k : Nat} {l : LI} (h : Asc k l) : Asc (k + 1) (l ++ [(k : Int)]) := by
 refine ⟨fun i hi => ?_, fun i j hij hj => ?_⟩
 .rw [List.length_append] at hi; rw [Jcf]; split
  .rename_i h1; have := h.1 i h1; omega
  .split
   .omega
   .simp at hi; omega
 .rw [List.length_append] at hj; have hj' : j < l.length + 1 := by simpa using hj
  rw [Jcf, Jcf, if_pos (show i < l.length by omega)]; split
  .rename_i h1; exact h.2 i j hij h1
  .rw [if_pos (show j = l.length by omega)]; exact (h.1 i (by omega)).2
theorem Asc.up {k : Nat} {l : LI} (h : Asc k l) : Asc (k + 1) l := ⟨fun i hi => by have := h.1 i hi; omega, h.2⟩
theorem Jf0 {S : ES} (h : S.pv = []) : ∀ k, Asc k (elim p m v k S).pv
 | 0 => by
  show Asc 0 S.pv; rw [h]; exact ⟨fun i hi => absurd hi (Nat.not_lt_zero i), fun i j _ hj => absurd hj (Nat.not_lt_zero j)⟩
 | k + 1 => by
  have ih := Jf0 h k; rw [QK]; unfold Q2; split
  .exact ih.snoc
  .exact ih.up
theorem Yj (C : Int) (X : LL) : Asc C.toNat (JS p m v C X) := Jf0 rfl _
end
section
variable {F : GFv} {p m v g : Nat} {P M : Int} {mf : LI} {X Y : LL} {C : Int}
theorem Juz {l : LI} {x : Int} {k : Nat} {Q : Int × Bool -> Prop} (hl : l.length <= 1000000) (hs : Asc k l) (h1 : ∀ i, (∃ j, j < l.length /\ vo l j = x) -> Q (i, true)) (h2 : ∀ i, (¬ ∃ j, j < l.length /\ vo l j = x) -> Q (i, false)) : Jc1 l x Q := by
 refine ⟨fun a b => ∃ s t : Nat, a = s /\ b = t /\ s <= t /\ t <= l.length /\ (∀ j, j < s -> vo l j < x) /\ ∀ j, t <= j -> j < l.length -> x <= vo l j, fun a b => (b - a).toNat, ⟨0, l.length, rfl, rfl, Nat.zero_le _, Nat.le_refl _, fun j hj => by omega, fun j hj1 hj2 => by omega⟩, ?_⟩; rintro _ _ ⟨s, t, rfl, rfl, hst, htl, hlo, hhi⟩; dsimp only; refine ⟨fun hlt => ?_, fun hge => ?_⟩
 .obtain ⟨q, hq⟩ : ∃ q : Nat, ((s : Int) + t).fdiv 2 = q := ⟨(s + t) / 2, by
   rw [Int.fdiv_eq_ediv_of_nonneg _ (by decide)]; omega⟩
  have hq2 : q = (s + t) / 2 := by
   have : ((s : Int) + t).fdiv 2 = (((s + t) / 2 : Nat) : Int) := by rw [Int.fdiv_eq_ediv_of_nonneg _ (by decide)]; omega
   omega
  rw [hq]; have hql : q < l.length := by omega
  rw [JR]; refine ⟨Jt (by omega) (by omega), ⟨by omega, by omega⟩, Jt (by omega) (by omega), ⟨by omega, by omega⟩, ?_⟩; show (decide (vo l q ≠ vo l q) = true -> _) /\ (decide (vo l q ≠ vo l q) = false -> _)
  refine ⟨fun h => absurd (of_decide_eq_true h) (fun h => h rfl), fun _ => ⟨fun h => ?_, fun h => ?_⟩⟩
  .have hlt2 := of_decide_eq_true h; refine ⟨Jt (by omega) (by omega), ⟨q + 1, t, by push_cast; rfl, rfl, by omega, htl, fun j hj => ?_, hhi⟩, by omega⟩; rcases Nat.lt_or_ge j q with h3 | h3
   .have := hs.2 j q h3 hql; omega
   .rw [show j = q by omega]; exact hlt2
  .have hge2 := of_decide_eq_false h; refine ⟨⟨s, q, rfl, rfl, by omega, by omega, hlo, fun j hj1 hj2 => ?_⟩, by omega⟩; rcases Nat.eq_or_lt_of_le hj1 with h3 | h3
   .subst h3; omega
   .have := hs.2 q j h3 hj2; omega
 .have hse : s = t := by omega
  subst hse; rw [JR]; refine ⟨fun hlt2 => ⟨⟨by omega, by omega⟩, fun he => h1 _ ⟨s, by omega, he⟩, fun hne => ⟨⟨by omega, by omega⟩, ?_⟩⟩, fun hge2 => ?_⟩
  .have hno : ¬ ∃ j, j < l.length /\ vo l j = x := fun ⟨j, hj, he⟩ => by
    rcases Nat.lt_trichotomy j s with h3 | h3 | h3
    .have := hlo j h3; omega
    .subst h3; exact hne he
    .have := hs.2 s j h3 hj; have := hhi s (Nat.le_refl _) (by omega); omega
   show (decide (vo l s ≠ vo l s) = true -> _) /\ (decide (vo l s ≠ vo l s) = false -> _)
   exact ⟨fun h => absurd (of_decide_eq_true h) (fun h => h rfl), fun _ => h2 _ hno⟩
  .refine h2 _ fun ⟨j, hj, he⟩ => ?_; have := hlo j (by omega); omega
def YE (p m : Nat) (C : Nat) (R : LL) (pv : LI) (t k : Nat) : LI := (List.range k).foldl (fun x i => x.set (vo pv i).toNat (Ng p m (vo (row R i) t))) ((List.replicate C 0).set t 1)
theorem Yq (C : Nat) (R : LL) (pv : LI) (t k : Nat) : YE p m C R pv t (k + 1) = (YE p m C R pv t k).set (vo pv k).toNat (Ng p m (vo (row R k) t)) := by
 unfold YE; rw [List.range_succ, List.foldl_append]; rfl
theorem Jfg (C : Nat) (R : LL) (pv : LI) (t : Nat) : ∀ k, (YE p m C R pv t k).length = C
 | 0 => by simp [YE]
 | k + 1 => by rw [Yq, List.length_set]; exact Jfg C R pv t k
theorem Jjx (hq : 1 < p ^ m) (hp : 0 < p) (C : Nat) (R : LL) (pv : LI) (t : Nat) : ∀ k, Elr p m (YE p m C R pv t k)
 | 0 => fun x hx => by
  rcases List.mem_or_eq_of_mem_set hx with h | h
  .rw [List.eq_of_mem_replicate h]; exact Jf1 (q := 0) (by omega)
  .rw [h]; exact Jf1 (q := 1) (by omega)
 | k + 1 => fun x hx => by
  rw [Yq] at hx; rcases List.mem_or_eq_of_mem_set hx with h | h
  .exact Jjx hq hp C R pv t k x h
  .rw [h]; exact Jf1 (ZU hp _)
theorem Jlz {R : LL} {pv : LI} {t : Nat} {Q : LI -> Prop} (K : GFk F p m v g) (hC : 0 <= C /\ C <= 256) (ht : t < C.toNat) (hR : pv.length <= R.length) (hl : pv.length <= 1000000) (hr : ∀ i, i < R.length -> t < (row R i).length) (hp : Asc C.toNat pv)
  (h : Q (YE p m C.toNat R pv t pv.length)) : ZX F C R pv t Q := by
 refine ⟨⟨by omega, by omega, by omega⟩, ⟨by omega, by omega⟩, fun x z => ∃ k : Nat, z = k /\ k <= pv.length /\ x = YE p m C.toNat R pv t k, fun _ z => (pv.length - z).toNat, ⟨0, rfl, Nat.zero_le _, rfl⟩, ?_⟩; rintro _ _ ⟨k, rfl, hk, rfl⟩; dsimp only; rw [JR]; refine ⟨fun hlt => ⟨⟨by omega, by omega⟩, ⟨by omega, by omega⟩, ⟨by omega, by show (t : Int) < ((row R k).length : Nat); have := hr k (by omega); omega⟩, Jvo K ?_⟩, fun hge => by rw [show k = pv.length by omega]; exact h⟩; have hv : 0 <= gi pv (k : Int) /\ gi pv (k : Int) < ((C.toNat : Nat) : Int) := hp.1 k (by omega); refine ⟨⟨hv.1, by have := hv.2; omega⟩, Jt (by omega) (by omega), ⟨k + 1, by push_cast; rfl, by omega, ?_⟩, by omega⟩; rw [Yq]; rfl
def inP (pv : LI) (c : Nat) : Bool := (List.range pv.length).any fun i => vo pv i == (c : Int)
theorem Jcr {pv : LI} {c : Nat} : inP pv c = true ↔ ∃ j, j < pv.length /\ vo pv j = (c : Int) := by
 unfold inP; rw [List.any_eq_true]; exact ⟨fun ⟨i, hi, h⟩ => ⟨i, List.mem_range.1 hi, by simpa using h⟩, fun ⟨i, hi, h⟩ => ⟨i, List.mem_range.2 hi, by simpa using h⟩⟩
def bas (p m : Nat) (C : Nat) (R : LL) (pv : LI) (k : Nat) : LL := (List.range k).foldl (fun B c => if inP pv c then B else B ++ [YE p m C R pv c pv.length]) []
theorem Yz (C : Nat) (R : LL) (pv : LI) (k : Nat) : bas p m C R pv (k + 1) = if inP pv k then bas p m C R pv k else bas p m C R pv k ++ [YE p m C R pv k pv.length] := by
 unfold bas; rw [List.range_succ, List.foldl_append]; rfl
theorem Jet (C : Nat) (R : LL) (pv : LI) : ∀ k, (bas p m C R pv k).length <= k
 | 0 => Nat.le_refl _
 | k + 1 => by
  rw [Yz]; have := Jet C R pv k; split
  .omega
  .rw [List.length_append]; simp; omega
theorem Jes (C : Nat) (R : LL) (pv : LI) : ∀ k, ∀ r ∈ bas p m C R pv k, ∃ c, c < k /\ inP pv c = false /\ r = YE p m C R pv c pv.length
 | 0, r, h => by cases h
 | k + 1, r, h => by
  rw [Yz] at h; split at h
  .obtain ⟨c, h1, h2⟩ := Jes C R pv k r h; exact ⟨c, by omega, h2⟩
  .rename_i hn
   rcases List.mem_append.1 h with h | h
   .obtain ⟨c, h1, h2⟩ := Jes C R pv k r h; exact ⟨c, by omega, h2⟩
   .exact ⟨k, by omega, by simpa using hn, by simpa using h⟩
def Jcw (p m v : Nat) (C : Int) (X : LL) : LL := bas p m C.toNat (Qg p m v C X) (JS p m v C X) C.toNat
theorem YA (hs : shp C X) : shp C (Jcw p m v C X) := by
 obtain ⟨h1, h2, h3⟩ := ZH hs; refine ⟨hs.1, hs.2.1, by have := Jet (p := p) (m := m) C.toNat (Qg p m v C X) (JS p m v C X) C.toNat; unfold Jcw; omega, fun r hr => ?_⟩; obtain ⟨c, _, _, rfl⟩ := Jes _ _ _ _ r hr; rw [Jfg]; exact h3
theorem Zr (hF : FV P M mf p m v) : Els p m (Jcw p m v C X) := fun r hr => by
 obtain ⟨c, _, _, rfl⟩ := Jes _ _ _ _ r hr; exact Jjx (by have := hF.ring.q2; omega) (by have := hF.p2; omega) _ _ _ _ _
theorem QQ (hs : shp C X) : (Qg p m v C X).length = (JS p m v C X).length := by
 have h0 := ZV (p := p) (m := m) (v := v) hs; unfold Qg JS; rw [List.length_take]; have h1 := h0.pl; have h2 := h0.xl; omega
theorem Zl {Z : LL} {n t : Nat} (h : t < n) : row (Z.take n) t = row Z t := by
 unfold row; rw [List.getD_eq_getElem?_getD, List.getD_eq_getElem?_getD, List.getElem?_take, if_pos h]
theorem Jf4 (hs : shp C X) {t : Nat} (ht : t < (Qg p m v C X).length) : (row (Qg p m v C X) t).length = C.toNat := by
 have h1 := ZV (p := p) (m := m) (v := v) hs; rw [QQ hs] at ht; unfold Qg; rw [Zl (n := (ec p m v C X).pv.length) ht]; exact h1.xr t (Nat.lt_of_lt_of_le ht h1.pl)
theorem Zq (hs : shp C X) : shp C (Qg p m v C X) := by
 obtain ⟨h1, h2, h3⟩ := ZH hs; have h4 := ZV (p := p) (m := m) (v := v) hs; refine ⟨hs.1, hs.2.1, by rw [QQ hs]; have := h4.pl; show (ec p m v C X).pv.length <= 256; omega, fun r hr => ?_⟩; obtain ⟨t, ht, rfl⟩ := ZO hr; rw [Jf4 hs ht]; exact h3
theorem YP (hs : shp C X) : (JS p m v C X).length <= X.length := (ZV (p := p) (m := m) (v := v) hs).pl
theorem Jva {Q : Int × LL × Int -> Prop} (hb : mck P M mf C X ≠ 0 -> Q (0, [], mck P M mf C X))
  (h : ∀ p m v, FV P M mf p m v -> shp C X -> Els p m X -> mck P M mf C X = 0 -> Q (C, Qg p m v C (Jcw p m v C X), 0)) : Jap P M mf C X Q := by
 refine Jhm (fun h0 _ => hb h0) fun F p m v g K hF hs he h0 => Z9 K hs ?_; obtain ⟨h1, h2, h3⟩ := ZH hs; have hpl := YP (p := p) (m := m) (v := v) hs; have hcl := QQ (p := p) (m := m) (v := v) hs; have hasc := Yj (p := p) (m := m) (v := v) C X; have hrow := fun i (hi : i < (Qg p m v C X).length) => Jf4 (p := p) (m := m) (v := v) hs hi; have hfin := Z9 (Q := fun q => Q (q.1, q.2.1, 0)) K (YA (p := p) (m := m) (v := v) hs) (h p m v hF hs he h0); unfold Jcw at hfin; generalize Qg p m v C X = R at *
 generalize JS p m v C X = pv at *
 refine ⟨fun x z => ∃ k : Nat, z = k /\ k <= C.toNat /\ x = bas p m C.toNat R pv k, fun _ z => (C - z).toNat, ⟨0, rfl, Nat.zero_le _, rfl⟩, ?_⟩; rintro _ _ ⟨k, rfl, hk, rfl⟩; have hbl := Jet (p := p) (m := m) C.toNat R pv k; dsimp only; refine ⟨fun hlt => ⟨fun x _ _ => x = bas p m C.toNat R pv (k + 1), Juz (by omega) hasc (fun i hin => ⟨fun h => absurd h (by simp), fun _ => ?_⟩) (fun i hin => ⟨fun _ => ⟨_, Jlz K ⟨hs.1, hs.2.1⟩ (by omega) (by omega) (by omega) (fun i hi => by rw [hrow i hi]; omega) hasc rfl, by omega, ?_⟩, fun h => absurd h (by simp)⟩), ?_⟩, fun hge => ?_⟩
 .rw [Yz, if_pos (Jcr.2 hin)]
 .rw [Yz, if_neg (fun hh => hin (Jcr.1 hh))]
 .rintro _ _ _ rfl; exact ⟨Jt (by omega) (by omega), ⟨k + 1, by push_cast; rfl, by omega, rfl⟩, by omega⟩
 .rw [show k = C.toNat by omega]; exact hfin
end
end Go.Proofs.YtjgpkljepgcekaaGreat
namespace Go.Proofs.YtjgpkljepgcekaaGreat
section
variable {F : GFv} {p m v g : Nat} {P M : Int} {mf : LI} {X Y : LL} {C : Int}
open Classical in
noncomputable def sqe (P M : Int) (mf : LI) (C : Int) (X : LL) : Int := if mck P M mf C X ≠ 0 then mck P M mf C X else if (X.length : Int) ≠ C then 3 else 0
def cmb (p m v : Nat) (x : LI) (C : Nat) (X : LL) (k : Nat) : LI := (List.range k).foldl (fun s i => adx p m v s (vo x i) (row X i)) (List.replicate C 0)
open Classical in
noncomputable def vce (p m : Nat) (x : LI) (n : Nat) : Int := if x.length ≠ n then 3 else if ¬ Elr p m x then 2 else 0
def rgt (b : LI) : LL := b.map fun y => [y]
def eb (p m v : Nat) (C : Int) (X : LL) (b : LI) : ES := elim p m v C.toNat ⟨X, rgt b, [], 1⟩
end
def A3 : LL := [[1, 1, 0], [0, 1, 1], [1, 0, 1]]
def A2 : LL := [[1, 2], [3, 4]]
instance (p m : Nat) (x : Int) : Decidable (El p m x) := inferInstanceAs (Decidable (_ /\ _))
end Go.Proofs.YtjgpkljepgcekaaGreat
namespace Go.Proofs.YtjgpkljepgcekaaGreat
end Go.Proofs.YtjgpkljepgcekaaGreat
namespace Go.Proofs.YtjgpkljepgcekaaGreat
section
variable {F : GFv} {p m v g : Nat} {P M : Int} {mf : LI} {X : LL} {C : Int} {set y : LI}
end
end Go.Proofs.YtjgpkljepgcekaaGreat
namespace Go.Proofs.YtjgpkljepgcekaaGreat
section
variable {p m v : Nat} {P M : Int} {mf : LI} {X Y : LL} {C : Int} {w : Nat}
def en (p m : Nat) (l : LI) : Nat -> Nat := fun c => inE (p ^ m) (vo l c)
structure Lin (p m v w : Nat) (f : (Nat -> Nat) -> Nat) : Prop where
  lt : ∀ a, f a < p ^ m
  cg : ∀ {a b : Nat -> Nat}, (∀ c, c < w -> a c = b c) -> f a = f b
  ad : ∀ {a b : Nat -> Nat} {x : Nat}, (∀ c, a c < p ^ m) -> (∀ c, b c < p ^ m) -> x < p ^ m -> f (fun c => JW p m (a c) (Ju p m (dv p v) x (b c))) = JW p m (f a) (Ju p m (dv p v) x (f b))
  ml : ∀ {a : Nat -> Nat} {x : Nat}, (∀ c, a c < p ^ m) -> x < p ^ m -> f (fun c => Ju p m (dv p v) x (a c)) = Ju p m (dv p v) x (f a)
def Ann (p m : Nat) (f : (Nat -> Nat) -> Nat) (X : LL) : Prop := ∀ t, t < X.length -> f (en p m (row X t)) = 0
theorem Yo (hF : FV P M mf p m v) (l : LI) (c : Nat) : en p m l c < p ^ m := Qi (by have := hF.ring.q2; omega) _
theorem Jw2 (hF : FV P M mf p m v) {a o : LI} {x : Int} {c : Nat} (hc : c < a.length) : en p m (adx p m v a x o) c = JW p m (en p m a c) (Ju p m (dv p v) (inE (p ^ m) x) (en p m o c)) := by
 have R := hF.ring; have hq : 0 < p ^ m := by have := R.q2; omega
 have e0 : inE (p ^ m) 0 = 0 := Qv (x := 0) hq; have hz : ∀ y, y < p ^ m -> Ju p m (dv p v) 0 y = 0 := fun y hy => by rw [R.Mc hq hy]; exact R.M0 hy
 unfold en adx; split
 .rename_i h; subst h
  rw [e0, hz _ (Qi hq _), R.Az (Qi hq _)]
 .rw [Jaa hc]; split
  .rename_i h; rw [h, e0, R.M0 (Qi hq _), R.Az (Qi hq _)]
  .unfold Ad Ml; rw [Qv (R.Al _ _), Qv (R.Ml _ _)]
theorem en_sc (hF : FV P M mf p m v) {l : LI} {x : Int} {c : Nat} (hc : c < l.length) : en p m (sc p m v x l) c = Ju p m (dv p v) (inE (p ^ m) x) (en p m l c) := by
 unfold en; rw [Je2 hc]; unfold Ml; rw [Qv (hF.ring.Ml _ _)]
theorem Lin.adx {f : (Nat -> Nat) -> Nat} (L : Lin p m v w f) (hF : FV P M mf p m v) {a o : LI} {x : Int} (ha : a.length = w) : f (en p m (adx p m v a x o)) = JW p m (f (en p m a)) (Ju p m (dv p v) (inE (p ^ m) x) (f (en p m o))) := by
 rw [<- L.ad (Yo hF a) (Yo hF o) (Qi (by have := hF.ring.q2; omega) x)]; exact L.cg fun c hc => Jw2 hF (by omega)
theorem Lin.sc {f : (Nat -> Nat) -> Nat} (L : Lin p m v w f) (hF : FV P M mf p m v) {l : LI} {x : Int} (hl : l.length = w) : f (en p m (sc p m v x l)) = Ju p m (dv p v) (inE (p ^ m) x) (f (en p m l)) := by
 rw [<- L.ml (Yo hF l) (Qi (by have := hF.ring.q2; omega) x)]; exact L.cg fun c hc => en_sc hF (by omega)
theorem ZJ {r cur t : Nat} (hr : r < X.length) (hc : cur < X.length) : row (swq X r cur) t = if t = cur then row X r else if t = r then row X cur else row X t := by
  unfold swq
  split
  . rename_i h; subst h
    split
    . rename_i h; rw [h]
    . rfl
  . exact ZK hr hc
theorem Jht {cur t : Nat} {e : Int} (hc : cur < X.length) : row (scq p m v X cur e) t = if t = cur then sc p m v (Iv p m v e) (row X cur) else row X t := by
 unfold scq; rw [Q4]; by_cases h : cur = t
 .rw [if_pos ⟨h, hc⟩, if_pos h.symm]
 .rw [if_neg (fun hh => h hh.1), if_neg (fun hh => h hh.symm)]
theorem Jz5 {f : (Nat -> Nat) -> Nat} {r cur : Nat} (hr : r < X.length) (hc : cur < X.length) (h : Ann p m f (swq X r cur)) : Ann p m f X := fun t ht => by
 rw [Ann, JZ] at h; by_cases h1 : t = r
 .have := h cur hc; rw [ZJ hr hc, if_pos rfl] at this; rw [h1]; exact this
 .by_cases h2 : t = cur
  .have := h r hr; rw [ZJ hr hc] at this; rw [if_neg (fun e => h1 (h2.trans e.symm)), if_pos rfl] at this; rw [h2]; exact this
  .have := h t ht; rw [ZJ hr hc, if_neg h2, if_neg h1] at this; exact this
theorem Jz6 {f : (Nat -> Nat) -> Nat} (L : Lin p m v w f) (hF : FV P M mf p m v) {cur : Nat} {e : Int} {z : Nat} (hz : z < p ^ m) (he : Ju p m (dv p v) z (inE (p ^ m) (Iv p m v e)) = 1) (hc : cur < X.length) (hw : (row X cur).length = w) (h : Ann p m f (scq p m v X cur e)) : Ann p m f X := fun t ht => by
 have R := hF.ring; have q1 : 1 < p ^ m := R.q2; rw [Ann, Qz] at h; have h3 := h t ht; rw [Jht hc] at h3; split at h3
 .rename_i h1; subst h1
  rw [L.sc hF hw] at h3; have hi := Qi (q := p ^ m) (by omega) (Iv p m v e); have h4 := R.Ma hz hi (L.lt (en p m (row X t))); rw [he, h3, R.M0 hz, R.Mc q1 (L.lt _), R.M1 (L.lt _)] at h4; exact h4
 .exact h3
theorem Jz7 {f : (Nat -> Nat) -> Nat} (L : Lin p m v w f) (hF : FV P M mf p m v) {cur : Nat} {g : Nat -> Int} (hc : cur < X.length) (hw : ∀ t, t < X.length -> (row X t).length = w) (h : Ann p m f (clr p m v g cur X)) : Ann p m f X := fun t ht => by
 have R := hF.ring; have hq : 0 < p ^ m := by have := R.q2; omega
 rw [Ann, YG] at h; have hcur := h cur hc; rw [YZ hc, if_pos rfl] at hcur; have h3 := h t ht; rw [YZ ht] at h3; split at h3
 .exact h3
 .rw [L.adx hF (hw t ht), hcur, R.M0 (Qi hq _), R.Az (L.lt _)] at h3; exact h3
theorem iv_ex {g : Nat} (K : Gn (p ^ m) (Ju p m (dv p v)) g) (hF : FV P M mf p m v) {x : Int} (h0 : x ≠ 0) (hx : El p m x) : inE (p ^ m) x < p ^ m /\ Ju p m (dv p v) (inE (p ^ m) x) (inE (p ^ m) (Iv p m v x)) = 1 := by
 have R := hF.ring; have q1 : 1 < p ^ m := R.q2; have hx1 := Qi (q := p ^ m) (by omega) x; have hne : 0 < inE (p ^ m) x := by
  have := Jik hx; omega
 have h1 := K.xone R hne hx1; refine ⟨hx1, ?_⟩; have hz : pw (Ju p m (dv p v)) (inE (p ^ m) x) (p ^ m - 1 - 1) < p ^ m := by
  cases p ^ m - 1 - 1 with
  | zero => exact q1
  | succ n => exact R.Ml _ _
 have h2 : Ju p m (dv p v) (pw (Ju p m (dv p v)) (inE (p ^ m) x) (p ^ m - 1 - 1)) (inE (p ^ m) x) = 1 := by
  rw [show p ^ m - 1 = (p ^ m - 1 - 1) + 1 by omega] at h1; exact h1
 rw [Jqz R hx1 hz h2, Qv hz, R.Mc hx1 hz]; exact h2
theorem Jxk {g : Nat} (K : Gn (p ^ m) (Ju p m (dv p v)) g) (hF : FV P M mf p m v) {f : (Nat -> Nat) -> Nat} (L : Lin p m v w f) {S : ES} {c : Nat} (he : Els p m S.X) (hw : ∀ t, t < S.X.length -> (row S.X t).length = w) (h : Ann p m f (Q2 p m v S c).X) : Ann p m f S.X := by
  unfold Q2 at h
  split at h
  . rename_i h1
    obtain ⟨hc, hr⟩ := h1
    rw [Jbq] at h
    have hw1 : ∀ t, t < (swq S.X (nz S.X c S.pv.length) S.pv.length).length -> (row (swq S.X (nz S.X c S.pv.length) S.pv.length) t).length = w := fun t ht => by
      rw [JZ] at ht; exact QN hr hc hw ht
    have hrow : row (swq S.X (nz S.X c S.pv.length) S.pv.length) S.pv.length = row S.X (nz S.X c S.pv.length) := by rw [ZJ hr hc, if_pos rfl]
    have hne := (ZN S.X c S.pv.length (by omega)).2.2 hr
    have hcl : c < (row S.X (nz S.X c S.pv.length)).length := by
      rcases Nat.lt_or_ge c (row S.X (nz S.X c S.pv.length)).length with h | h
      . exact h
      . exact absurd (Jd3 h) hne
    have hel : El p m (vo (row S.X (nz S.X c S.pv.length)) c) := Qs he _ _ (Jbs hcl)
    obtain ⟨h4, h5⟩ := iv_ex K hF hne hel
    have h2 := Jz7 L hF (by rw [Qz, JZ]; exact hc) (fun t ht => by rw [Qz] at ht; exact QP (by rw [JZ]; exact hc) hw1 ht) h
    rw [hrow] at h2
    have h3 := Jz6 L hF h4 h5 (by rw [JZ]; exact hc) (hw1 _ (by rw [JZ]; exact hc)) h2
    exact Jz5 hr hc h3
  . exact h
theorem Jf7 {g : Nat} (K : Gn (p ^ m) (Ju p m (dv p v)) g) (hF : FV P M mf p m v) {f : (Nat -> Nat) -> Nat} (L : Lin p m v w f) {n wy : Nat} {S : ES} (hS : Shp n w wy S) (he : Els p m S.X) : ∀ k, Ann p m f (elim p m v k S).X -> Ann p m f S.X
 | 0, h => h
 | k + 1, h => by
  rw [QK] at h; have hk := YN (p := p) (m := m) (v := v) hS k; refine Jf7 K hF L hS he k (Jxk K hF L (Jaj (by have := hF.p2; omega) he k) (fun t ht => hk.xr t (by have := hk.xl; omega)) h)
end
end Go.Proofs.YtjgpkljepgcekaaGreat
namespace Go.Proofs.YtjgpkljepgcekaaGreat
section
variable {p m v g : Nat} {P M : Int} {mf : LI} {X Y : LL} {C : Int} {w : Nat}
structure Red (k : Nat) (S : ES) : Prop where
  one : ∀ i, i < S.pv.length -> ∀ t, t < S.X.length -> vo (row S.X t) (vo S.pv i).toNat = if t = i then 1 else 0
  lo : ∀ t, S.pv.length <= t -> t < S.X.length -> ∀ c, c < k -> vo (row S.X t) c = 0
  lf : ∀ i, i < S.pv.length -> ∀ c : Nat, (c : Int) < vo S.pv i -> vo (row S.X i) c = 0
theorem Jyt {a o : LI} {x : Int} {c : Nat} (h : vo o c = 0) : vo (adx p m v a x o) c = vo a c := by
 unfold adx; split
 .rfl
 .rcases Nat.lt_or_ge c a.length with hc | hc
  .rw [Jaa hc, if_pos h]
  .rw [Jd3 hc, Jd3 (by rw [Jcx]; exact hc)]
theorem Jvb (hF : FV P M mf p m v) {l : LI} {x : Int} {c : Nat} (h : vo l c = 0) : vo (sc p m v x l) c = 0 := by
 have hq : 0 < p ^ m := by have := hF.ring.q2; omega
 rcases Nat.lt_or_ge c l.length with hc | hc
 .rw [Je2 hc, h]; unfold Ml; rw [show inE (p ^ m) 0 = 0 from Qv (x := 0) hq, hF.ring.M0 (Qi hq _)]; rfl
 .exact Jd3 (by unfold sc; rw [List.length_map]; exact hc)
theorem Jwa (K : Gn (p ^ m) (Ju p m (dv p v)) g) (hF : FV P M mf p m v) {S : ES} {k : Nat} (hA : Asc k S.pv) (hl : S.pv.length <= S.X.length) (he : Els p m S.X) (h : Red k S) : Red (k + 1) (Q2 p m v S k) := by
 have R := hF.ring; have q1 : 1 < p ^ m := R.q2; have hp : 0 < p := by have := hF.p2; omega
 unfold Q2; split
 case isFalse h1 =>
  refine ⟨h.one, fun t ht1 ht2 c hc => ?_, h.lf⟩; rcases Nat.lt_or_ge c k with hck | hck
  .exact h.lo t ht1 ht2 c hck
  .have e : c = k := by omega
   subst e; have hs := ZN S.X c S.pv.length hl; exact hs.2.1 t ht1 (by
    rcases Nat.lt_or_ge t (nz S.X c S.pv.length) with h | h
    .exact h
    .exact absurd ⟨by omega, by omega⟩ h1)
 case isTrue h1 =>
  obtain ⟨hc, hr⟩ := h1; have hrs := Jp1 S.X k S.pv.length; have hne := (ZN S.X k S.pv.length hl).2.2 hr; have hkl : k < (row S.X (nz S.X k S.pv.length)).length := by
   rcases Nat.lt_or_ge k (row S.X (nz S.X k S.pv.length)).length with h | h
   .exact h
   .exact absurd (Jd3 h) hne
  have hel : El p m (vo (row S.X (nz S.X k S.pv.length)) k) := Qs he _ _ (Jbs hkl); obtain ⟨h4, h5⟩ := iv_ex K hF hne hel; have hE3 : Els p m (es1 p m v k (nz S.X k S.pv.length) S.pv.length S).X := Jip hp he hr hc; have hn : (es1 p m v k (nz S.X k S.pv.length) S.pv.length S).X.length = S.X.length := by rw [Jbq, YG, Qz, JZ]
  generalize hrr : nz S.X k S.pv.length = r at *
  have hx2 : ∀ t, row (scq p m v (swq S.X r S.pv.length) S.pv.length (vo (row (swq S.X r S.pv.length) S.pv.length) k)) t = if t = S.pv.length then sc p m v (Iv p m v (vo (row S.X r) k)) (row S.X r) else if t = r then row S.X S.pv.length else row S.X t := fun t => by
   rw [Jht (by rw [JZ]; exact hc), ZJ hr hc, ZJ hr hc, if_pos rfl]; split <;> rfl
  have hx3 : ∀ t, t < S.X.length -> row (es1 p m v k r S.pv.length S).X t = if t = S.pv.length then sc p m v (Iv p m v (vo (row S.X r) k)) (row S.X r) else adx p m v (if t = r then row S.X S.pv.length else row S.X t) (Ng p m (vo (if t = r then row S.X S.pv.length else row S.X t) k)) (sc p m v (Iv p m v (vo (row S.X r) k)) (row S.X r)) := fun t ht => by
   rw [Jbq, YZ (by rw [Qz, JZ]; exact ht), hx2, hx2, if_pos rfl]; split
   .rfl
   .rfl
  -- the columns before stay
  have hold : ∀ t, t < S.X.length -> ∀ c, c < k -> vo (row (es1 p m v k r S.pv.length S).X t) c = vo (row S.X t) c := fun t ht c hck => by
   have z1 : vo (row S.X r) c = 0 := h.lo r hrs hr c hck; have z2 : vo (row S.X S.pv.length) c = 0 := h.lo _ (Nat.le_refl _) hc c hck; rw [hx3 t ht]; split
   .rename_i e; rw [Jvb hF z1, e, z2]
   .rw [Jyt (Jvb hF z1)]; split
    .rename_i e; rw [z2, e, z1]
    .rfl
  have hone : vo (sc p m v (Iv p m v (vo (row S.X r) k)) (row S.X r)) k = 1 := by
   rw [Je2 hkl]; unfold Ml; rw [R.Mc (Qi (by omega) _) h4, h5]; rfl
  have hnew : ∀ t, t < S.X.length -> vo (row (es1 p m v k r S.pv.length S).X t) k = if t = S.pv.length then 1 else 0 := fun t ht => by
   have hEt := Qs hE3 t; have hx := hx3 t ht; by_cases e : t = S.pv.length
   .rw [if_pos e] at hx ⊢; rw [hx]; exact hone
   .rw [if_neg e] at hx ⊢; rcases Nat.lt_or_ge k (if t = r then row S.X S.pv.length else row S.X t).length with hkt | hkt
    .have h6 := Jw2 hF (x := Ng p m (vo (if t = r then row S.X S.pv.length else row S.X t) k)) (o := sc p m v (Iv p m v (vo (row S.X r) k)) (row S.X r)) hkt; rw [<- hx] at h6; have h7 : en p m (sc p m v (Iv p m v (vo (row S.X r) k)) (row S.X r)) k = 1 := by unfold en; rw [hone]; exact Qv (x := 1) q1
     rw [h7] at h6; unfold Ng at h6; have h8 : Yf p m (inE (p ^ m) (vo (if t = r then row S.X S.pv.length else row S.X t) k)) < p ^ m := ZU hp _; rw [Qv h8, R.M1 h8] at h6; have h9 : en p m (row (es1 p m v k r S.pv.length S).X t) k = 0 := by rw [h6]; exact Zo hp (Qi (by omega) _)
     have h10 : El p m (vo (row (es1 p m v k r S.pv.length S).X t) k) := hEt _ (Jbs (by rw [hx, Jiz]; exact hkt)); rw [<- Jik h10]; show ((en p m (row (es1 p m v k r S.pv.length S).X t) k : Nat) : Int) = 0; rw [h9]; rfl
    .rw [hx]; exact Jd3 (by rw [Jiz]; exact hkt)
  have hpv : (es1 p m v k r S.pv.length S).pv = S.pv ++ [(k : Int)] := rfl; refine ⟨fun i hi t ht => ?_, fun t ht1 ht2 c hck => ?_, fun i hi c hci => ?_⟩
  .rw [hn] at ht; rw [hpv, List.length_append, List.length_singleton] at hi; rw [hpv, Jcf]; by_cases e : i < S.pv.length
   .rw [if_pos e, hold t ht _ (by have := hA.1 i e; omega)]; exact h.one i e t ht
   .have e2 : i = S.pv.length := by omega
    rw [if_neg e, if_pos e2, e2]; exact hnew t ht
  .rw [hn] at ht2; rw [hpv, List.length_append, List.length_singleton] at ht1; rcases Nat.lt_or_ge c k with h6 | h6
   .rw [hold t ht2 c h6]; exact h.lo t (by omega) ht2 c h6
   .rw [show c = k by omega, hnew t ht2, if_neg (by omega)]
  .rw [hpv, List.length_append, List.length_singleton] at hi; rw [hpv, Jcf] at hci; by_cases e : i < S.pv.length
   .rw [if_pos e] at hci; rw [hold i (by omega) c (by have := hA.1 i e; omega)]; exact h.lf i e c hci
   .have e2 : i = S.pv.length := by omega
    rw [if_neg e, if_pos e2] at hci; rw [hold i (by omega) c (by omega), e2]; exact h.lo _ (Nat.le_refl _) hc c (by omega)
theorem Jj1 (K : Gn (p ^ m) (Ju p m (dv p v)) g) (hF : FV P M mf p m v) {n wy : Nat} {S : ES} (hS : Shp n w wy S) (he : Els p m S.X) (h0 : S.pv = []) : ∀ k, Red k (elim p m v k S)
 | 0 => ⟨fun i hi => by
   have : (elim p m v 0 S).pv = [] := h0; rw [this] at hi; exact absurd hi (Nat.not_lt_zero _), fun t _ _ c hc => absurd hc (Nat.not_lt_zero _), fun i hi => by
   have : (elim p m v 0 S).pv = [] := h0; rw [this] at hi; exact absurd hi (Nat.not_lt_zero _)⟩
 | k + 1 => by
  rw [QK]; have hk := YN (p := p) (m := m) (v := v) hS k; exact Jwa K hF (Jf0 h0 k) (by have := hk.pl; have := hk.xl; omega) (Jaj (by have := hF.p2; omega) he k) (Jj1 K hF hS he h0 k)
end
end Go.Proofs.YtjgpkljepgcekaaGreat
namespace Go.Proofs.YtjgpkljepgcekaaGreat
section
variable {p m v g : Nat} {P M : Int} {mf : LI} {X Y : LL} {C : Int} {w : Nat}
def fs (p m : Nat) (f : Nat -> Nat) : Nat -> Nat
  | 0 => 0
  | n + 1 => JW p m (fs p m f n) (f n)
theorem Z6 (hF : FV P M mf p m v) (f : Nat -> Nat) : ∀ n, fs p m f n < p ^ m
 | 0 => by have := hF.ring.q2; show 0 < _; omega
 | n + 1 => hF.ring.Al _ _
theorem Jfy {f h : Nat -> Nat} : ∀ n, (∀ i, i < n -> f i = h i) -> fs p m f n = fs p m h n
 | 0, _ => rfl
 | n + 1, e => by show JW p m _ _ = JW p m _ _; rw [Jfy n fun i hi => e i (by omega), e n (by omega)]
theorem mix (hF : FV P M mf p m v) {a b c d : Nat} (ha : a < p ^ m) (hb : b < p ^ m) (hc : c < p ^ m) (hd : d < p ^ m) : JW p m (JW p m a b) (JW p m c d) = JW p m (JW p m a c) (JW p m b d) := by
 have R := hF.ring; rw [R.Aa ha hb (R.Al _ _), <- R.Aa hb hc hd, R.Ac b c, R.Aa hc hb hd, <- R.Aa ha hc (R.Al _ _)]
theorem Jfx (hF : FV P M mf p m v) {f h : Nat -> Nat} {x : Nat} (hf : ∀ i, f i < p ^ m) (hh : ∀ i, h i < p ^ m) (hx : x < p ^ m) : ∀ n, fs p m (fun i => JW p m (f i) (Ju p m (dv p v) x (h i))) n = JW p m (fs p m f n) (Ju p m (dv p v) x (fs p m h n))
 | 0 => by
  have R := hF.ring; show 0 = JW p m 0 (Ju p m (dv p v) x 0); rw [R.M0 hx, R.Az (by have := R.q2; omega)]
 | n + 1 => by
  have R := hF.ring; show JW p m (fs p m _ n) _ = JW p m (JW p m _ _) (Ju p m (dv p v) x (JW p m _ _)); rw [Jfx hF hf hh hx n, R.Md hx (Z6 hF h n) (hh n), mix hF (Z6 hF f n) (R.Ml _ _) (hf n) (R.Ml _ _)]
theorem Jww (hF : FV P M mf p m v) {f : Nat -> Nat} {x : Nat} (hf : ∀ i, f i < p ^ m) (hx : x < p ^ m) : ∀ n, fs p m (fun i => Ju p m (dv p v) x (f i)) n = Ju p m (dv p v) x (fs p m f n)
 | 0 => by show 0 = Ju p m (dv p v) x 0; rw [hF.ring.M0 hx]
 | n + 1 => by
  show JW p m (fs p m _ n) _ = Ju p m (dv p v) x (JW p m _ _); rw [Jww hF hf hx n, hF.ring.Md hx (Z6 hF f n) (hf n)]
theorem ZT (hF : FV P M mf p m v) {f : Nat -> Nat} : ∀ n, (∀ i, i < n -> f i = 0) -> fs p m f n = 0
 | 0, _ => rfl
 | n + 1, h => by
  show JW p m (fs p m f n) (f n) = 0; rw [ZT hF n fun i hi => h i (by omega), h n (by omega), hF.ring.Az (by have := hF.ring.q2; omega)]
theorem Jin (hF : FV P M mf p m v) {f : Nat -> Nat} {j : Nat} (hj : f j < p ^ m) : ∀ n, j < n -> (∀ i, i < n -> i ≠ j -> f i = 0) -> fs p m f n = f j
 | 0, h, _ => absurd h (Nat.not_lt_zero _)
 | n + 1, h, e => by
  have R := hF.ring; show JW p m (fs p m f n) (f n) = f j; by_cases en : n = j
  .subst en; rw [ZT hF n fun i hi => e i (by omega) (by omega), R.Ac, R.Az hj]
  .rw [Jin hF hj n (by omega) fun i hi => e i (by omega), e n (by omega) en, R.Az hj]
def cof (p m v c r : Nat) (pv : Nat -> Nat) (nR : Nat -> Nat) (a : Nat -> Nat) : Nat := JW p m (a c) (fs p m (fun i => Ju p m (dv p v) (nR i) (a (pv i))) r)
theorem Jz1 (hF : FV P M mf p m v) {c r : Nat} {pv nR : Nat -> Nat} (hc : c < w) (hpv : ∀ i, i < r -> pv i < w) (hn : ∀ i, nR i < p ^ m) : Lin p m v w (cof p m v c r pv nR) where
 lt a := hF.ring.Al _ _
 cg h := by
  unfold cof; rw [h c hc, Jfy r fun i hi => by rw [h _ (hpv i hi)]]
 ad {a b x} ha hb hx := by
  have R := hF.ring; unfold cof; have e : (fun i => Ju p m (dv p v) (nR i) (JW p m (a (pv i)) (Ju p m (dv p v) x (b (pv i))))) = fun i => JW p m (Ju p m (dv p v) (nR i) (a (pv i))) (Ju p m (dv p v) x (Ju p m (dv p v) (nR i) (b (pv i)))) := funext fun i => by
   rw [R.Md (hn i) (ha _) (R.Ml _ _), <- R.Ma (hn i) hx (hb _), R.Mc (hn i) hx, R.Ma hx (hn i) (hb _)]
  rw [e, Jfx hF (fun i => R.Ml _ _) (fun i => R.Ml _ _) hx, mix hF (ha c) (R.Ml _ _) (Z6 hF _ _) (R.Ml _ _), <- R.Md hx (hb c) (Z6 hF _ _)]
 ml {a x} ha hx := by
  have R := hF.ring; unfold cof; have e : (fun i => Ju p m (dv p v) (nR i) (Ju p m (dv p v) x (a (pv i)))) = fun i => Ju p m (dv p v) x (Ju p m (dv p v) (nR i) (a (pv i))) := funext fun i => by
   rw [<- R.Ma (hn i) hx (ha _), R.Mc (hn i) hx, R.Ma hx (hn i) (ha _)]
  rw [e, Jww hF (fun i => R.Ml _ _) hx, <- R.Md hx (ha c) (Z6 hF _ _)]
theorem Jna (hF : FV P M mf p m v) : ∃ g, Gn (p ^ m) (Ju p m (dv p v)) g := hF.gen
end
end Go.Proofs.YtjgpkljepgcekaaGreat
namespace Go.Proofs.YtjgpkljepgcekaaGreat
section
variable {p m v g : Nat} {P M : Int} {mf : LI} {X Y : LL} {C : Int} {w : Nat}
theorem Jcs (hF : FV P M mf p m v) {l : LI} {c : Nat} {z : Nat} (hz : z < p ^ m) (h : vo l c = (z : Int)) : en p m l c = z := by unfold en; rw [h]; exact Qv hz
theorem Jer (hF : FV P M mf p m v) (hs : shp C X) (he : Els p m X) : Red C.toNat (ec p m v C X) := by
 obtain ⟨g, G⟩ := Jna hF; exact Jj1 G hF (ZI hs) he rfl _
theorem Jxc (hF : FV P M mf p m v) (hs : shp C X) (he : Els p m X) {t c : Nat} (ht : t < X.length) (hc : c < C.toNat) :
    en p m (row X t) c = fs p m (fun i => Ju p m (dv p v) (en p m (row X t) (vo (JS p m v C X) i).toNat) (en p m (row (Qg p m v C X) i) c)) (JS p m v C X).length := by
  have R := hF.ring
  have q1 : 1 < p ^ m := R.q2
  have hp : 0 < p := by have := hF.p2; omega
  obtain ⟨g, G⟩ := Jna hF
  have hS := ZV (p := p) (m := m) (v := v) hs
  have red := Jer hF hs he
  have hasc := Yj (p := p) (m := m) (v := v) C X
  have hr : (JS p m v C X).length <= X.length := YP hs
  have hrow : ∀ i, i < (JS p m v C X).length -> row (Qg p m v C X) i = row (ec p m v C X).X i := fun i hi => Zl hi
  have hneg : ∀ y, y < p ^ m -> Yf p m y < p ^ m := fun y _ => ZU hp y
  have L := Jz1 (w := C.toNat) hF (c := c) (r := (JS p m v C X).length) (pv := fun i => (vo (JS p m v C X) i).toNat) (nR := fun i => Yf p m (en p m (row (ec p m v C X).X i) c)) hc (fun i hi => by have := hasc.1 i hi; show (vo (JS p m v C X) i).toNat < _; omega) (fun i => hneg _ (Yo hF _ _))
  have hann := Jf7 G hF L (ZI hs) he C.toNat (fun s hsl => by
    have hsl' : s < X.length := by have := hS.xl; exact Nat.lt_of_lt_of_eq hsl this
    show cof _ _ _ _ _ _ _ (en p m (row (ec p m v C X).X s)) = 0
    unfold cof
    by_cases hsr : s < (JS p m v C X).length
    . have hd : ∀ i, i < (JS p m v C X).length -> en p m (row (ec p m v C X).X s) (vo (JS p m v C X) i).toNat = if s = i then 1 else 0 := fun i hi => by
        have := red.one i hi s hsl
        by_cases e : s = i
        . rw [if_pos e] at this ⊢; exact Jcs hF q1 this
        . rw [if_neg e] at this ⊢; exact Jcs hF (by omega) this
      have h9 := Jin hF (f := fun i => Ju p m (dv p v) (Yf p m (en p m (row (ec p m v C X).X i) c)) (en p m (row (ec p m v C X).X s) (vo (JS p m v C X) i).toNat)) (j := s) (R.Ml _ _) _ hsr fun i hi hne => by
        show Ju p m (dv p v) _ _ = 0
        rw [hd i hi, if_neg (fun e => hne e.symm), R.M0 (hneg _ (Yo hF _ _))]
      show JW p m _ (fs p m (fun i => Ju p m (dv p v) (Yf p m (en p m (row (ec p m v C X).X i) c)) (en p m (row (ec p m v C X).X s) (vo (JS p m v C X) i).toNat)) (JS p m v C X).length) = 0
      rw [h9]
      show JW p m _ (Ju p m (dv p v) _ _) = 0
      rw [hd s hsr, if_pos rfl, R.M1 (hneg _ (Yo hF _ _))]
      exact Zo hp (Yo hF _ _)
    . have hz : ∀ d, d < C.toNat -> en p m (row (ec p m v C X).X s) d = 0 := fun d hd => Jcs hF (by omega) (red.lo s (by show (JS p m v C X).length <= s; omega) hsl d hd)
      rw [hz c hc, ZT hF _ fun i hi => by
        show Ju p m (dv p v) _ _ = 0
        rw [hz (vo (JS p m v C X) i).toNat (by have := hasc.1 i hi; omega), R.M0 (hneg _ (Yo hF _ _))], R.Az (by omega)]) t ht
  unfold cof at hann
  have hG := Z6 hF (fun i => Ju p m (dv p v) (en p m (row X t) (vo (JS p m v C X) i).toNat) (en p m (row (Qg p m v C X) i) c)) (JS p m v C X).length
  have hN := Z6 hF (fun i => Ju p m (dv p v) (Yf p m (en p m (row (ec p m v C X).X i) c)) (en p m (row X t) (vo (JS p m v C X) i).toNat)) (JS p m v C X).length
  have hGN : JW p m (fs p m (fun i => Ju p m (dv p v) (en p m (row X t) (vo (JS p m v C X) i).toNat) (en p m (row (Qg p m v C X) i) c)) (JS p m v C X).length) (fs p m (fun i => Ju p m (dv p v) (Yf p m (en p m (row (ec p m v C X).X i) c)) (en p m (row X t) (vo (JS p m v C X) i).toNat)) (JS p m v C X).length) = 0 := by
    have h1 := Jfx hF (f := fun i => Ju p m (dv p v) (en p m (row X t) (vo (JS p m v C X) i).toNat) (en p m (row (Qg p m v C X) i) c)) (h := fun i => Ju p m (dv p v) (Yf p m (en p m (row (ec p m v C X).X i) c)) (en p m (row X t) (vo (JS p m v C X) i).toNat)) (x := 1) (fun i => R.Ml _ _) (fun i => R.Ml _ _) q1 (JS p m v C X).length
    rw [R.Mc q1 hN, R.M1 hN] at h1
    rw [<- h1]
    refine ZT hF _ fun i hi => ?_
    show JW p m (Ju p m (dv p v) _ _) (Ju p m (dv p v) 1 (Ju p m (dv p v) _ _)) = 0
    have ha := Yo hF (row X t) (vo (JS p m v C X) i).toNat
    have hb := Yo hF (row (ec p m v C X).X i) c
    rw [R.Mc q1 (R.Ml _ _), R.M1 (R.Ml _ _), hrow i hi, R.Mc (hneg _ hb) ha, <- R.Md ha hb (hneg _ hb), Zo hp hb, R.M0 ha]
  have hx := Yo hF (row X t) c
  generalize fs p m (fun i => Ju p m (dv p v) (en p m (row X t) (vo (JS p m v C X) i).toNat) (en p m (row (Qg p m v C X) i) c)) (JS p m v C X).length = G1 at *
  generalize fs p m (fun i => Ju p m (dv p v) (Yf p m (en p m (row (ec p m v C X).X i) c)) (en p m (row X t) (vo (JS p m v C X) i).toNat)) (JS p m v C X).length = N1 at *
  generalize en p m (row X t) c = a at *
  calc a = JW p m a (JW p m G1 N1) := by rw [hGN, R.Az hx]
    _ = JW p m G1 (JW p m a N1) := by rw [<- R.Aa hx hG hN, R.Ac a G1, R.Aa hG hx hN]
    _ = G1 := by rw [hann, R.Az hG]
theorem Jak (hF : FV P M mf p m v) (he : Els p m X) : Els p m (Qg p m v C X) := fun r hr => Jaj (S := ⟨X, List.replicate X.length [], [], 1⟩) (by have := hF.p2; omega) he C.toNat r (List.mem_of_mem_take hr)
theorem Jlc (hF : FV P M mf p m v) (hs : shp C X) (he : Els p m X) {i t : Nat} (hi : i < (JS p m v C X).length) (ht : t < (JS p m v C X).length) : vo (row (Qg p m v C X) t) (vo (JS p m v C X) i).toNat = if t = i then 1 else 0 := by
 have hS := ZV (p := p) (m := m) (v := v) hs; have := YP (p := p) (m := m) (v := v) hs; rw [show row (Qg p m v C X) t = row (ec p m v C X).X t from Zl ht]; exact (Jer hF hs he).one i hi t (by have := hS.xl; omega)
theorem Jxb (hF : FV P M mf p m v) (hs : shp C X) (he : Els p m X) {i c : Nat} (hi : i < (JS p m v C X).length) (hc : (c : Int) < vo (JS p m v C X) i) : vo (row (Qg p m v C X) i) c = 0 := by
 rw [show row (Qg p m v C X) i = row (ec p m v C X).X i from Zl hi]; exact (Jer hF hs he).lf i hi c hc
end
end Go.Proofs.YtjgpkljepgcekaaGreat
namespace Go.Proofs.YtjgpkljepgcekaaGreat
end Go.Proofs.YtjgpkljepgcekaaGreat
namespace Go.Proofs.YtjgpkljepgcekaaGreat
section
variable {p m v : Nat} {P M : Int} {mf : LI} {X Y : LL} {C : Int} {w : Nat}
theorem Jxj {f : (Nat -> Nat) -> Nat} {r cur : Nat} (hr : r < X.length) (hc : cur < X.length) (h : Ann p m f X) : Ann p m f (swq X r cur) := fun t ht => by
  rw [JZ] at ht
  rw [ZJ hr hc]
  split
  . exact h r hr
  . split
    . exact h cur hc
    . exact h t ht
theorem Jxl {f : (Nat -> Nat) -> Nat} (L : Lin p m v w f) (hF : FV P M mf p m v) {cur : Nat} {e : Int} (hc : cur < X.length) (hw : (row X cur).length = w) (h : Ann p m f X) : Ann p m f (scq p m v X cur e) := fun t ht => by
 rw [Qz] at ht; rw [Jht hc]; split
 .rw [L.sc hF hw, h cur hc, hF.ring.M0 (Qi (by have := hF.ring.q2; omega) _)]
 .exact h t ht
theorem Jxm {f : (Nat -> Nat) -> Nat} (L : Lin p m v w f) (hF : FV P M mf p m v) {cur : Nat} {g : Nat -> Int} (hc : cur < X.length) (hw : ∀ t, t < X.length -> (row X t).length = w) (h : Ann p m f X) : Ann p m f (clr p m v g cur X) := fun t ht => by
 have R := hF.ring; have hq : 0 < p ^ m := by have := R.q2; omega
 rw [YG] at ht; rw [YZ ht]; split
 .exact h t ht
 .rw [L.adx hF (hw t ht), h cur hc, h t ht, R.M0 (Qi hq _), R.Az hq]
theorem Jsn (hF : FV P M mf p m v) {f : (Nat -> Nat) -> Nat} (L : Lin p m v w f) {S : ES} {c : Nat} (hw : ∀ t, t < S.X.length -> (row S.X t).length = w) (h : Ann p m f S.X) : Ann p m f (Q2 p m v S c).X := by
 unfold Q2; split
 .rename_i h1
  obtain ⟨hc, hr⟩ := h1; rw [Jbq]; have hw1 : ∀ t, t < (swq S.X (nz S.X c S.pv.length) S.pv.length).length -> (row (swq S.X (nz S.X c S.pv.length) S.pv.length) t).length = w := fun t ht => by
   rw [JZ] at ht; exact QN hr hc hw ht
  exact Jxm L hF (by rw [Qz, JZ]; exact hc) (fun t ht => by rw [Qz] at ht; exact QP (by rw [JZ]; exact hc) hw1 ht) (Jxl L hF (by rw [JZ]; exact hc) (hw1 _ (by rw [JZ]; exact hc)) (Jxj hr hc h))
 .exact h
theorem Jhe (hF : FV P M mf p m v) {f : (Nat -> Nat) -> Nat} (L : Lin p m v w f) {n wy : Nat} {S : ES} (hS : Shp n w wy S) (h : Ann p m f S.X) : ∀ k, Ann p m f (elim p m v k S).X
 | 0 => h
 | k + 1 => by
  rw [QK]; have hk := YN (p := p) (m := m) (v := v) hS k; exact Jsn hF L (fun t ht => hk.xr t (by have := hk.xl; omega)) (Jhe hF L hS h k)
theorem Jz8 (hF : FV P M mf p m v) (hs : shp C X) (he : Els p m X) {f : (Nat -> Nat) -> Nat} (L : Lin p m v C.toNat f) : Ann p m f (Qg p m v C X) ↔ Ann p m f X := by
  have R := hF.ring
  have hq : 0 < p ^ m := by have := R.q2; omega
  obtain ⟨g, G⟩ := Jna hF
  have hS := ZV (p := p) (m := m) (v := v) hs
  have red := Jer hF hs he
  have hl := QQ (p := p) (m := m) (v := v) hs
  have hpl := YP (p := p) (m := m) (v := v) hs
  have f0 : ∀ a : Nat -> Nat, (∀ c, c < C.toNat -> a c = 0) -> f a = 0 := fun a ha => by
    have h1 := L.ml (a := fun _ => 0) (x := 0) (fun _ => hq) hq
    rw [R.Mc hq (L.lt _), R.M0 (L.lt _)] at h1
    rw [<- h1]
    exact L.cg fun c hc => by rw [ha c hc, R.M0 hq]
  refine ⟨fun h => Jf7 G hF L (ZI hs) he C.toNat fun t ht => ?_, fun h t ht => ?_⟩
  . by_cases hr : t < (JS p m v C X).length
    . have := h t (by omega)
      rwa [show row (Qg p m v C X) t = row (ec p m v C X).X t from Zl hr] at this
    . exact f0 _ fun c hc => Jcs hF hq (red.lo t (by show (JS p m v C X).length <= t; omega) ht c hc)
  . rw [show row (Qg p m v C X) t = row (ec p m v C X).X t from Zl (by show t < (JS p m v C X).length; omega)]
    exact Jhe hF L (ZI hs) h C.toNat t (by have := hS.xl; show t < (ec p m v C X).X.length; omega)
end
end Go.Proofs.YtjgpkljepgcekaaGreat
namespace Go.Proofs.YtjgpkljepgcekaaGreat
section
variable {p m v : Nat} {P M : Int} {mf : LI} {X Y : LL} {C : Int} {w : Nat}
def dt (p m v w : Nat) (u a : Nat -> Nat) : Nat := fs p m (fun c => Ju p m (dv p v) (u c) (a c)) w
theorem dt_lin (hF : FV P M mf p m v) {u : Nat -> Nat} (hu : ∀ c, u c < p ^ m) : Lin p m v w (dt p m v w u) where
 lt a := Z6 hF _ _
 cg h := Jfy _ fun c hc => by rw [h c hc]
 ad {a b x} ha hb hx := by
  have R := hF.ring; unfold dt; have e : (fun c => Ju p m (dv p v) (u c) (JW p m (a c) (Ju p m (dv p v) x (b c)))) = fun c => JW p m (Ju p m (dv p v) (u c) (a c)) (Ju p m (dv p v) x (Ju p m (dv p v) (u c) (b c))) := funext fun c => by
   rw [R.Md (hu c) (ha _) (R.Ml _ _), <- R.Ma (hu c) hx (hb _), R.Mc (hu c) hx, R.Ma hx (hu c) (hb _)]
  rw [e, Jfx hF (fun c => R.Ml _ _) (fun c => R.Ml _ _) hx]
 ml {a x} ha hx := by
  have R := hF.ring; unfold dt; have e : (fun c => Ju p m (dv p v) (u c) (Ju p m (dv p v) x (a c))) = fun c => Ju p m (dv p v) x (Ju p m (dv p v) (u c) (a c)) := funext fun c => by
   rw [<- R.Ma (hu c) hx (ha _), R.Mc (hu c) hx, R.Ma hx (hu c) (ha _)]
  rw [e, Jww hF (fun c => R.Ml _ _) hx]
theorem Jng (hF : FV P M mf p m v) {u u' a : Nat -> Nat} {d y : Nat} (ha : ∀ c, a c < p ^ m) (hy : y < p ^ m) (h0 : u d = 0) (h : ∀ c, u' c = if c = d then y else u c) : ∀ w, d < w -> dt p m v w u' a = JW p m (dt p m v w u a) (Ju p m (dv p v) y (a d))
 | 0, hd => absurd hd (Nat.not_lt_zero _)
 | k + 1, hd => by
  have R := hF.ring; have hq : 0 < p ^ m := by have := R.q2; omega
  show JW p m (dt p m v k u' a) (Ju p m (dv p v) (u' k) (a k)) = JW p m (JW p m (dt p m v k u a) (Ju p m (dv p v) (u k) (a k))) (Ju p m (dv p v) y (a d)); have hD : dt p m v k u a < p ^ m := Z6 hF (fun c => Ju p m (dv p v) (u c) (a c)) k; by_cases e : k = d
  .subst e; have e1 : dt p m v k u' a = dt p m v k u a := Jfy _ fun c hc => by rw [h c, if_neg (by omega)]
   rw [e1, h k, if_pos rfl, h0, R.Mc hq (ha k), R.M0 (ha k), R.Az hD]
  .rw [Jng hF ha hy h0 h k (by omega), h k, if_neg e, R.Aa hD (R.Ml _ _) (R.Ml _ _), R.Aa hD (R.Ml _ _) (R.Ml _ _), R.Ac (Ju p m (dv p v) y (a d))]
theorem Jff {n t d : Nat} {R : LL} {pv : LI} (hd : d ≠ t) : ∀ k, (∀ i, i < k -> (vo pv i).toNat ≠ d) -> vo (YE p m n R pv t k) d = 0
 | 0, _ => by
  show vo ((List.replicate n (0 : Int)).set t 1) d = 0; rw [J5, if_neg (fun h => hd h.1.symm)]; exact Je3 n d
 | k + 1, h => by
  rw [Yq, J5, if_neg (fun e => h k (by omega) e.1)]; exact Jff hd k fun i hi => h i (by omega)
theorem Jw6 (hF : FV P M mf p m v) {n t : Nat} {R : LL} {pv : LI} (ht : t < n) (hp : Asc n pv) (hf : ∀ i, i < pv.length -> (vo pv i).toNat ≠ t) {a : Nat -> Nat} (ha : ∀ c, a c < p ^ m) : ∀ k, k <= pv.length ->
  dt p m v n (en p m (YE p m n R pv t k)) a = cof p m v t k (fun i => (vo pv i).toNat) (fun i => Yf p m (en p m (row R i) t)) a
 | 0, _ => by
  have R' := hF.ring; have q1 : 1 < p ^ m := R'.q2; have h1 := Jng (w := n) hF (u := fun _ => 0) (u' := en p m (YE p m n R pv t 0)) (a := a) (d := t) (y := 1) ha q1 rfl (fun c => by
   show inE (p ^ m) (vo ((List.replicate n (0 : Int)).set t 1) c) = _; rw [J5]; by_cases e : t = c
   .rw [if_pos ⟨e, by rw [List.length_replicate]; exact ht⟩, if_pos e.symm]; exact Qv (x := 1) q1
   .rw [if_neg (fun h => e h.1), if_neg (fun h => e h.symm), Je3]; exact Qv (x := 0) (by omega)) ht
  rw [h1]; have h2 : dt p m v n (fun _ => 0) a = 0 := ZT hF _ fun c _ => by
   show Ju p m (dv p v) 0 (a c) = 0; rw [R'.Mc (by omega) (ha c), R'.M0 (ha c)]
  rw [h2, R'.Ac, R'.Az (R'.Ml _ _), R'.Mc q1 (ha t), R'.M1 (ha t)]; show a t = JW p m (a t) 0; rw [R'.Az (ha t)]
 | k + 1, hk => by
  have R' := hF.ring; have hpos : 0 < p := by have := hF.p2; omega
  have hpk := hp.1 k (by omega); have hne : ∀ i, i < k -> (vo pv i).toNat ≠ (vo pv k).toNat := fun i hi => by
   have h1 := hp.2 i k hi (by omega); have h2 := hp.1 i (by omega); omega
  have hn := ZU (m := m) hpos (en p m (row R k) t); have h1 := Jng (w := n) hF (u := en p m (YE p m n R pv t k)) (u' := en p m (YE p m n R pv t (k + 1))) (a := a) (d := (vo pv k).toNat) (y := Yf p m (en p m (row R k) t)) ha hn (by
    unfold en; rw [Jff (hf k (by omega)) k hne]; exact Qv (x := 0) (by have := R'.q2; omega)) (fun c => by
   unfold en; rw [Yq, J5]; by_cases e : (vo pv k).toNat = c
   .rw [if_pos ⟨e, by rw [Jfg]; omega⟩, if_pos e.symm]; exact Qv hn
   .rw [if_neg (fun h => e h.1), if_neg (fun h => e h.symm)]) (by omega)
  rw [h1, Jw6 hF ht hp hf ha k (by omega)]; show JW p m (JW p m (a t) _) _ = JW p m (a t) (JW p m _ _); rw [R'.Aa (ha t) (Z6 hF _ _) (R'.Ml _ _)]
theorem Jyz (hF : FV P M mf p m v) (hs : shp C X) (he : Els p m X) {t : Nat} (ht : t < C.toNat) (hf : ∀ i, i < (JS p m v C X).length -> (vo (JS p m v C X) i).toNat ≠ t) : Ann p m (dt p m v C.toNat (en p m (YE p m C.toNat (Qg p m v C X) (JS p m v C X) t (JS p m v C X).length))) X := by
  have R := hF.ring
  have q1 : 1 < p ^ m := R.q2
  have hp : 0 < p := by have := hF.p2; omega
  have hasc := Yj (p := p) (m := m) (v := v) C X
  have hl := QQ (p := p) (m := m) (v := v) hs
  refine (Jz8 hF hs he (dt_lin hF fun c => Yo hF _ c)).1 fun s hs' => ?_
  rw [Jw6 hF ht hasc hf (fun c => Yo hF _ c) _ (Nat.le_refl _)]
  unfold cof
  have hsr : s < (JS p m v C X).length := by omega
  have hd : ∀ i, i < (JS p m v C X).length -> en p m (row (Qg p m v C X) s) (vo (JS p m v C X) i).toNat = if s = i then 1 else 0 := fun i hi => by
    have := Jlc hF hs he hi hsr
    by_cases e : s = i
    . rw [if_pos e] at this ⊢; exact Jcs hF q1 this
    . rw [if_neg e] at this ⊢; exact Jcs hF (by omega) this
  have hneg : ∀ i, Yf p m (en p m (row (Qg p m v C X) i) t) < p ^ m := fun i => ZU hp _
  rw [Jin hF (f := fun i => Ju p m (dv p v) (Yf p m (en p m (row (Qg p m v C X) i) t)) (en p m (row (Qg p m v C X) s) (vo (JS p m v C X) i).toNat)) (j := s) (R.Ml _ _) _ hsr fun i hi hne => by
    show Ju p m (dv p v) _ _ = 0
    rw [hd i hi, if_neg (fun e => hne e.symm), R.M0 (hneg i)]]
  show JW p m _ (Ju p m (dv p v) _ _) = 0
  rw [hd s hsr, if_pos rfl, R.M1 (hneg s)]
  exact Zo hp (Yo hF _ _)
end
end Go.Proofs.YtjgpkljepgcekaaGreat
namespace Go.Proofs.YtjgpkljepgcekaaGreat
section
variable {p m v : Nat} {P M : Int} {mf : LI} {X Y : LL} {C : Int} {w : Nat}
theorem Jm3 {pv : LI} {c : Nat} (h : ¬ inP pv c = true) : ∀ i, i < pv.length -> vo pv i ≠ (c : Int) := fun i hi e => h (Jcr.2 ⟨i, hi, e⟩)
theorem Jqf {n : Nat} (R : LL) {pv : LI} (hp : Asc n pv) : ∀ k, k <= n -> ∃ c, c <= pv.length /\ (∀ i, i < pv.length -> (vo pv i < (k : Int) ↔ i < c)) /\ (bas p m n R pv k).length + c = k
 | 0, _ => ⟨0, Nat.zero_le _, fun i hi => ⟨fun h => by have := hp.1 i hi; omega, fun h => absurd h (Nat.not_lt_zero _)⟩, rfl⟩
 | k + 1, hk => by
  obtain ⟨c, h1, h2, h3⟩ := Jqf R hp k (by omega); rw [Yz]; by_cases hin : inP pv k = true
  .rw [if_pos hin]; obtain ⟨j, hj, e⟩ := Jcr.1 hin; have hcj : c <= j := by
    rcases Nat.lt_or_ge j c with h | h
    .have := (h2 j hj).2 h; omega
    .exact h
   have hc : c < pv.length := by omega
   have e2 : c = j := by
    rcases Nat.lt_or_ge c j with h | h
    .have h5 := hp.2 c j h hj; have h6 := (h2 c hc).1 (by omega); omega
    .omega
   subst e2; refine ⟨c + 1, by omega, fun i hi => ⟨fun h => ?_, fun h => ?_⟩, by omega⟩
   .rcases Nat.lt_or_ge i (c + 1) with h' | h'
    .exact h'
    .have := hp.2 c i (by omega) hi; omega
   .rcases Nat.lt_or_ge i c with h' | h'
    .have := (h2 i hi).2 h'; omega
    .rw [show i = c by omega]; omega
  .rw [if_neg hin]; refine ⟨c, h1, fun i hi => ?_, by rw [List.length_append, List.length_singleton]; omega⟩; have := Jm3 hin i hi; rw [<- h2 i hi]; omega
theorem Jle {n : Nat} (R : LL) {pv : LI} (hp : Asc n pv) : (bas p m n R pv n).length + pv.length = n := by
 obtain ⟨c, h1, h2, h3⟩ := Jqf (p := p) (m := m) R hp n (Nat.le_refl _); have : c = pv.length := by
  rcases Nat.lt_or_ge c pv.length with h | h
  .have := (h2 c h).1 (hp.1 c h).2; omega
  .omega
 omega
theorem Jy4 {Z : LL} {l : LI} {t : Nat} : row (Z ++ [l]) t = if t < Z.length then row Z t else if t = Z.length then l else [] := by
 unfold row; rw [List.getD_eq_getElem?_getD, List.getElem?_append]; split
 .rw [<- List.getD_eq_getElem?_getD]
 .rename_i h
  split
  .rename_i e; rw [e, Nat.sub_self]; rfl
  .rw [List.getElem?_eq_none (by simp; omega)]; rfl
theorem Jf5 {n : Nat} (R : LL) (pv : LI) : ∀ k, ∃ fc : Nat -> Nat, (∀ j, j < (bas p m n R pv k).length -> fc j < k /\ ¬ inP pv (fc j) = true /\ row (bas p m n R pv k) j = YE p m n R pv (fc j) pv.length) /\ ∀ i j, i < j -> j < (bas p m n R pv k).length -> fc i < fc j
 | 0 => ⟨fun _ => 0, fun j hj => absurd hj (Nat.not_lt_zero _), fun i j _ hj => absurd hj (Nat.not_lt_zero _)⟩
 | k + 1 => by
  obtain ⟨fc, h1, h2⟩ := Jf5 (n := n) R pv k; rw [Yz]; by_cases hin : inP pv k = true
  .rw [if_pos hin]; exact ⟨fc, fun j hj => ⟨by have := (h1 j hj).1; omega, (h1 j hj).2⟩, h2⟩
  .rw [if_neg hin]; refine ⟨fun j => if j < (bas p m n R pv k).length then fc j else k, fun j hj => ?_, fun i j hij hj => ?_⟩
   .rw [List.length_append, List.length_singleton] at hj; dsimp only; rw [Jy4]; by_cases e : j < (bas p m n R pv k).length
    .rw [if_pos e, if_pos e]; exact ⟨by have := (h1 j e).1; omega, (h1 j e).2⟩
    .rw [if_neg e, if_neg e, if_pos (by omega)]; exact ⟨by omega, hin, rfl⟩
   .rw [List.length_append, List.length_singleton] at hj; dsimp only; rw [if_pos (by omega : i < (bas p m n R pv k).length)]; by_cases e : j < (bas p m n R pv k).length
    .rw [if_pos e]; exact h2 i j hij e
    .rw [if_neg e]; exact (h1 i (by omega)).1
theorem Jvv {n t : Nat} {R : LL} {pv : LI} (ht : t < n) : ∀ k, (∀ i, i < k -> (vo pv i).toNat ≠ t) -> vo (YE p m n R pv t k) t = 1
 | 0, _ => by
  show vo ((List.replicate n (0 : Int)).set t 1) t = 1; rw [J5, if_pos ⟨rfl, by rw [List.length_replicate]; exact ht⟩]
 | k + 1, h => by
  rw [Yq, J5, if_neg (fun e => h k (by omega) e.1)]; exact Jvv ht k fun i hi => h i (by omega)
theorem Jp6 (hF : FV P M mf p m v) {u : Nat -> Nat} {A : Nat -> Nat -> Nat} {R' : Nat -> Nat} (hu : ∀ j, u j < p ^ m) (hA : ∀ i j, A i j < p ^ m) (hR : ∀ i, R' i < p ^ m) (n : Nat) : ∀ r,
  fs p m (fun j => Ju p m (dv p v) (u j) (fs p m (fun i => Ju p m (dv p v) (A i j) (R' i)) r)) n = fs p m (fun i => Ju p m (dv p v) (R' i) (fs p m (fun j => Ju p m (dv p v) (u j) (A i j)) n)) r
 | 0 => ZT hF _ fun j _ => hF.ring.M0 (hu j)
 | r + 1 => by
  have R := hF.ring; show _ = JW p m (fs p m _ r) (Ju p m (dv p v) (R' r) (fs p m _ n)); rw [<- Jp6 hF hu hA hR n r, <- Jfx hF (fun j => R.Ml _ _) (fun j => R.Ml _ _) (hR r)]; refine Jfy _ fun j _ => ?_; show Ju p m (dv p v) (u j) (JW p m _ _) = _; rw [R.Md (hu j) (Z6 hF _ _) (R.Ml _ _), R.Mc (hA r j) (hR r), <- R.Ma (hu j) (hR r) (hA r j), R.Mc (hu j) (hR r), R.Ma (hR r) (hu j) (hA r j)]
theorem Jld (hF : FV P M mf p m v) {B : LL} (hs : shp C B) (he : Els p m B) (fc : Nat -> Nat) (hf : ∀ j, j < B.length -> fc j < C.toNat) (hu : ∀ i j, i < B.length -> j < B.length -> vo (row B i) (fc j) = if i = j then 1 else 0) : (JS p m v C B).length = B.length := by
  have R := hF.ring
  have q1 : 1 < p ^ m := R.q2
  have hle := YP (p := p) (m := m) (v := v) hs
  rcases Nat.lt_or_ge (JS p m v C B).length B.length with hlt | h
  . exfalso
    have hB := Jen hs
    -- the entries at the pivots, as a matrix of fewer rows than columns
    have hA : ∃ A : LL, A = (List.range (JS p m v C B).length).map fun i => (List.range B.length).map fun j => vo (row B j) (vo (JS p m v C B) i).toNat := ⟨_, rfl⟩
    obtain ⟨A, hA⟩ := hA
    have hAl : A.length = (JS p m v C B).length := by rw [hA]; simp
    have hAr : ∀ i, i < A.length -> row A i = (List.range B.length).map fun j => vo (row B j) (vo (JS p m v C B) i).toNat := fun i hi => by rw [hA]; exact Jeo (by omega)
    have hAe : ∀ i, i < A.length -> ∀ j, j < B.length -> vo (row A i) j = vo (row B j) (vo (JS p m v C B) i).toNat := fun i hi j hj => by rw [hAr i hi]; exact Jvc hj
    have hAs : shp (B.length : Int) A := ⟨by omega, by omega, by omega, fun r hr => by
      obtain ⟨i, hi, rfl⟩ := ZO hr
      rw [hAr i hi]; simp⟩
    have hasc := Yj (p := p) (m := m) (v := v) C B
    have hAE : Els p m A := Jai fun i hi => Jnf fun j hj => by
      rw [hAr i hi, List.length_map, List.length_range] at hj
      rw [hAe i hi j hj]
      have h5 := hasc.1 i (by omega)
      exact Qs he j _ (Jbs (by rw [ZG hs hj]; omega))
    have hal := YP (p := p) (m := m) (v := v) hAs
    have hascA := Yj (p := p) (m := m) (v := v) (B.length : Int) A
    have e0 : ((B.length : Nat) : Int).toNat = B.length := by omega
    have hbl := Jle (p := p) (m := m) (Qg p m v (B.length : Int) A) hascA
    obtain ⟨fa, h1, _⟩ := Jf5 (p := p) (m := m) (n := ((B.length : Nat) : Int).toNat) (Qg p m v (B.length : Int) A) (JS p m v (B.length : Int) A) ((B.length : Nat) : Int).toNat
    obtain ⟨ht, hnp, _⟩ := h1 0 (by omega)
    generalize fa 0 = t at *
    have hnp' : ∀ i, i < (JS p m v (B.length : Int) A).length -> (vo (JS p m v (B.length : Int) A) i).toNat ≠ t := fun i hi => by
      have h5 := Jm3 hnp i hi
      have h6 := hascA.1 i hi
      omega
    have hann := Jyz hF hAs hAE ht hnp'
    have hut : en p m (YE p m ((B.length : Nat) : Int).toNat (Qg p m v (B.length : Int) A) (JS p m v (B.length : Int) A) t (JS p m v (B.length : Int) A).length) t = 1 := Jcs hF q1 (Jvv ht _ hnp')
    have hul := Yo hF (YE p m ((B.length : Nat) : Int).toNat (Qg p m v (B.length : Int) A) (JS p m v (B.length : Int) A) t (JS p m v (B.length : Int) A).length)
    generalize en p m (YE p m ((B.length : Nat) : Int).toNat (Qg p m v (B.length : Int) A) (JS p m v (B.length : Int) A) t (JS p m v (B.length : Int) A).length) = u at *
    rw [e0] at hann ht
    have hl := hf t ht
    -- the sum of the rows by u, at t's own column, in two ways
    have s1 : fs p m (fun j => Ju p m (dv p v) (u j) (en p m (row B j) (fc t))) B.length = 1 := by
      have h5 : ∀ j, j < B.length -> en p m (row B j) (fc t) = if j = t then 1 else 0 := fun j hj => by
        have := hu j t hj ht
        by_cases e : j = t
        . rw [if_pos e] at this ⊢; exact Jcs hF q1 this
        . rw [if_neg e] at this ⊢; exact Jcs hF (by omega) this
      rw [Jin hF (f := fun j => Ju p m (dv p v) (u j) (en p m (row B j) (fc t))) (j := t) (R.Ml _ _) _ ht fun j hj hne => by
        show Ju p m (dv p v) _ _ = 0
        rw [h5 j hj, if_neg hne, R.M0 (hul j)]]
      show Ju p m (dv p v) _ _ = 1
      rw [h5 t ht, if_pos rfl, hut, R.M1 q1]
    have s2 : fs p m (fun j => Ju p m (dv p v) (u j) (en p m (row B j) (fc t))) B.length = 0 := by
      rw [Jfy (h := fun j => Ju p m (dv p v) (u j) (fs p m (fun i => Ju p m (dv p v) (en p m (row B j) (vo (JS p m v C B) i).toNat) (en p m (row (Qg p m v C B) i) (fc t))) (JS p m v C B).length)) B.length fun j hj => by rw [Jxc hF hs he hj hl]]
      rw [Jp6 hF (A := fun i j => en p m (row B j) (vo (JS p m v C B) i).toNat) (R' := fun i => en p m (row (Qg p m v C B) i) (fc t)) hul (fun i j => Yo hF _ _) (fun i => Yo hF _ _)]
      refine ZT hF _ fun i hi => ?_
      show Ju p m (dv p v) _ _ = 0
      have h5 : fs p m (fun j => Ju p m (dv p v) (u j) (en p m (row B j) (vo (JS p m v C B) i).toNat)) B.length = 0 := by
        have h6 := hann i (by omega)
        unfold dt at h6
        rw [<- h6]
        refine Jfy _ fun j hj => ?_
        show Ju p m (dv p v) _ _ = Ju p m (dv p v) _ _
        congr 1
        unfold en
        rw [hAe i (by omega) j hj]
      rw [h5, R.M0 (Yo hF _ _)]
    rw [s1] at s2; exact absurd s2 (by decide)
  . omega
theorem Jxi (hF : FV P M mf p m v) (hs : shp C X) (he : Els p m X) : (Qg p m v C (Jcw p m v C X)).length + (JS p m v C X).length = C.toNat := by
  have hasc := Yj (p := p) (m := m) (v := v) C X
  obtain ⟨fc, h1, h2⟩ := Jf5 (p := p) (m := m) (n := C.toNat) (Qg p m v C X) (JS p m v C X) C.toNat
  have hb := Jle (p := p) (m := m) (Qg p m v C X) hasc
  have hnp : ∀ j, j < (Jcw p m v C X).length -> ∀ i, i < (JS p m v C X).length -> (vo (JS p m v C X) i).toNat ≠ fc j := fun j hj i hi => by
    have h5 := Jm3 (h1 j hj).2.1 i hi
    have h6 := hasc.1 i hi
    omega
  have h5 := Jld hF (B := Jcw p m v C X) (YA hs) (Zr hF) fc (fun j hj => (h1 j hj).1) fun i j hi hj => by
    have e : row (Jcw p m v C X) i = YE p m C.toNat (Qg p m v C X) (JS p m v C X) (fc i) (JS p m v C X).length := (h1 i hi).2.2
    rw [e]
    by_cases e2 : i = j
    . subst e2; rw [if_pos rfl]; exact Jvv (h1 i hi).1 _ (hnp i hi)
    . rw [if_neg e2]
      refine Jff ?_ _ (hnp j hj)
      rcases Nat.lt_or_ge i j with h | h
      . have := h2 i j h hj; omega
      . have := h2 j i (by omega) hi; omega
  rw [QQ (YA hs), h5]
  exact hb
end
end Go.Proofs.YtjgpkljepgcekaaGreat
namespace Go.Proofs.YtjgpkljepgcekaaGreat
section
variable {p m v : Nat} {P M : Int} {mf : LI} {X Y : LL} {C : Int} {w : Nat}
theorem Jyp {Q : LL -> Prop} (hF : FV P M mf p m v) (hs : shp C X) (he : Els p m X) (h : Q (Qg p m v C (Jcw p m v C X))) : Jex P M mf X C Q := by
 obtain ⟨h1, h2, h3⟩ := ZH hs; have hpl := YP (p := p) (m := m) (v := v) hs; have hcl := QQ (p := p) (m := m) (v := v) hs; have hasc := Yj (p := p) (m := m) (v := v) C X; have hrow := fun i (hi : i < (Qg p m v C X).length) => Jf4 (p := p) (m := m) (v := v) hs hi; have hfin := Jce (Q := fun q => Q q.1) hF (YA (p := p) (m := m) (v := v) hs) (Zr hF) h; refine Jce hF hs he ⟨⟨by omega, by omega, by omega⟩, fun x z => ∃ k : Nat, z = k /\ k <= C.toNat /\ x.length = C.toNat /\ ∀ j, j < k -> vo x j = -1, fun _ z => (C - z).toNat, ⟨0, rfl, Nat.zero_le _, by simp, fun j hj => by omega⟩, ?_⟩; unfold Jcw at hfin; generalize Qg p m v C X = R at *
 generalize JS p m v C X = pv at *
 rintro x _ ⟨k, rfl, hk, hx, hk1⟩; refine ⟨fun hlt => ⟨⟨by omega, by omega⟩, Jt (by omega) (by omega), ⟨k + 1, by push_cast; rfl, by omega, by rw [Qn, List.length_set]; exact hx, fun j hj => ?_⟩, by dsimp only; omega⟩, fun hge => ?_⟩
 .rw [Qn, J5]; by_cases e : k = j
  .rw [if_pos ⟨e, by omega⟩]
  .rw [if_neg (fun hh => e hh.1)]; exact hk1 j (by omega)
 have hk1' : ∀ j, j < C.toNat -> vo x j = -1 := fun j hj => hk1 j (by omega); refine ⟨fun y z => ∃ i : Nat, z = i /\ i <= pv.length /\ y.length = C.toNat /\ ∀ d, d < C.toNat -> (0 <= vo y d ↔ ∃ j, j < i /\ vo pv j = (d : Int)), fun _ z => (pv.length - z).toNat, ⟨0, rfl, Nat.zero_le _, hx, fun d hd => ⟨fun hh => by rw [hk1' d hd] at hh; exact absurd hh (by decide), fun ⟨j, hj, _⟩ => absurd hj (Nat.not_lt_zero _)⟩⟩, ?_⟩; rintro y _ ⟨i, rfl, hi, hy, hy1⟩; refine ⟨fun hlt => ?_, fun hge => ?_⟩
 .have hpi := hasc.1 i (by omega); have hpi' : 0 <= gi pv (i : Int) /\ gi pv (i : Int) < ((C.toNat : Nat) : Int) := hpi; refine ⟨⟨by omega, by omega⟩, hpi', Jt (by omega) (by omega), ⟨i + 1, by push_cast; rfl, by omega, ?_, fun d hd => ?_⟩, by dsimp only; omega⟩
  .show (y.set _ _).length = _; rw [List.length_set]; exact hy
  .show 0 <= vo (y.set (vo pv i).toNat (i : Int)) d ↔ _; rw [J5]; by_cases e : (vo pv i).toNat = d
   .rw [if_pos ⟨e, by omega⟩]; exact ⟨fun _ => ⟨i, by omega, by omega⟩, fun _ => by omega⟩
   .rw [if_neg (fun hh => e hh.1), hy1 d hd]; refine ⟨fun ⟨j, hj, hj'⟩ => ⟨j, by omega, hj'⟩, fun ⟨j, hj, hj'⟩ => ⟨j, ?_, hj'⟩⟩; rcases Nat.lt_or_ge j i with h5 | h5
    .exact h5
    .rw [show j = i by omega] at hj'; omega
 have hy2 : ∀ d, d < C.toNat -> (0 <= vo y d ↔ inP pv d = true) := fun d hd => by
  rw [hy1 d hd, Jcr, show i = pv.length by omega]
 refine ⟨fun x z => ∃ k : Nat, z = k /\ k <= C.toNat /\ x = bas p m C.toNat R pv k, fun _ z => (C - z).toNat, ⟨0, rfl, Nat.zero_le _, rfl⟩, ?_⟩; rintro _ _ ⟨k, rfl, hk, rfl⟩; have hbl := Jet (p := p) (m := m) C.toNat R pv k; refine ⟨fun hlt => ⟨fun x => x = bas p m C.toNat R pv (k + 1), ⟨⟨by omega, by omega⟩, fun hin => ?_, fun hin => ?_⟩, ?_⟩, fun hge => ?_⟩
 .rw [Yz, if_pos ((hy2 k (by omega)).1 hin)]
 .refine ⟨⟨by omega, by omega, by omega⟩, ⟨by omega, by omega⟩, fun x z => ∃ i : Nat, z = i /\ i <= pv.length /\ x = YE p m C.toNat R pv k i, fun _ z => (pv.length - z).toNat, ⟨0, rfl, Nat.zero_le _, rfl⟩, ?_⟩; rintro _ _ ⟨i, rfl, hi', rfl⟩; refine ⟨fun hlt2 => ?_, fun hge2 => ⟨by omega, ?_⟩⟩
  .have hpi := hasc.1 i (by omega); have hpi' : 0 <= gi pv (i : Int) /\ gi pv (i : Int) < ((C.toNat : Nat) : Int) := hpi; refine ⟨⟨by omega, by omega⟩, ⟨by omega, by omega⟩, ⟨by omega, by show (k : Int) < ((row R i).length : Int); rw [hrow i (by omega)]; omega⟩, _, Jvl hF rfl, hpi', Jt (by omega) (by omega), ⟨i + 1, by push_cast; rfl, by omega, ?_⟩, by dsimp only; omega⟩; rw [Yq]; rfl
  .rw [Yz, if_neg (fun hh => hin ((hy2 k (by omega)).2 hh)), show i = pv.length by omega]
 .rintro _ rfl; exact ⟨Jt (by omega) (by omega), ⟨k + 1, by push_cast; rfl, by omega, rfl⟩, by dsimp only; omega⟩
 .rw [show k = C.toNat by omega]; exact hfin
end
end Go.Proofs.YtjgpkljepgcekaaGreat
namespace Go.Proofs.YtjgpkljepgcekaaGreat
section
variable {p m v : Nat} {P M : Int} {mf : LI} {X Y : LL} {C : Int} {w wy : Nat}
def e2 (p m w : Nat) (a b : LI) : Nat -> Nat := fun c => if c < w then en p m a c else en p m b (c - w)
end
end Go.Proofs.YtjgpkljepgcekaaGreat
namespace Go.Proofs.YtjgpkljepgcekaaGreat
section
variable {p m v : Nat} {P M : Int} {mf : LI} {X Y : LL} {C : Int} {w wy : Nat}
def u1 (p m w : Nat) (u : Nat -> Nat) : Nat -> Nat := fun c => if c < w then u c else Yf p m 1
end
end Go.Proofs.YtjgpkljepgcekaaGreat
namespace Go.Proofs.YtjgpkljepgcekaaGreat
end Go.Proofs.YtjgpkljepgcekaaGreat
namespace Go.Proofs.YtjgpkljepgcekaaGreat
section
variable {p m v : Nat} {P M : Int} {mf : LI} {X Y : LL} {C D : Int} {w wy : Nat}
def mm (p m v w : Nat) (A B : LL) : LL := (List.range A.length).map fun t => cmb p m v (row A t) w B B.length
def tr (n : Nat) (A : LL) : LL := (List.range n).map fun c => (List.range A.length).map fun t => vo (row A t) c
theorem tr_len (n : Nat) (A : LL) : (tr n A).length = n := by simp [tr]
theorem Jme {n c : Nat} {A : LL} (h : c < n) : row (tr n A) c = (List.range A.length).map fun t => vo (row A t) c := Jeo h
theorem Jl6 {n c : Nat} {A : LL} (h : c < n) : (row (tr n A) c).length = A.length := by rw [Jme h]; simp
end
end Go.Proofs.YtjgpkljepgcekaaGreat
namespace Go.Proofs.YtjgpkljepgcekaaGreat
section
variable {P M : Int} {mf : LI} {X : LL} {C : Int}
end
end Go.Proofs.YtjgpkljepgcekaaGreat
namespace Go.Proofs.YtjgpkljepgcekaaGreat
section
variable {p m v : Nat} {P M : Int} {mf : LI} {X Y : LL} {C D : Int} {w wy : Nat}
end
end Go.Proofs.YtjgpkljepgcekaaGreat
namespace Go.Proofs.YtjgpkljepgcekaaGreat
section
variable {p m v : Nat} {P M : Int} {mf : LI} {X Y : LL} {C D : Int} {w wy : Nat}
end
end Go.Proofs.YtjgpkljepgcekaaGreat
namespace Go.Proofs.YtjgpkljepgcekaaGreat
/-! ### canonical matrices -/
variable {P M : Int} {mf : LI} {p m v : Nat} {C : Int} {X Y : LL}
/-- The rows are canonical; q: the columns of their first entries. -/
structure Cnl (C : Nat) (X : LL) (q : Nat -> Nat) : Prop where
  lt : ∀ i, i < X.length -> q i < C
  one : ∀ i, i < X.length -> ∀ t, t < X.length -> vo (row X t) (q i) = if t = i then 1 else 0
  lf : ∀ i, i < X.length -> ∀ c, c < q i -> vo (row X i) c = 0
  asc : ∀ i j, i < j -> j < X.length -> q i < q j
def Juv (C : Int) (X : LL) : Prop := ∃ q, Cnl C.toNat X q
theorem Jxo (a o : LI) : adx p m v a 0 o = a := by unfold adx; rw [if_pos rfl]
theorem ng_0 (hF : FV P M mf p m v) : Ng p m 0 = 0 := (Jp2 hF ⟨by omega, by
 have := hF.ring.q2; have h : (0 : Int) < ((p ^ m : Nat) : Int) := by exact_mod_cast (by omega : 0 < p ^ m)
 exact h⟩).2 rfl
theorem Jzz (hF : FV P M mf p m v) {S : ES} {k : Nat} (he : Els p m S.X) (hj : S.pv.length < S.X.length) (h1 : ∀ t, t < S.X.length -> vo (row S.X t) k = if t = S.pv.length then 1 else 0) : (es1 p m v k S.pv.length S.pv.length S).X = S.X := by
 rw [Jbq]; have e1 : swq S.X S.pv.length S.pv.length = S.X := by unfold swq; rw [if_pos rfl]
 rw [e1]; have e2 : scq p m v S.X S.pv.length (vo (row S.X S.pv.length) k) = S.X := by
  unfold scq; rw [h1 _ hj, if_pos rfl, Jwo hF, Jv1 hF (Qs he _)]; refine QV (by simp) fun i hi => ?_; rw [Q4]; split
  .rename_i h; rw [h.1]
  .rfl
 rw [e2]; refine QV (by rw [YG]) fun i hi => ?_; rw [YG] at hi; rw [YZ hi]; split
 .rfl
 .rename_i hne
  rw [h1 i hi, if_neg hne, ng_0 hF, Jxo]
theorem Jkv (hF : FV P M mf p m v) {q : Nat -> Nat} {w wy : Nat} {Y : LL} {d : Int} (hq : Cnl w X q) (he : Els p m X) : ∀ k, k <= w -> (elim p m v k ⟨X, Y, [], d⟩).X = X /\ ∃ j, j <= X.length /\ (∀ i, i < j -> q i < k) /\ (∀ i, j <= i -> i < X.length -> k <= q i) /\ (elim p m v k ⟨X, Y, [], d⟩).pv = (List.range j).map fun i => ((q i : Nat) : Int)
 | 0, _ => ⟨rfl, 0, Nat.zero_le _, fun i h => absurd h (Nat.not_lt_zero i), fun i _ _ => Nat.zero_le _, rfl⟩
 | k + 1, hk => by
  obtain ⟨h1, j, hj, h2, h3, h4⟩ := Jkv hF (Y := Y) (d := d) (wy := wy) hq he k (by omega); rw [QK]; generalize elim p m v k ⟨X, Y, [], d⟩ = S at h1 h4 ⊢; have hl : S.pv.length = j := by rw [h4]; simp
  unfold Q2; rw [hl, h1]; by_cases hjn : j < X.length
  .by_cases hqk : q j = k
   .have hn : nz X k j = j := (Jkm (Nat.le_refl _) hj (fun t a b => by omega) (fun hh => by
     have := hq.one j hh j hh; rw [hqk, if_pos rfl] at this; rw [this]; decide)).symm
    rw [hn, if_pos ⟨hjn, hjn⟩]; have e := Jzz (k := k) hF (S := S) (by rw [h1]; exact he) (by rw [hl, h1]; exact hjn) (fun t ht => by
     rw [h1] at ht ⊢; rw [hl, <- hqk]; exact hq.one j hjn t ht)
    rw [hl] at e; refine ⟨e.trans h1, j + 1, hjn, fun i hi => ?_, fun i a b => ?_, ?_⟩
    .rcases Nat.lt_or_ge i j with h | h
     .have := h2 i h; omega
     .have : i = j := by omega
      subst this; omega
    .have := hq.asc j i (by omega) b; omega
    .show S.pv ++ [(k : Int)] = _; rw [h4, List.range_succ, List.map_append, List.map_cons, List.map_nil, hqk]
   .have hlt : k < q j := by have := h3 j (Nat.le_refl _) hjn; omega
    have hz : ∀ t, j <= t -> t < X.length -> vo (row X t) k = 0 := fun t a b => hq.lf t b k (by
     rcases Nat.lt_or_ge j t with h | h
     .have := hq.asc j t h b; omega
     .have : t = j := by omega
      subst this; exact hlt)
    have hn : ¬ nz X k j < X.length := fun hh => (ZN X k j hj).2.2 hh (hz _ (Jp1 X k j) hh); rw [if_neg (fun hh => hn hh.2)]; refine ⟨h1, j, hj, fun i hi => by have := h2 i hi; omega, fun i a b => ?_, h4⟩; rcases Nat.lt_or_ge j i with h | h
    .have := hq.asc j i h b; omega
    .have : i = j := by omega
     subst this; omega
  .rw [if_neg (fun hh => hjn hh.1)]; exact ⟨h1, j, hj, fun i hi => by have := h2 i hi; omega, fun i a b => by omega, h4⟩
theorem Jqd (hF : FV P M mf p m v) (hs : shp C X) (he : Els p m X) {q : Nat -> Nat} (hq : Cnl C.toNat X q) : Qg p m v C X = X /\ JS p m v C X = (List.range X.length).map fun i => ((q i : Nat) : Int) := by
 obtain ⟨h1, j, hj, h2, h3, h4⟩ := Jkv (wy := 0) (Y := List.replicate X.length []) (d := 1) hF hq he C.toNat (Nat.le_refl _); have e : j = X.length := by
  rcases Nat.lt_or_ge j X.length with h | h
  .have := h3 j (Nat.le_refl _) h; have := hq.lt j h; omega
  .omega
 subst e; have hP : JS p m v C X = (List.range X.length).map fun i => ((q i : Nat) : Int) := h4; refine ⟨?_, hP⟩; show (elim p m v C.toNat ⟨X, List.replicate X.length [], [], 1⟩).X.take (elim p m v C.toNat ⟨X, List.replicate X.length [], [], 1⟩).pv.length = X; rw [h1, h4, List.length_map, List.length_range, List.take_length]
theorem Jal (hs : shp C X) {i : Nat} (hi : i < (JS p m v C X).length) : (((vo (JS p m v C X) i).toNat : Nat) : Int) = vo (JS p m v C X) i /\ (vo (JS p m v C X) i).toNat < C.toNat := by
 have h := (Yj (p := p) (m := m) (v := v) C X).1 i hi; omega
theorem Jiw (hF : FV P M mf p m v) (hs : shp C X) (he : Els p m X) : Cnl C.toNat (Qg p m v C X) fun i => (vo (JS p m v C X) i).toNat := by
 have hl := QQ (p := p) (m := m) (v := v) hs; refine ⟨fun i hi => (Jal hs (by omega)).2, fun i hi t ht => Jlc hF hs he (by omega) (by omega), fun i hi c hc => ?_, fun i j hij hj => ?_⟩
 .exact Jxb hF hs he (by omega) (by have := (Jal (p := p) (m := m) (v := v) hs (i := i) (by omega)).1; omega)
 .have h := (Yj (p := p) (m := m) (v := v) C X).2 i j hij (by omega); have h1 := (Jal (p := p) (m := m) (v := v) hs (i := i) (by omega)).1; have h2 := (Jal (p := p) (m := m) (v := v) hs (i := j) (by omega)).1; omega
theorem Jqe (hF : FV P M mf p m v) (hs : shp C X) (he : Els p m X) : Qg p m v C (Qg p m v C X) = Qg p m v C X /\ JS p m v C (Qg p m v C X) = JS p m v C X := by
 have h := Jqd hF (Zq hs) (Jak hF he) (Jiw hF hs he); refine ⟨h.1, h.2.trans ?_⟩; have hl := QQ (p := p) (m := m) (v := v) hs; refine List.ext_getElem (by simp [hl]) fun i h1 h2 => ?_; simp only [List.getElem_map, List.getElem_range]; rw [(Jal hs h2).1]; unfold vo; rw [List.getD_eq_getElem?_getD, List.getElem?_eq_getElem h2]; rfl
theorem Jw7 (hF : FV P M mf p m v) (hs : shp C X) (he : Els p m X) : Juv C X ↔ Qg p m v C X = X :=
 ⟨fun ⟨q, hq⟩ => (Jqd hF hs he hq).1, fun h => ⟨_, by have := Jiw hF hs he; rwa [h] at this⟩⟩
/-- Canonical rows are no more than columns. -/
theorem Cnl.len {w : Nat} {q : Nat -> Nat} (h : Cnl w X q) : X.length <= w := by
  have : ∀ k, k <= X.length -> k = 0 ∨ k <= q (k - 1) + 1 := by
    intro k
    induction k with
    | zero => intro _; exact .inl rfl
    | succ k ih =>
      intro hk
      refine .inr ?_
      rcases ih (by omega) with h0 | h1
      . subst h0; omega
      . rcases Nat.eq_zero_or_pos k with h0 | h0
        . subst h0; omega
        . have := h.asc (k - 1) k (by omega) (by omega)
          rw [Nat.add_sub_cancel]; omega
  rcases this X.length (Nat.le_refl _) with h0 | h1
  . omega
  . rcases Nat.eq_zero_or_pos X.length with h0 | h0
    . omega
    . have := h.lt (X.length - 1) (by omega); omega
end Go.Proofs.YtjgpkljepgcekaaGreat
namespace Go.Proofs.YtjgpkljepgcekaaGreat
/-! ### words reduced by canonical rows -/
variable {P M : Int} {mf : LI} {p m v : Nat} {C : Int} {X Y : LL} {w : Nat}
end Go.Proofs.YtjgpkljepgcekaaGreat
